/- HELPERS: texts of ours put together. -/
import Derived.Test.YtacaanhnlfpbhaaGreatK19
import Derived.Test.YtacaanhnlfpbhaaGreatK18
import Derived.Test.YtacaanhnlfpbhaaGreatK12
import Derived.Test.YtacaanhnlfpbhaaGreatK04
import Derived.Test.YtacaanhnlfpbhaaGreatK03
import Derived.Test.YtacaanhnlfpbhaaGreatK01
import Derived.Deep.SlicePairs
import Derived.RowKit
import Derived.Test.YtacaanhnlfpbhaaGreatK06
import Derived.Laws.EntriesVeiled
import Derived.Test.YtacaanhnlfpbhaaGreatK07
import Derived.Test.YtacaanhnlfpbhaaGreatK02
import Derived.WalkKit
import Derived.Laws.BitsLemmas
import Derived.Deep.RegionHeld2
import Derived.Lib.MinMax
import Derived.BigQuiet
import Derived.Deep.Cut
import Derived.Test.YtacaanhnlfpbhaaGreatK16
import Derived.Test.YtacaanhnlfpbhaaGreatK17
import Derived.Test.YtacaanhnlfpbhaaGreatK14
import Derived.Test.YtacaanhnlfpbhaaGreatK32
import Derived.Test.YtacaanhnlfpbhaaGreatK31
import Derived.Test.YtacaanhnlfpbhaaGreatK15
namespace Go.Proofs.YtacaanhnlfpbhaaGreat
open Go.RowKit
set_option linter.unusedVariables false
set_option linter.unusedSimpArgs false
theorem nb_loop (mn mx:Int) (lz:Bool) (h:mn=0∧mx=-1∨mn=1∧mx=-1∨mn=0∧mx=1):nodeB 6 [] 0 1 mn mx lz 0 ⟨#[]⟩=true:=by
 rcases h with ⟨rfl,rfl⟩ | ⟨rfl,rfl⟩ | ⟨rfl,rfl⟩ <;> simp [nodeB,bareB,ByteArray.toList,ByteArray.toList.loop,ByteArray.size]
theorem nb_empty:nodeB 1 [] 0 0 0 0 false 0 ⟨#[]⟩=true:=by simp [nodeB,bareB,ByteArray.toList,ByteArray.toList.loop,ByteArray.size]
theorem nb_cat (n:Nat) (h:2≤n):nodeB 4 [] 0 n 0 0 false 0 ⟨#[]⟩=true:=by simp [nodeB,bareB,ByteArray.toList,ByteArray.toList.loop,ByteArray.size,h]
theorem fineL_allx:∀ {l:List Tn},(∀ x ∈ l,x.fine=true)→fineL l=true
 | [],_=>rfl
 | t :: ts,h=>by simp only [fineL,Bool.and_eq_true];exact ⟨h t (List.mem_cons_self ..),fineL_allx fun x hx=>h x (List.mem_cons_of_mem _ hx)⟩
theorem fine_row {l:List Tn} (h:∀ x ∈ l,x.fine=true):(rowN l).fine=true:=by
 match l,h with
 | [],_=>simp only [rowN,Tn.fine,List.length_nil,nb_empty,fineL];rfl
 | [x],h=>exact h x (by simp)
 | x :: y :: l,h =>
  simp only [rowN,Tn.fine,Bool.and_eq_true]
  exact ⟨nb_cat _ (by simp),fineL_allx h⟩
theorem fine_loop {x:Tn} (h:x.fine=true) {mn mx:Int} (lz:Bool) (hm:mn=0∧mx=-1∨mn=1∧mx=-1∨mn=0∧mx=1):(loopN x mn mx lz).fine=true:=by
 simp only [loopN,Tn.fine,List.length_cons,List.length_nil,Bool.and_eq_true,fineL,h]
 exact ⟨nb_loop mn mx lz hm,by trivial⟩
theorem fine_opt {x:Tn} (h:x.fine=true) (lz:Bool):∀ k,(optN x lz k).fine=true
 | 0=>fine_loop h lz (.inr (.inr ⟨rfl,rfl⟩))
 | k + 1=>fine_loop (fine_row fun y hy=>by simp at hy;rcases hy with rfl | rfl;exact h;exact fine_opt h lz k) lz (.inr (.inr ⟨rfl,rfl⟩))
theorem fine_spr {x:Tn} (h:x.fine=true) {mn mx:Int} (lz:Bool) (h0:0≤mn):(sprN x mn mx lz).fine=true:=by
 unfold sprN
 split
 ·split
  ·exact fine_loop h lz (by omega)
  ·refine fine_row fun y hy=>?_
   rcases List.mem_append.1 hy with hy | hy
   ·rw [List.eq_of_mem_replicate hy];exact h
   ·simp at hy;rw [hy];exact fine_loop h lz (.inr (.inl ⟨rfl,rfl⟩))
 ·refine fine_row fun y hy=>?_
  rcases List.mem_append.1 hy with hy | hy
  ·rw [List.eq_of_mem_replicate hy];exact h
  ·split at hy
   ·simp at hy;rw [hy];exact fine_opt h lz _
   ·cases hy
mutual
def Tn.sfT:Tn→Prop
 | .mk k R a s mn mx lz ix nm=>(k=6→(mn=0∧mx=-1∨mn=1∧mx=-1)∨mn=0∧mx=1)∧sfTL s
def sfTL:List Tn→Prop
 | []=>True
 | t :: ts=>t.sfT∧sfTL ts
end
theorem sfTL_all:∀ {l:List Tn},(∀ x ∈ l,x.sfT)→sfTL l
 | [],_=>trivial
 | t :: ts,h=>⟨h t (List.mem_cons_self ..),sfTL_all fun x hx=>h x (List.mem_cons_of_mem _ hx)⟩
theorem sf_row {l:List Tn} (h:∀ x ∈ l,x.sfT):(rowN l).sfT:=by
 match l,h with
 | [],_=>simp only [rowN,Tn.sfT,sfTL];exact ⟨fun h=>absurd h (by decide),trivial⟩
 | [x],h=>exact h x (by simp)
 | x :: y :: l,h =>
  simp only [rowN,Tn.sfT]
  exact ⟨fun h=>absurd h (by decide),sfTL_all h⟩
theorem sf_loop {x:Tn} (h:x.sfT) {mn mx:Int} (lz:Bool) (hm:mn=0∧mx=-1∨mn=1∧mx=-1∨mn=0∧mx=1):(loopN x mn mx lz).sfT:=by
 simp only [loopN,Tn.sfT,sfTL]
 exact ⟨fun _=>by omega,h,trivial⟩
theorem sf_opt {x:Tn} (h:x.sfT) (lz:Bool):∀ k,(optN x lz k).sfT
 | 0=>sf_loop h lz (.inr (.inr ⟨rfl,rfl⟩))
 | k + 1=>sf_loop (sf_row fun y hy=>by simp at hy;rcases hy with rfl | rfl;exact h;exact sf_opt h lz k) lz (.inr (.inr ⟨rfl,rfl⟩))
theorem sf_spr {x:Tn} (h:x.sfT) {mn mx:Int} (lz:Bool) (h0:0≤mn):(sprN x mn mx lz).sfT:=by
 unfold sprN
 split
 ·split
  ·exact sf_loop h lz (by omega)
  ·refine sf_row fun y hy=>?_
   rcases List.mem_append.1 hy with hy | hy
   ·rw [List.eq_of_mem_replicate hy];exact h
   ·simp at hy;rw [hy];exact sf_loop h lz (.inr (.inl ⟨rfl,rfl⟩))
 ·refine sf_row fun y hy=>?_
  rcases List.mem_append.1 hy with hy | hy
  ·rw [List.eq_of_mem_replicate hy];exact h
  ·split at hy
   ·simp at hy;rw [hy];exact sf_opt h lz _
   ·cases hy
mutual
theorem spread_ok:∀ (t:Tn),t.fine=true→t.spread.fine=true∧t.spread.sfT
 | .mk k R a s mn mx lz ix nm,h=>by
  simp only [Tn.fine,Bool.and_eq_true] at h
  have hF:=fine_nodeZ h.1
  obtain ⟨i1,i2⟩:=spreadL_ok s h.2
  by_cases hk:k=6
  ·obtain ⟨q1,q2,q3,q4⟩:=hF.rep hk
   obtain ⟨x,rfl⟩:∃ t,s=[t]:=List.length_eq_one_iff.1 q1
   simp only [Tn.spread,hk,if_true,spreadL]
   simp only [spreadL,fineL,sfTL,Bool.and_eq_true] at i1 i2
   exact ⟨fine_spr i1.1 lz q2,sf_spr i2.1 lz q2⟩
  ·simp only [Tn.spread,if_neg hk,Tn.fine,Tn.sfT,Bool.and_eq_true]
   refine ⟨⟨?_,i1⟩,fun e=>absurd e hk,i2⟩
   rw [spreadL_map,List.length_map]
   exact h.1
theorem spreadL_ok:∀ (ts:List Tn),fineL ts=true→fineL (spreadL ts)=true∧sfTL (spreadL ts)
 | [],_=>⟨rfl,trivial⟩
 | t :: ts,h=>by
  simp only [fineL,Bool.and_eq_true] at h
  obtain ⟨a1,a2⟩:=spread_ok t h.1
  obtain ⟨b1,b2⟩:=spreadL_ok ts h.2
  simp only [spreadL,fineL,sfTL,Bool.and_eq_true]
  exact ⟨⟨a1,b1⟩,a2,b2⟩
end
theorem nodes_row (l:List Tn):(rowN l).nodes≤1 + nodesL l:=by
 match l with
 | []=>simp [rowN,Tn.nodes,nodesL]
 | [x]=>simp [rowN,nodesL]
 | x :: y :: l=>simp [rowN,Tn.nodes]
theorem nodes_repl (x:Tn):∀ c,nodesL (List.replicate c x)=c * x.nodes
 | 0=>by simp [nodesL]
 | c + 1=>by rw [List.replicate_succ,nodesL,nodes_repl x c,Nat.succ_mul];omega
theorem nodes_loop (x:Tn) (mn mx:Int) (lz:Bool):(loopN x mn mx lz).nodes=1 + x.nodes:=by simp [loopN,Tn.nodes,nodesL]
theorem nodes_opt (x:Tn) (lz:Bool):∀ k,(optN x lz k).nodes≤(k + 1) * x.nodes + 2 * k + 1
 | 0=>by rw [optN,nodes_loop];omega
 | k + 1=>by
  have h1:=nodes_opt x lz k
  have h2:=nodes_row [x,optN x lz k]
  rw [optN,nodes_loop]
  simp only [nodesL] at h2
  rw [Nat.succ_mul (k + 1)]
  omega
theorem nodes_spr {x:Tn} {n:Nat} (hx:x.nodes + 2≤3 * n) {mn mx:Int} (lz:Bool) (h0:0≤mn) (h1:mx=-1∨mn≤mx):(sprN x mn mx lz).nodes + 2≤3 * repN mn mx n:=by
 unfold sprN repN
 by_cases c:mx < 0
 ·have hm:mx=-1:=by omega
  rw [if_pos c,if_pos hm]
  split
  ·rw [nodes_loop]
   have h3:max mn.toNat 1=1:=by omega
   rw [h3]
   omega
  ·have h2:=nodes_row (List.replicate (mn - 1).toNat x ++ [loopN x 1 (-1) lz])
   rw [nodesL_app,nodes_repl] at h2
   simp only [nodesL,nodes_loop] at h2
   have h3:max mn.toNat 1=(mn - 1).toNat + 1:=by omega
   rw [h3]
   generalize (mn - 1).toNat=c at *
   have h4:=Nat.mul_le_mul_left c hx
   have h5:c * (x.nodes + 2)=c * x.nodes + 2 * c:=by rw [Nat.mul_add];omega
   have h6:c * (3 * n)=3 * (c * n):=by rw [Nat.mul_left_comm]
   have h7:(c + 1) * n=c * n + n:=Nat.succ_mul _ _
   rw [h5,h6] at h4
   rw [h7]
   clear h5 h6 h7
   generalize c * x.nodes=A at *
   generalize c * n=C at *
   omega
 ·have hm:¬ mx=-1:=by omega
  rw [if_neg c,if_neg hm]
  have h4:=Nat.mul_le_mul_left mn.toNat hx
  have h5:mn.toNat * (x.nodes + 2)=mn.toNat * x.nodes + 2 * mn.toNat:=by rw [Nat.mul_add];omega
  have h6:mn.toNat * (3 * n)=3 * (mn.toNat * n):=by rw [Nat.mul_left_comm]
  rw [h5,h6] at h4
  by_cases d:mn < mx
  ·rw [if_pos d]
   have h2:=nodes_row (List.replicate mn.toNat x ++ [optN x lz (mx - mn - 1).toNat])
   rw [nodesL_app,nodes_repl] at h2
   simp only [nodesL] at h2
   have h7:=nodes_opt x lz (mx - mn - 1).toNat
   have e:(mx - mn).toNat=(mx - mn - 1).toNat + 1:=by omega
   rw [e]
   generalize (mx - mn - 1).toNat=k at *
   have h8:=Nat.mul_le_mul_left (k + 1) hx
   have h9:(k + 1) * (x.nodes + 2)=(k + 1) * x.nodes + 2 * (k + 1):=by rw [Nat.mul_add];omega
   have h10:(k + 1) * (3 * n)=3 * ((k + 1) * n):=by rw [Nat.mul_left_comm]
   have h11:(k + 1) * (1 + n)=(k + 1) + (k + 1) * n:=by rw [Nat.mul_add];omega
   rw [h9,h10] at h8
   rw [h11]
   generalize (k + 1) * x.nodes=A at *
   generalize (k + 1) * n=C at *
   generalize mn.toNat * x.nodes=A' at *
   generalize mn.toNat * n=C' at *
   omega
  ·rw [if_neg d,List.append_nil]
   have e:(mx - mn).toNat=0:=by omega
   rw [e]
   rcases Nat.lt_or_ge mn.toNat 2 with g | g
   ·rcases Nat.lt_or_ge mn.toNat 1 with g' | g'
    ·have:mn.toNat=0:=by omega
     rw [this];simp [rowN,Tn.nodes,nodesL]
    ·have:mn.toNat=1:=by omega
     rw [this];simp [rowN];omega
   ·have h2:=nodes_row (List.replicate mn.toNat x)
    rw [nodes_repl] at h2
    generalize mn.toNat * x.nodes=A' at *
    generalize mn.toNat * n=C' at *
    omega
mutual
theorem spread_nodes:∀ (t:Tn),t.fine=true→t.spread.nodes + 2≤3 * t.sz
 | .mk k R a s mn mx lz ix nm,h=>by
  simp only [Tn.fine,Bool.and_eq_true] at h
  have hF:=fine_nodeZ h.1
  have i1:=spreadL_nodes s h.2
  by_cases hk:k=6
  ·obtain ⟨q1,q2,q3,q4⟩:=hF.rep hk
   obtain ⟨x,rfl⟩:∃ t,s=[t]:=List.length_eq_one_iff.1 q1
   simp only [spreadL,nodesL,szL,List.length_cons,List.length_nil] at i1
   simp only [Tn.spread,Tn.sz,hk,if_true,spreadL]
   exact nodes_spr (by simp only [szL];omega) lz q2 (by omega)
  ·simp only [Tn.spread,if_neg hk,Tn.nodes,Tn.sz]
   omega
theorem spreadL_nodes:∀ (ts:List Tn),fineL ts=true→nodesL (spreadL ts) + 2 * ts.length≤3 * szL ts
 | [],_=>by simp [spreadL,nodesL,szL]
 | t :: ts,h=>by
  simp only [fineL,Bool.and_eq_true] at h
  have h1:=spread_nodes t h.1
  have h2:=spreadL_nodes ts h.2
  simp only [spreadL,nodesL,szL,List.length_cons]
  omega
end
structure BX (t:Nat) (n:Int) (lo:Nat) (n':Int) (lo':Nat) (LE:List (Nat × Way)):Prop where
 n1:n≤n'∧n'≤n + 2 * (t:Int)
 l1:lo≤lo'
 ke:∀ p ∈ LE,lo≤p.1∧p.1 < lo'
 nd:(LE.map Prod.fst).Nodup
 wf:∀ p ∈ LE,Gw p.2∧p.2.ua=[]
theorem BX.nil (t:Nat) (n:Int) (lo:Nat):BX t n lo n lo []:=⟨⟨by omega,by omega⟩,Nat.le_refl _,fun p h=>(by cases h),(by simp),fun p h=>(by cases h)⟩
theorem BX.one {n:Int} {lo:Nat} (t:Nat) (h:1≤t):BX t n lo (n + 1) lo []:=⟨⟨by omega,by omega⟩,Nat.le_refl _,fun p h=>(by cases h),(by simp),fun p h=>(by cases h)⟩
theorem BX.seq {t u v:Nat} {n n1 n2:Int} {lo lo1 lo2:Nat} {LE LE':List (Nat × Way)} (h:BX t n lo n1 lo1 LE) (h':BX u n1 lo1 n2 lo2 LE') (hv:t + u≤v):BX v n lo n2 lo2 (LE ++ LE'):=by
 have a1:=h.n1
 have a2:=h'.n1
 have b1:=h.l1
 have b2:=h'.l1
 refine ⟨⟨by omega,by omega⟩,by omega,fun p hp=>?_,?_,fun p hp=>?_⟩
 ·rcases List.mem_append.1 hp with hp | hp
  ·have:=h.ke p hp;omega
  ·have:=h'.ke p hp;omega
 ·rw [List.map_append,List.nodup_append]
  refine ⟨h.nd,h'.nd,fun x hx y hy=>?_⟩
  obtain ⟨p,hp,rfl⟩:=List.mem_map.1 hx
  obtain ⟨q,hq,rfl⟩:=List.mem_map.1 hy
  have:=h.ke p hp
  have:=h'.ke q hq
  omega
 ·rcases List.mem_append.1 hp with hp | hp
  ·exact h.wf p hp
  ·exact h'.wf p hp
theorem BX.more {t u:Nat} {n n1 n2:Int} {lo lo1:Nat} {LE:List (Nat × Way)} (h:BX t n lo n1 lo1 LE) (h1:n1≤n2∧n2≤n1 + 2 * ((u:Int) - (t:Int))):BX u n lo n2 lo1 LE:=by
 have:=h.n1
 exact ⟨⟨by omega,by omega⟩,h.l1,h.ke,h.nd,h.wf⟩
theorem BX.loop {t u:Nat} {n n2:Int} {lo lo1:Nat} {LE:List (Nat × Way)} {W:Way} (h:BX t (n + 1) (lo + 1) n2 lo1 LE) (hu:t + 1≤u) (hW:Gw W∧W.ua=[]):BX u n lo n2 lo1 ((lo,W) :: LE):=by
 have a1:=h.n1
 have b1:=h.l1
 refine ⟨⟨by omega,by omega⟩,by omega,fun p hp=>?_,?_,fun p hp=>?_⟩
 ·rcases List.mem_cons.1 hp with rfl | hp
  ·exact ⟨Nat.le_refl _,by show lo < lo1;omega⟩
  ·have:=h.ke p hp;omega
 ·rw [List.map_cons,List.nodup_cons]
  refine ⟨fun hx=>?_,h.nd⟩
  obtain ⟨p,hp,e⟩:=List.mem_map.1 hx
  have:=h.ke p hp
  simp only at e
  omega
 ·rcases List.mem_cons.1 hp with rfl | hp
  ·exact hW
  ·exact h.wf p hp
theorem app_all {LE LE':List (Nat × Way)} {E:Nat→Way} (h:∀ p ∈ LE ++ LE',E p.1=p.2):(∀ p ∈ LE,E p.1=p.2)∧∀ p ∈ LE',E p.1=p.2:=⟨fun p hp=>h p (List.mem_append.2 (.inl hp)),fun p hp=>h p (List.mem_append.2 (.inr hp))⟩
theorem right_few {R:List (Int × Int)} (h:rightB R=true):R.length≤1000000:=by
 simp only [rightB,Bool.and_eq_true,decide_eq_true_eq] at h
 omega
mutual
theorem beg_ex:∀ (t:Tn),t.fine=true→t.sfT→∀ (n:Int) (B:Way) (lo:Nat),0≤n→n + 2 * (t.nodes:Int)≤900000000→Gw B→∃ n' W lo' LE,BX t.nodes n lo n' lo' LE∧Gw W∧W.ua=[]∧∀ E:Nat→Way,(∀ p ∈ LE,E p.1=p.2)→Beg E t n B n' W
 | .mk k R a s mn mx lz ix nm,hf,hs,n,B,lo,hn,hb,hB=>by
  simp only [Tn.fine,Bool.and_eq_true] at hf
  simp only [Tn.sfT] at hs
  simp only [Tn.nodes] at hb ⊢
  have hF:=fine_nodeZ hf.1
  rcases hF.kind with rfl | rfl | rfl | rfl | rfl | rfl | rfl
  ·exact ⟨n + 1,.once (n + 1) B,lo,[],.one _ (by omega),hB.once (by omega) (by omega),by simp [Way.ua],fun E _=>.empty⟩
  ·exact ⟨n + 1,.once (n + 1) (.runeOf R B),lo,[],.one _ (by omega),(hB.runeOf (right_few (hF.cls rfl))).once (by omega) (by omega),by simp [Way.ua],fun E _=>.cls⟩
  ·exact ⟨n + 1,.once (n + 1) (.ifHolds a B),lo,[],.one _ (by omega),hB.ifHolds.once (by omega) (by omega),by simp [Way.ua],fun E _=>.ast⟩
  ·obtain ⟨n',W,lo',LE,h1,h2,h3,h4⟩:=begC_ex s hf.2 hs.2 n B lo hn (by omega) hB
   have:=h1.n1
   exact ⟨n',W,lo',LE,h1.more ⟨by omega,by omega⟩,h2,h3 (by have:=hF.two (.inl rfl);intro e;rw [e] at this;simp at this),fun E hE=>.cat (h4 E hE)⟩
  ·obtain ⟨n',Ws,lo',LE,h1,h2,h4⟩:=begA_ex s hf.2 hs.2 [] n n B lo lo [] [] 0 hn (by omega) hB (.nil 0 n lo) .nil (fun E _=>.nil)
   rw [Nat.zero_add] at h1
   have:=h1.n1
   exact ⟨n' + 1,.once (n' + 1) (.inOrder Ws),lo',LE,h1.more ⟨by omega,by omega⟩,(Gw.inOrder h2).once (by omega) (by omega),by simp [Way.ua],fun E hE=>.alt (h4 E hE)⟩
  ·obtain ⟨q1,q2,q3,q4⟩:=hF.rep rfl
   obtain ⟨t,rfl⟩:∃ t,s=[t]:=List.length_eq_one_iff.1 q1
   simp only [fineL,sfTL,Bool.and_eq_true,nodesL] at hf hs hb ⊢
   rcases hs.1 trivial with hm | ⟨rfl,rfl⟩
   ·obtain ⟨n2,W2,lo2,LE2,h1,h2,h3,h4⟩:=beg_ex t hf.2.1 hs.2.1 (n + 1) (Dcd lz n lo B) (lo + 1) (by omega) (by omega) ((Gw.pair hB (.again lo)).once (by omega) (by omega))
    have hx:BX (1 + (t.nodes + 0)) n lo n2 lo2 ((lo,W2) :: LE2):=h1.loop (by omega) ⟨h2,h3⟩
    rcases hm with ⟨rfl,rfl⟩ | ⟨rfl,rfl⟩
    ·refine ⟨n2,Dcd lz n lo B,lo2,_,hx,(Gw.pair hB (.again lo)).once (by omega) (by omega),by simp [Way.ua],fun E hE=>.any0 ?_⟩
     have e:E lo=W2:=hE (lo,W2) (List.mem_cons_self ..)
     rw [e]
     exact h4 E fun p hp=>hE p (List.mem_cons_of_mem _ hp)
    ·refine ⟨n2,W2,lo2,_,hx,h2,h3,fun E hE=>?_⟩
     have e:E lo=W2:=hE (lo,W2) (List.mem_cons_self ..)
     have h5:=h4 E fun p hp=>hE p (List.mem_cons_of_mem _ hp)
     rw [← e] at h5 ⊢
     exact Beg.any (c:=0) h5 .zero
   ·obtain ⟨n2,W2,lo2,LE2,h1,h2,h3,h4⟩:=beg_ex t hf.2.1 hs.2.1 n B lo hn (by omega) hB
    have:=h1.n1
    refine ⟨n2 + 1,.once (n2 + 1) (.inOrder (if lz=true then [B,W2] else [W2,B])),lo2,LE2,h1.more ⟨by omega,by omega⟩,(Gw.pair hB h2).once (by omega) (by omega),by simp [Way.ua],fun E hE=>?_⟩
    exact Beg.bnd (c:=0) (m:=1) (.succ .zero (h4 E hE)) .zero
  ·obtain ⟨q1,q2,q3⟩:=hF.grp rfl
   obtain ⟨t,rfl⟩:∃ t,s=[t]:=List.length_eq_one_iff.1 q1
   simp only [fineL,sfTL,Bool.and_eq_true,nodesL] at hf hs hb ⊢
   obtain ⟨i,rfl⟩:=Int.eq_ofNat_of_zero_le (show 0≤ix by omega)
   obtain ⟨n',W,lo',LE,h1,h2,h3,h4⟩:=beg_ex t hf.2.1 hs.2.1 n (.noted (2 * i + 1) B) lo hn (by omega) hB.noted
   have:=h1.n1
   exact ⟨n' + 1,.once (n' + 1) (.noted (2 * i) W),lo',LE,h1.more ⟨by omega,by omega⟩,h2.noted.once (by omega) (by omega),by simp [Way.ua],fun E hE=>.grp (h4 E hE)⟩
theorem begC_ex:∀ (ts:List Tn),fineL ts=true→sfTL ts→∀ (n:Int) (B:Way) (lo:Nat),0≤n→n + 2 * (nodesL ts:Int)≤900000000→Gw B→∃ n' W lo' LE,BX (nodesL ts) n lo n' lo' LE∧Gw W∧(ts≠[]→W.ua=[])∧∀ E:Nat→Way,(∀ p ∈ LE,E p.1=p.2)→BegC E ts n B n' W
 | [],hf,hs,n,B,lo,hn,hb,hB=>⟨n,B,lo,[],.nil _ _ _,hB,fun h=>absurd rfl h,fun E _=>.nil⟩
 | t :: ts,hf,hs,n,B,lo,hn,hb,hB=>by
  simp only [fineL,Bool.and_eq_true] at hf
  simp only [sfTL] at hs
  simp only [nodesL] at hb ⊢
  obtain ⟨n1,W1,lo1,LE1,h1,h2,h3,h4⟩:=begC_ex ts hf.2 hs.2 n B lo hn (by omega) hB
  have a1:=h1.n1
  obtain ⟨n2,W2,lo2,LE2,g1,g2,g3,g4⟩:=beg_ex t hf.1 hs.1 n1 W1 lo1 (by omega) (by omega) h2
  exact ⟨n2,W2,lo2,LE1 ++ LE2,h1.seq g1 (by omega),g2,fun _=>g3,fun E hE=>.cons (h4 E (app_all hE).1) (g4 E (app_all hE).2)⟩
theorem begA_ex:∀ (ts:List Tn),fineL ts=true→sfTL ts→∀ (us:List Tn) (n n0:Int) (B:Way) (lo lo0:Nat) (Ws:List Way) (LE:List (Nat × Way)) (c:Nat),0≤n→n + 2 * (nodesL ts:Int)≤900000000→Gw B→BX c n0 lo0 n lo LE→GwL Ws→(∀ E:Nat→Way,(∀ p ∈ LE,E p.1=p.2)→BegA E us n0 B n Ws) →
  ∃ n' Ws' lo' LE',BX (c + nodesL ts) n0 lo0 n' lo' LE'∧GwL Ws'∧∀ E:Nat→Way,(∀ p ∈ LE',E p.1=p.2)→BegA E (us ++ ts) n0 B n' Ws'
 | [],hf,hs,us,n,n0,B,lo,lo0,Ws,LE,c,hn,hb,hB,hX,hW,hA=>⟨n,Ws,lo,LE,by simp only [nodesL,Nat.add_zero];exact hX,hW,fun E hE=>by rw [List.append_nil];exact hA E hE⟩
 | t :: ts,hf,hs,us,n,n0,B,lo,lo0,Ws,LE,c,hn,hb,hB,hX,hW,hA=>by
  simp only [fineL,Bool.and_eq_true] at hf
  simp only [sfTL] at hs
  simp only [nodesL] at hb ⊢
  obtain ⟨n1,W1,lo1,LE1,g1,g2,g3,g4⟩:=beg_ex t hf.1 hs.1 n B lo hn (by omega) hB
  have a1:=g1.n1
  obtain ⟨n2,Ws2,lo2,LE2,k1,k2,k3⟩:=begA_ex ts hf.2 hs.2 (us ++ [t]) n1 n0 B lo1 lo0 (Ws ++ [W1]) (LE ++ LE1) (c + t.nodes) (by omega) (by omega) hB (hX.seq g1 (Nat.le_refl _)) (hW.snoc g2) (fun E hE=>.snoc (hA E (app_all hE).1) (g4 E (app_all hE).2))
  refine ⟨n2,Ws2,lo2,LE2,by rw [← Nat.add_assoc];exact k1,k2,fun E hE=>?_⟩
  have:=k3 E hE
  rw [List.append_assoc] at this
  exact this
end
theorem PS.of_sf {t:Tn} (hf:t.fine=true) (hs:t.sfT) (hn:t.nodes≤400000000) (K:Nat) (tx:List Int) (p:Nat) (hp:p≤tx.length):∃ l,PS t K tx p l:=by
 have h1:Gw (.once 1 .through):=⟨by simp only [Way.tg];exact ⟨⟨by omega,by omega⟩,.inl ⟨trivial,trivial⟩⟩,by simp only [Way.few]⟩
 obtain ⟨n1,W,lo,LE,hX,hW,_,hE⟩:=beg_ex t hf hs 1 (.once 1 .through) 0 (by omega) (by omega) h1
 have hEg:=envOf_good LE hX.wf
 obtain ⟨s',hx,_⟩:=good_all (tx:=tx) (E:=envOf LE) (top:=1000000000) (fun b=>⟨(hEg b).1.tg,(hEg b).2⟩) _ ⟨[],(List.replicate K (-1)).set 0 (p:Int),[]⟩ W p (Nat.le_refl _) hW.tg hp
 exact ⟨s'.parses,⟨envOf LE,W,n1,s',hE (envOf LE) (envOf_mem LE hX.nd),hEg,hW,hx,rfl⟩⟩
theorem PS.spread_eq {t:Tn} {K:Nat} {tx:List Int} {p:Nat} {l m:List (Int × List Int)} (h:PS t.spread K tx p l) (h':PS t K tx p m):l=m:=by
 obtain ⟨E,W,n1,s1,hB,hE,hg,hx,rfl⟩:=h.ex
 obtain ⟨E',W',n1',s1',hB',hE',hg',hx',rfl⟩:=h'.ex
 obtain ⟨G0,hG0⟩:∃ G0:Mat,G0=⟨fun a a'=>a=1∧a'=1,fun _ _=>False,fun _ _=>False,fun _=>.through,false,Eq,Eq⟩:=⟨_,rfl⟩
 obtain ⟨G,hI,hgr,hS,h0,hH⟩:=beg_spread hB' _ _ _ _ hB G0 (by rw [hG0]) (by rw [hG0];exact ⟨fun a a' h=>by simp at h;omega,fun _ _ h=>h.elim,fun a a' m m' h1 h2=>by simp at h1 h2;omega,fun _ _ _ h=>h.elim,fun _ _ _ h=>h.elim⟩) (by rw [hG0];exact .once ⟨rfl,rfl⟩ .through) ⟨1,by rw [hG0];exact .once (n':=1) ⟨rfl,rfl⟩⟩
 have hnr:G.NR=Eq:=by rw [hgr.nr,hG0]
 have hpr:G.PR=Eq:=by rw [hgr.pr,hG0]
 have hdr:G.drop=false:=by rw [hgr.dr,hG0]
 have hok:G.Ok E E':=by
  refine ⟨hI.one,hI.noC,hI.oneX,fun b b' hb=>?_,fun c x ν ν' hd hn=>?_,fun c x ν ν' hd _=>(by rw [hdr] at hd;cases hd),fun q ν ν' a b hn h=>?_⟩
  ·rcases hgr.new b b' hb with hb | hb
   ·rw [hG0] at hb;exact hb.elim
   ·exact hb
  ·rw [hnr] at hn ⊢;rw [hn]
  ·rw [hpr] at h ⊢
   rw [hnr] at hn
   rw [hn,h]
 obtain ⟨s2,hx2,hA⟩:=sim_ex hok hx W' ⟨[],(List.replicate K (-1)).set 0 (p:Int),[]⟩ NoP hS ⟨fun a a' q _=>by simp,fun m n0 q _ hm=>by simp at hm,by rw [hnr],by rw [hpr]⟩ (Pend.no _ _)
 have e:=hx'.det hx2
 subst e
 have:=hA.pr
 rw [hpr] at this
 exact this



abbrev BNo (w:World) (b:Nat) (N:Nv):Prop:=w.heap[b]?=some (.cells #[.int .i64 N.k,.slice N.r1 N.r2 N.r3,.int .i64 N.a2,.slice N.s1 N.s2 N.s3,.int .i64 N.a4,.int .i64 N.a5,.bool N.a6,.int .i64 N.a7,.string N.a8] 25 (0,0))



end Go.Proofs.YtacaanhnlfpbhaaGreat
namespace Go.Proofs.YtacaanhnlfpbhaaGreat
open Go.RowKit Go.Lk
set_option linter.unusedVariables false
set_option linter.unusedSimpArgs false

theorem hs_has (R:List (Int × Int)) (r:Int):hsB R r=(rightB R && hasB R r):=rfl
theorem held_at {tx:List Int} {p:Nat} (h:p≤tx.length) (a:Int):heldB tx a p=holdsB a (atP tx p):=by
 have e:Look.atN tx (p:Int)=atP tx p:=by
  unfold Look.atN
  rw [if_neg (by omega)]
  rfl
 unfold heldB holdsB
 rw [e]
theorem Ex.par {tx:List Int} {E:Nat→Way} {W:Way} {p:Nat} {s s':Sg} (h:Ex tx E W p s s'):∃ l,s'.parses=s.parses ++ l:=by
 induction h with
 | through p s=>exact ⟨_,rfl⟩
 | skip h=>exact ⟨[],by simp⟩
 | once h hd ih=>exact ih
 | noted hd ih=>exact ih
 | over h=>exact ⟨[],by simp⟩
 | other h hr=>exact ⟨[],by simp⟩
 | rune h hr hd ih=>exact ih
 | fails h=>exact ⟨[],by simp⟩
 | holds h hd ih=>exact ih
 | @inOrder l p ss h ih =>
  have key:∀ k,k≤l.length→∃ r,(ss k).parses=(ss 0).parses ++ r:=fun k=>by
   induction k with
   | zero=>intro _;exact ⟨[],by simp⟩
   | succ k ihk =>
    intro hk
    obtain ⟨r,hr⟩:=ihk (by omega)
    obtain ⟨r2,hr2⟩:=ih k (by omega)
    exact ⟨r ++ r2,by rw [hr2,hr,List.append_assoc]⟩
  exact key _ (Nat.le_refl _)
 | again h ih=>exact ih

end Go.Proofs.YtacaanhnlfpbhaaGreat
