/- HELPERS: texts of ours put together. -/
import Derived.Test.YtacaanhnlfpbhaaGreatK10
import Derived.Test.YtacaanhnlfpbhaaGreatK09
import Derived.Test.YtacaanhnlfpbhaaGreatK06
import Derived.Test.YtacaanhnlfpbhaaGreatK03
import Derived.Test.YtacaanhnlfpbhaaGreatK02
import Derived.Test.YtacaanhnlfpbhaaGreatK01
import Derived.Deep.SlicePairs
import Derived.RowKit
import Derived.Laws.EntriesVeiled
import Derived.WalkLawsBesides
import Derived.Lib.LazyBuf
import Derived.Deep.Cut
import Derived.Laws.Rows
import Derived.Deep.MidRow
import Derived.Deep.OwnRows
import Derived.WalkKit
import Derived.Laws.BitsLemmas
import Derived.Deep.RegionHeld2
import Derived.Lib.MinMax
import Derived.BigQuiet
import Derived.Test.YtacaanhnlfpbhaaGreatK07
import Derived.Test.YtacaanhnlfpbhaaGreatK21
import Derived.Test.YtacaanhnlfpbhaaGreatK20
namespace Go.Proofs.YtacaanhnlfpbhaaGreat
open Go.RowKit
set_option linter.unusedVariables false
set_option linter.unusedSimpArgs false
theorem nb_loop (mn mx:Int) (lz:Bool) (h:mn=0∧mx=-1∨mn=1∧mx=-1∨mn=0∧mx=1):nodeB 6 [] 0 1 mn mx lz 0 ⟨#[]⟩=true:=by
 rcases h with ⟨rfl,rfl⟩ | ⟨rfl,rfl⟩ | ⟨rfl,rfl⟩ <;> simp [nodeB,bareB,ByteArray.toList,ByteArray.toList.loop,ByteArray.size]
theorem nb_empty:nodeB 1 [] 0 0 0 0 false 0 ⟨#[]⟩=true:=by simp [nodeB,bareB,ByteArray.toList,ByteArray.toList.loop,ByteArray.size]
theorem nb_cat (n:Nat) (h:2≤n):nodeB 4 [] 0 n 0 0 false 0 ⟨#[]⟩=true:=by simp [nodeB,bareB,ByteArray.toList,ByteArray.toList.loop,ByteArray.size,h]
theorem fineL_allx:∀ {l:List Tn},(∀ x ∈ l,x.fine=true)→fineL l=true
 | [],_=>rfl
 | t :: ts,h=>by simp only [fineL,Bool.and_eq_true];exact ⟨h t (List.mem_cons_self ..),fineL_allx fun x hx=>h x (List.mem_cons_of_mem _ hx)⟩
theorem fine_row {l:List Tn} (h:∀ x ∈ l,x.fine=true):(rowN l).fine=true:=by
 match l,h with
 | [],_=>simp only [rowN,Tn.fine,List.length_nil,nb_empty,fineL];rfl
 | [x],h=>exact h x (by simp)
 | x :: y :: l,h =>
  simp only [rowN,Tn.fine,Bool.and_eq_true]
  exact ⟨nb_cat _ (by simp),fineL_allx h⟩
theorem fine_loop {x:Tn} (h:x.fine=true) {mn mx:Int} (lz:Bool) (hm:mn=0∧mx=-1∨mn=1∧mx=-1∨mn=0∧mx=1):(loopN x mn mx lz).fine=true:=by
 simp only [loopN,Tn.fine,List.length_cons,List.length_nil,Bool.and_eq_true,fineL,h]
 exact ⟨nb_loop mn mx lz hm,by trivial⟩
theorem fine_opt {x:Tn} (h:x.fine=true) (lz:Bool):∀ k,(optN x lz k).fine=true
 | 0=>fine_loop h lz (.inr (.inr ⟨rfl,rfl⟩))
 | k + 1=>fine_loop (fine_row fun y hy=>by simp at hy;rcases hy with rfl | rfl;exact h;exact fine_opt h lz k) lz (.inr (.inr ⟨rfl,rfl⟩))
theorem fine_spr {x:Tn} (h:x.fine=true) {mn mx:Int} (lz:Bool) (h0:0≤mn):(sprN x mn mx lz).fine=true:=by
 unfold sprN
 split
 ·split
  ·exact fine_loop h lz (by omega)
  ·refine fine_row fun y hy=>?_
   rcases List.mem_append.1 hy with hy | hy
   ·rw [List.eq_of_mem_replicate hy];exact h
   ·simp at hy;rw [hy];exact fine_loop h lz (.inr (.inl ⟨rfl,rfl⟩))
 ·refine fine_row fun y hy=>?_
  rcases List.mem_append.1 hy with hy | hy
  ·rw [List.eq_of_mem_replicate hy];exact h
  ·split at hy
   ·simp at hy;rw [hy];exact fine_opt h lz _
   ·cases hy
mutual
def Tn.sfT:Tn→Prop
 | .mk k R a s mn mx lz ix nm=>(k=6→(mn=0∧mx=-1∨mn=1∧mx=-1)∨mn=0∧mx=1)∧sfTL s
def sfTL:List Tn→Prop
 | []=>True
 | t :: ts=>t.sfT∧sfTL ts
end
theorem sfTL_all:∀ {l:List Tn},(∀ x ∈ l,x.sfT)→sfTL l
 | [],_=>trivial
 | t :: ts,h=>⟨h t (List.mem_cons_self ..),sfTL_all fun x hx=>h x (List.mem_cons_of_mem _ hx)⟩
theorem sf_row {l:List Tn} (h:∀ x ∈ l,x.sfT):(rowN l).sfT:=by
 match l,h with
 | [],_=>simp only [rowN,Tn.sfT,sfTL];exact ⟨fun h=>absurd h (by decide),trivial⟩
 | [x],h=>exact h x (by simp)
 | x :: y :: l,h =>
  simp only [rowN,Tn.sfT]
  exact ⟨fun h=>absurd h (by decide),sfTL_all h⟩
theorem sf_loop {x:Tn} (h:x.sfT) {mn mx:Int} (lz:Bool) (hm:mn=0∧mx=-1∨mn=1∧mx=-1∨mn=0∧mx=1):(loopN x mn mx lz).sfT:=by
 simp only [loopN,Tn.sfT,sfTL]
 exact ⟨fun _=>by omega,h,trivial⟩
theorem sf_opt {x:Tn} (h:x.sfT) (lz:Bool):∀ k,(optN x lz k).sfT
 | 0=>sf_loop h lz (.inr (.inr ⟨rfl,rfl⟩))
 | k + 1=>sf_loop (sf_row fun y hy=>by simp at hy;rcases hy with rfl | rfl;exact h;exact sf_opt h lz k) lz (.inr (.inr ⟨rfl,rfl⟩))
theorem sf_spr {x:Tn} (h:x.sfT) {mn mx:Int} (lz:Bool) (h0:0≤mn):(sprN x mn mx lz).sfT:=by
 unfold sprN
 split
 ·split
  ·exact sf_loop h lz (by omega)
  ·refine sf_row fun y hy=>?_
   rcases List.mem_append.1 hy with hy | hy
   ·rw [List.eq_of_mem_replicate hy];exact h
   ·simp at hy;rw [hy];exact sf_loop h lz (.inr (.inl ⟨rfl,rfl⟩))
 ·refine sf_row fun y hy=>?_
  rcases List.mem_append.1 hy with hy | hy
  ·rw [List.eq_of_mem_replicate hy];exact h
  ·split at hy
   ·simp at hy;rw [hy];exact sf_opt h lz _
   ·cases hy
mutual
theorem spread_ok:∀ (t:Tn),t.fine=true→t.spread.fine=true∧t.spread.sfT
 | .mk k R a s mn mx lz ix nm,h=>by
  simp only [Tn.fine,Bool.and_eq_true] at h
  have hF:=fine_nodeZ h.1
  obtain ⟨i1,i2⟩:=spreadL_ok s h.2
  by_cases hk:k=6
  ·obtain ⟨q1,q2,q3,q4⟩:=hF.rep hk
   obtain ⟨x,rfl⟩:∃ t,s=[t]:=List.length_eq_one_iff.1 q1
   simp only [Tn.spread,hk,if_true,spreadL]
   simp only [spreadL,fineL,sfTL,Bool.and_eq_true] at i1 i2
   exact ⟨fine_spr i1.1 lz q2,sf_spr i2.1 lz q2⟩
  ·simp only [Tn.spread,if_neg hk,Tn.fine,Tn.sfT,Bool.and_eq_true]
   refine ⟨⟨?_,i1⟩,fun e=>absurd e hk,i2⟩
   rw [spreadL_map,List.length_map]
   exact h.1
theorem spreadL_ok:∀ (ts:List Tn),fineL ts=true→fineL (spreadL ts)=true∧sfTL (spreadL ts)
 | [],_=>⟨rfl,trivial⟩
 | t :: ts,h=>by
  simp only [fineL,Bool.and_eq_true] at h
  obtain ⟨a1,a2⟩:=spread_ok t h.1
  obtain ⟨b1,b2⟩:=spreadL_ok ts h.2
  simp only [spreadL,fineL,sfTL,Bool.and_eq_true]
  exact ⟨⟨a1,b1⟩,a2,b2⟩
end
theorem nodes_row (l:List Tn):(rowN l).nodes≤1 + nodesL l:=by
 match l with
 | []=>simp [rowN,Tn.nodes,nodesL]
 | [x]=>simp [rowN,nodesL]
 | x :: y :: l=>simp [rowN,Tn.nodes]
theorem nodes_repl (x:Tn):∀ c,nodesL (List.replicate c x)=c * x.nodes
 | 0=>by simp [nodesL]
 | c + 1=>by rw [List.replicate_succ,nodesL,nodes_repl x c,Nat.succ_mul];omega
theorem nodes_loop (x:Tn) (mn mx:Int) (lz:Bool):(loopN x mn mx lz).nodes=1 + x.nodes:=by simp [loopN,Tn.nodes,nodesL]
theorem nodes_opt (x:Tn) (lz:Bool):∀ k,(optN x lz k).nodes≤(k + 1) * x.nodes + 2 * k + 1
 | 0=>by rw [optN,nodes_loop];omega
 | k + 1=>by
  have h1:=nodes_opt x lz k
  have h2:=nodes_row [x,optN x lz k]
  rw [optN,nodes_loop]
  simp only [nodesL] at h2
  rw [Nat.succ_mul (k + 1)]
  omega
theorem nodes_spr {x:Tn} {n:Nat} (hx:x.nodes + 2≤3 * n) {mn mx:Int} (lz:Bool) (h0:0≤mn) (h1:mx=-1∨mn≤mx):(sprN x mn mx lz).nodes + 2≤3 * repN mn mx n:=by
 unfold sprN repN
 by_cases c:mx < 0
 ·have hm:mx=-1:=by omega
  rw [if_pos c,if_pos hm]
  split
  ·rw [nodes_loop]
   have h3:max mn.toNat 1=1:=by omega
   rw [h3]
   omega
  ·have h2:=nodes_row (List.replicate (mn - 1).toNat x ++ [loopN x 1 (-1) lz])
   rw [nodesL_app,nodes_repl] at h2
   simp only [nodesL,nodes_loop] at h2
   have h3:max mn.toNat 1=(mn - 1).toNat + 1:=by omega
   rw [h3]
   generalize (mn - 1).toNat=c at *
   have h4:=Nat.mul_le_mul_left c hx
   have h5:c * (x.nodes + 2)=c * x.nodes + 2 * c:=by rw [Nat.mul_add];omega
   have h6:c * (3 * n)=3 * (c * n):=by rw [Nat.mul_left_comm]
   have h7:(c + 1) * n=c * n + n:=Nat.succ_mul _ _
   rw [h5,h6] at h4
   rw [h7]
   clear h5 h6 h7
   generalize c * x.nodes=A at *
   generalize c * n=C at *
   omega
 ·have hm:¬ mx=-1:=by omega
  rw [if_neg c,if_neg hm]
  have h4:=Nat.mul_le_mul_left mn.toNat hx
  have h5:mn.toNat * (x.nodes + 2)=mn.toNat * x.nodes + 2 * mn.toNat:=by rw [Nat.mul_add];omega
  have h6:mn.toNat * (3 * n)=3 * (mn.toNat * n):=by rw [Nat.mul_left_comm]
  rw [h5,h6] at h4
  by_cases d:mn < mx
  ·rw [if_pos d]
   have h2:=nodes_row (List.replicate mn.toNat x ++ [optN x lz (mx - mn - 1).toNat])
   rw [nodesL_app,nodes_repl] at h2
   simp only [nodesL] at h2
   have h7:=nodes_opt x lz (mx - mn - 1).toNat
   have e:(mx - mn).toNat=(mx - mn - 1).toNat + 1:=by omega
   rw [e]
   generalize (mx - mn - 1).toNat=k at *
   have h8:=Nat.mul_le_mul_left (k + 1) hx
   have h9:(k + 1) * (x.nodes + 2)=(k + 1) * x.nodes + 2 * (k + 1):=by rw [Nat.mul_add];omega
   have h10:(k + 1) * (3 * n)=3 * ((k + 1) * n):=by rw [Nat.mul_left_comm]
   have h11:(k + 1) * (1 + n)=(k + 1) + (k + 1) * n:=by rw [Nat.mul_add];omega
   rw [h9,h10] at h8
   rw [h11]
   generalize (k + 1) * x.nodes=A at *
   generalize (k + 1) * n=C at *
   generalize mn.toNat * x.nodes=A' at *
   generalize mn.toNat * n=C' at *
   omega
  ·rw [if_neg d,List.append_nil]
   have e:(mx - mn).toNat=0:=by omega
   rw [e]
   rcases Nat.lt_or_ge mn.toNat 2 with g | g
   ·rcases Nat.lt_or_ge mn.toNat 1 with g' | g'
    ·have:mn.toNat=0:=by omega
     rw [this];simp [rowN,Tn.nodes,nodesL]
    ·have:mn.toNat=1:=by omega
     rw [this];simp [rowN];omega
   ·have h2:=nodes_row (List.replicate mn.toNat x)
    rw [nodes_repl] at h2
    generalize mn.toNat * x.nodes=A' at *
    generalize mn.toNat * n=C' at *
    omega
mutual
theorem spread_nodes:∀ (t:Tn),t.fine=true→t.spread.nodes + 2≤3 * t.sz
 | .mk k R a s mn mx lz ix nm,h=>by
  simp only [Tn.fine,Bool.and_eq_true] at h
  have hF:=fine_nodeZ h.1
  have i1:=spreadL_nodes s h.2
  by_cases hk:k=6
  ·obtain ⟨q1,q2,q3,q4⟩:=hF.rep hk
   obtain ⟨x,rfl⟩:∃ t,s=[t]:=List.length_eq_one_iff.1 q1
   simp only [spreadL,nodesL,szL,List.length_cons,List.length_nil] at i1
   simp only [Tn.spread,Tn.sz,hk,if_true,spreadL]
   exact nodes_spr (by simp only [szL];omega) lz q2 (by omega)
  ·simp only [Tn.spread,if_neg hk,Tn.nodes,Tn.sz]
   omega
theorem spreadL_nodes:∀ (ts:List Tn),fineL ts=true→nodesL (spreadL ts) + 2 * ts.length≤3 * szL ts
 | [],_=>by simp [spreadL,nodesL,szL]
 | t :: ts,h=>by
  simp only [fineL,Bool.and_eq_true] at h
  have h1:=spread_nodes t h.1
  have h2:=spreadL_nodes ts h.2
  simp only [spreadL,nodesL,szL,List.length_cons]
  omega
end
structure BX (t:Nat) (n:Int) (lo:Nat) (n':Int) (lo':Nat) (LE:List (Nat × Way)):Prop where
 n1:n≤n'∧n'≤n + 2 * (t:Int)
 l1:lo≤lo'
 ke:∀ p ∈ LE,lo≤p.1∧p.1 < lo'
 nd:(LE.map Prod.fst).Nodup
 wf:∀ p ∈ LE,Gw p.2∧p.2.ua=[]
theorem BX.nil (t:Nat) (n:Int) (lo:Nat):BX t n lo n lo []:=⟨⟨by omega,by omega⟩,Nat.le_refl _,fun p h=>(by cases h),(by simp),fun p h=>(by cases h)⟩
theorem BX.one {n:Int} {lo:Nat} (t:Nat) (h:1≤t):BX t n lo (n + 1) lo []:=⟨⟨by omega,by omega⟩,Nat.le_refl _,fun p h=>(by cases h),(by simp),fun p h=>(by cases h)⟩
theorem BX.seq {t u v:Nat} {n n1 n2:Int} {lo lo1 lo2:Nat} {LE LE':List (Nat × Way)} (h:BX t n lo n1 lo1 LE) (h':BX u n1 lo1 n2 lo2 LE') (hv:t + u≤v):BX v n lo n2 lo2 (LE ++ LE'):=by
 have a1:=h.n1
 have a2:=h'.n1
 have b1:=h.l1
 have b2:=h'.l1
 refine ⟨⟨by omega,by omega⟩,by omega,fun p hp=>?_,?_,fun p hp=>?_⟩
 ·rcases List.mem_append.1 hp with hp | hp
  ·have:=h.ke p hp;omega
  ·have:=h'.ke p hp;omega
 ·rw [List.map_append,List.nodup_append]
  refine ⟨h.nd,h'.nd,fun x hx y hy=>?_⟩
  obtain ⟨p,hp,rfl⟩:=List.mem_map.1 hx
  obtain ⟨q,hq,rfl⟩:=List.mem_map.1 hy
  have:=h.ke p hp
  have:=h'.ke q hq
  omega
 ·rcases List.mem_append.1 hp with hp | hp
  ·exact h.wf p hp
  ·exact h'.wf p hp
theorem BX.more {t u:Nat} {n n1 n2:Int} {lo lo1:Nat} {LE:List (Nat × Way)} (h:BX t n lo n1 lo1 LE) (h1:n1≤n2∧n2≤n1 + 2 * ((u:Int) - (t:Int))):BX u n lo n2 lo1 LE:=by
 have:=h.n1
 exact ⟨⟨by omega,by omega⟩,h.l1,h.ke,h.nd,h.wf⟩
theorem BX.loop {t u:Nat} {n n2:Int} {lo lo1:Nat} {LE:List (Nat × Way)} {W:Way} (h:BX t (n + 1) (lo + 1) n2 lo1 LE) (hu:t + 1≤u) (hW:Gw W∧W.ua=[]):BX u n lo n2 lo1 ((lo,W) :: LE):=by
 have a1:=h.n1
 have b1:=h.l1
 refine ⟨⟨by omega,by omega⟩,by omega,fun p hp=>?_,?_,fun p hp=>?_⟩
 ·rcases List.mem_cons.1 hp with rfl | hp
  ·exact ⟨Nat.le_refl _,by show lo < lo1;omega⟩
  ·have:=h.ke p hp;omega
 ·rw [List.map_cons,List.nodup_cons]
  refine ⟨fun hx=>?_,h.nd⟩
  obtain ⟨p,hp,e⟩:=List.mem_map.1 hx
  have:=h.ke p hp
  simp only at e
  omega
 ·rcases List.mem_cons.1 hp with rfl | hp
  ·exact hW
  ·exact h.wf p hp
theorem app_all {LE LE':List (Nat × Way)} {E:Nat→Way} (h:∀ p ∈ LE ++ LE',E p.1=p.2):(∀ p ∈ LE,E p.1=p.2)∧∀ p ∈ LE',E p.1=p.2:=⟨fun p hp=>h p (List.mem_append.2 (.inl hp)),fun p hp=>h p (List.mem_append.2 (.inr hp))⟩
theorem right_few {R:List (Int × Int)} (h:rightB R=true):R.length≤1000000:=by
 simp only [rightB,Bool.and_eq_true,decide_eq_true_eq] at h
 omega
mutual
theorem beg_ex:∀ (t:Tn),t.fine=true→t.sfT→∀ (n:Int) (B:Way) (lo:Nat),0≤n→n + 2 * (t.nodes:Int)≤900000000→Gw B→∃ n' W lo' LE,BX t.nodes n lo n' lo' LE∧Gw W∧W.ua=[]∧∀ E:Nat→Way,(∀ p ∈ LE,E p.1=p.2)→Beg E t n B n' W
 | .mk k R a s mn mx lz ix nm,hf,hs,n,B,lo,hn,hb,hB=>by
  simp only [Tn.fine,Bool.and_eq_true] at hf
  simp only [Tn.sfT] at hs
  simp only [Tn.nodes] at hb ⊢
  have hF:=fine_nodeZ hf.1
  rcases hF.kind with rfl | rfl | rfl | rfl | rfl | rfl | rfl
  ·exact ⟨n + 1,.once (n + 1) B,lo,[],.one _ (by omega),hB.once (by omega) (by omega),by simp [Way.ua],fun E _=>.empty⟩
  ·exact ⟨n + 1,.once (n + 1) (.runeOf R B),lo,[],.one _ (by omega),(hB.runeOf (right_few (hF.cls rfl))).once (by omega) (by omega),by simp [Way.ua],fun E _=>.cls⟩
  ·exact ⟨n + 1,.once (n + 1) (.ifHolds a B),lo,[],.one _ (by omega),hB.ifHolds.once (by omega) (by omega),by simp [Way.ua],fun E _=>.ast⟩
  ·obtain ⟨n',W,lo',LE,h1,h2,h3,h4⟩:=begC_ex s hf.2 hs.2 n B lo hn (by omega) hB
   have:=h1.n1
   exact ⟨n',W,lo',LE,h1.more ⟨by omega,by omega⟩,h2,h3 (by have:=hF.two (.inl rfl);intro e;rw [e] at this;simp at this),fun E hE=>.cat (h4 E hE)⟩
  ·obtain ⟨n',Ws,lo',LE,h1,h2,h4⟩:=begA_ex s hf.2 hs.2 [] n n B lo lo [] [] 0 hn (by omega) hB (.nil 0 n lo) .nil (fun E _=>.nil)
   rw [Nat.zero_add] at h1
   have:=h1.n1
   exact ⟨n' + 1,.once (n' + 1) (.inOrder Ws),lo',LE,h1.more ⟨by omega,by omega⟩,(Gw.inOrder h2).once (by omega) (by omega),by simp [Way.ua],fun E hE=>.alt (h4 E hE)⟩
  ·obtain ⟨q1,q2,q3,q4⟩:=hF.rep rfl
   obtain ⟨t,rfl⟩:∃ t,s=[t]:=List.length_eq_one_iff.1 q1
   simp only [fineL,sfTL,Bool.and_eq_true,nodesL] at hf hs hb ⊢
   rcases hs.1 trivial with hm | ⟨rfl,rfl⟩
   ·obtain ⟨n2,W2,lo2,LE2,h1,h2,h3,h4⟩:=beg_ex t hf.2.1 hs.2.1 (n + 1) (Dcd lz n lo B) (lo + 1) (by omega) (by omega) ((Gw.pair hB (.again lo)).once (by omega) (by omega))
    have hx:BX (1 + (t.nodes + 0)) n lo n2 lo2 ((lo,W2) :: LE2):=h1.loop (by omega) ⟨h2,h3⟩
    rcases hm with ⟨rfl,rfl⟩ | ⟨rfl,rfl⟩
    ·refine ⟨n2,Dcd lz n lo B,lo2,_,hx,(Gw.pair hB (.again lo)).once (by omega) (by omega),by simp [Way.ua],fun E hE=>.any0 ?_⟩
     have e:E lo=W2:=hE (lo,W2) (List.mem_cons_self ..)
     rw [e]
     exact h4 E fun p hp=>hE p (List.mem_cons_of_mem _ hp)
    ·refine ⟨n2,W2,lo2,_,hx,h2,h3,fun E hE=>?_⟩
     have e:E lo=W2:=hE (lo,W2) (List.mem_cons_self ..)
     have h5:=h4 E fun p hp=>hE p (List.mem_cons_of_mem _ hp)
     rw [← e] at h5 ⊢
     exact Beg.any (c:=0) h5 .zero
   ·obtain ⟨n2,W2,lo2,LE2,h1,h2,h3,h4⟩:=beg_ex t hf.2.1 hs.2.1 n B lo hn (by omega) hB
    have:=h1.n1
    refine ⟨n2 + 1,.once (n2 + 1) (.inOrder (if lz=true then [B,W2] else [W2,B])),lo2,LE2,h1.more ⟨by omega,by omega⟩,(Gw.pair hB h2).once (by omega) (by omega),by simp [Way.ua],fun E hE=>?_⟩
    exact Beg.bnd (c:=0) (m:=1) (.succ .zero (h4 E hE)) .zero
  ·obtain ⟨q1,q2,q3⟩:=hF.grp rfl
   obtain ⟨t,rfl⟩:∃ t,s=[t]:=List.length_eq_one_iff.1 q1
   simp only [fineL,sfTL,Bool.and_eq_true,nodesL] at hf hs hb ⊢
   obtain ⟨i,rfl⟩:=Int.eq_ofNat_of_zero_le (show 0≤ix by omega)
   obtain ⟨n',W,lo',LE,h1,h2,h3,h4⟩:=beg_ex t hf.2.1 hs.2.1 n (.noted (2 * i + 1) B) lo hn (by omega) hB.noted
   have:=h1.n1
   exact ⟨n' + 1,.once (n' + 1) (.noted (2 * i) W),lo',LE,h1.more ⟨by omega,by omega⟩,h2.noted.once (by omega) (by omega),by simp [Way.ua],fun E hE=>.grp (h4 E hE)⟩
theorem begC_ex:∀ (ts:List Tn),fineL ts=true→sfTL ts→∀ (n:Int) (B:Way) (lo:Nat),0≤n→n + 2 * (nodesL ts:Int)≤900000000→Gw B→∃ n' W lo' LE,BX (nodesL ts) n lo n' lo' LE∧Gw W∧(ts≠[]→W.ua=[])∧∀ E:Nat→Way,(∀ p ∈ LE,E p.1=p.2)→BegC E ts n B n' W
 | [],hf,hs,n,B,lo,hn,hb,hB=>⟨n,B,lo,[],.nil _ _ _,hB,fun h=>absurd rfl h,fun E _=>.nil⟩
 | t :: ts,hf,hs,n,B,lo,hn,hb,hB=>by
  simp only [fineL,Bool.and_eq_true] at hf
  simp only [sfTL] at hs
  simp only [nodesL] at hb ⊢
  obtain ⟨n1,W1,lo1,LE1,h1,h2,h3,h4⟩:=begC_ex ts hf.2 hs.2 n B lo hn (by omega) hB
  have a1:=h1.n1
  obtain ⟨n2,W2,lo2,LE2,g1,g2,g3,g4⟩:=beg_ex t hf.1 hs.1 n1 W1 lo1 (by omega) (by omega) h2
  exact ⟨n2,W2,lo2,LE1 ++ LE2,h1.seq g1 (by omega),g2,fun _=>g3,fun E hE=>.cons (h4 E (app_all hE).1) (g4 E (app_all hE).2)⟩
theorem begA_ex:∀ (ts:List Tn),fineL ts=true→sfTL ts→∀ (us:List Tn) (n n0:Int) (B:Way) (lo lo0:Nat) (Ws:List Way) (LE:List (Nat × Way)) (c:Nat),0≤n→n + 2 * (nodesL ts:Int)≤900000000→Gw B→BX c n0 lo0 n lo LE→GwL Ws→(∀ E:Nat→Way,(∀ p ∈ LE,E p.1=p.2)→BegA E us n0 B n Ws) →
  ∃ n' Ws' lo' LE',BX (c + nodesL ts) n0 lo0 n' lo' LE'∧GwL Ws'∧∀ E:Nat→Way,(∀ p ∈ LE',E p.1=p.2)→BegA E (us ++ ts) n0 B n' Ws'
 | [],hf,hs,us,n,n0,B,lo,lo0,Ws,LE,c,hn,hb,hB,hX,hW,hA=>⟨n,Ws,lo,LE,by simp only [nodesL,Nat.add_zero];exact hX,hW,fun E hE=>by rw [List.append_nil];exact hA E hE⟩
 | t :: ts,hf,hs,us,n,n0,B,lo,lo0,Ws,LE,c,hn,hb,hB,hX,hW,hA=>by
  simp only [fineL,Bool.and_eq_true] at hf
  simp only [sfTL] at hs
  simp only [nodesL] at hb ⊢
  obtain ⟨n1,W1,lo1,LE1,g1,g2,g3,g4⟩:=beg_ex t hf.1 hs.1 n B lo hn (by omega) hB
  have a1:=g1.n1
  obtain ⟨n2,Ws2,lo2,LE2,k1,k2,k3⟩:=begA_ex ts hf.2 hs.2 (us ++ [t]) n1 n0 B lo1 lo0 (Ws ++ [W1]) (LE ++ LE1) (c + t.nodes) (by omega) (by omega) hB (hX.seq g1 (Nat.le_refl _)) (hW.snoc g2) (fun E hE=>.snoc (hA E (app_all hE).1) (g4 E (app_all hE).2))
  refine ⟨n2,Ws2,lo2,LE2,by rw [← Nat.add_assoc];exact k1,k2,fun E hE=>?_⟩
  have:=k3 E hE
  rw [List.append_assoc] at this
  exact this
end
theorem PS.of_sf {t:Tn} (hf:t.fine=true) (hs:t.sfT) (hn:t.nodes≤400000000) (K:Nat) (tx:List Int) (p:Nat) (hp:p≤tx.length):∃ l,PS t K tx p l:=by
 have h1:Gw (.once 1 .through):=⟨by simp only [Way.tg];exact ⟨⟨by omega,by omega⟩,.inl ⟨trivial,trivial⟩⟩,by simp only [Way.few]⟩
 obtain ⟨n1,W,lo,LE,hX,hW,_,hE⟩:=beg_ex t hf hs 1 (.once 1 .through) 0 (by omega) (by omega) h1
 have hEg:=envOf_good LE hX.wf
 obtain ⟨s',hx,_⟩:=good_all (tx:=tx) (E:=envOf LE) (top:=1000000000) (fun b=>⟨(hEg b).1.tg,(hEg b).2⟩) _ ⟨[],(List.replicate K (-1)).set 0 (p:Int),[]⟩ W p (Nat.le_refl _) hW.tg hp
 exact ⟨s'.parses,⟨envOf LE,W,n1,s',hE (envOf LE) (envOf_mem LE hX.nd),hEg,hW,hx,rfl⟩⟩
inductive Wrp (n:Int) (B:Way):Int→Way→Prop
 | one:Wrp n B (n + 1) (.once (n + 1) B)
 | more {n1:Int} {W:Way} (h:Wrp n B n1 W):Wrp n B (n1 + 1) (.once (n1 + 1) W)
section
variable {E E':Nat→Way} {n n1 n2 n' n1' n2':Int} {B W V B' W' V':Way}
theorem Wrp.seq (h:Wrp n B n1 W) (h':Wrp n1 W n2 V):Wrp n B n2 V:=by
 induction h' with
 | one=>exact .more h
 | more _ ih=>exact .more ih
theorem Wrp.left (h:Wrp n B n1 W) (n':Int) (B':Way):SMu E E' n B n1 W n' B' n' B':=by
 induction h with
 | one=>exact (SMu.self _ _ _ _).extra
 | more _ ih=>exact ih.extra
theorem Wrp.pair (h:Wrp n B n1 W) (n':Int) (B':Way):SMu E E' n B n1 W n' B' (n' + 1) (.once (n' + 1) B'):=by
 induction h with
 | one=>exact SMu.pair fun G hI hS _=>⟨G,hI,.refl _ _ _,hS⟩
 | more _ ih=>exact ih.extra
def AlO (E E':Nat→Way) (n:Int) (B:Way) (n1:Int) (W:Way) (n':Int) (B':Way) (n1':Int) (Ws':List Way):Prop:=
 ∀ G,Miu n n' G→Siu G B B'→(∃ h,Hdu G B h)→∃ G' M,Miu n1 n1' G'∧Gru E E' n n' G n1 n1' G'∧SiF G' M W Ws'∧M.Nodup∧∀ m ∈ M,n < m∧m≤n1∧G'.free m
theorem AlO.wrap {Ws':List Way} (h:AlO E E' n B n1 W n' B' n1' Ws'):AlO E E' n B (n1 + 1) (.once (n1 + 1) W) n' B' n1' Ws':=fun G hI hS hH=>by
 obtain ⟨G1,M,i1,g1,s1,hM,hf⟩:=h G hI hS hH
 refine ⟨G1,(n1 + 1) :: M,i1.wide (by omega) (Int.le_refl _),g1.trans (.wide _ _ _ (by omega) (Int.le_refl _)) i1,.wrap s1,List.nodup_cons.2 ⟨fun hm=>by have:=(hf _ hm).2.1;omega,hM⟩,fun m hm=>?_⟩
 rcases List.mem_cons.1 hm with rfl | hm
 ·exact ⟨by have:=g1.l1;omega,Int.le_refl _,i1.new (by omega)⟩
 ·exact ⟨(hf m hm).1,by have:=(hf m hm).2.1;omega,(hf m hm).2.2⟩
theorem AlO.wraps {Ws':List Way} (h:AlO E E' n B n1 W n' B' n1' Ws') (hw:Wrp n1 W n2 V):AlO E E' n B n2 V n' B' n1' Ws':=by
 induction hw with
 | one=>exact h.wrap
 | more _ ih=>exact ih.wrap
theorem AlO.pre {Ws':List Way} (h:SMu E E' n B n1 W n' B' n1' W') (h':AlO E E' n1 W n2 V n1' W' n2' Ws'):AlO E E' n B n2 V n' B' n2' Ws':=fun G hI hS hH=>by
 obtain ⟨G1,i1,g1,s1,d1⟩:=h G hI hS hH
 obtain ⟨G2,M,i2,g2,s2,hM,hf⟩:=h' G1 i1 s1 d1
 exact ⟨G2,M,i2,g1.trans g2 i1,s2,hM,fun m hm=>⟨by have:=(hf m hm).1;have:=g1.l1;omega,(hf m hm).2⟩⟩
structure Gp (E E':Nat→Way) (a u:Tn):Prop where
 nf:Nf u
 sb:∀ {n n1 n' n1':Int} {B W B' W':Way},Beg E a n B n1 W→Beg E' u n' B' n1' W'→SMu E E' n B n1 W n' B' n1' W'
 em:u.kind=1→∀ {n n1:Int} {B W:Way},Beg E a n B n1 W→Wrp n B n1 W
 al:u.kind=5→∀ {n n1 n' n1':Int} {B W B':Way} {Ws':List Way},Beg E a n B n1 W→BegA E' u.subs n' B' n1' Ws'→AlO E E' n B n1 W n' B' n1' Ws'
theorem begC_app {xs ys:List Tn} (h:BegC E (xs ++ ys) n B n2 V):∃ n1 W,BegC E ys n B n1 W∧BegC E xs n1 W n2 V:=by
 induction xs generalizing n2 V with
 | nil=>exact ⟨n2,V,h,.nil⟩
 | cons x xs ih =>
  obtain ⟨n1,W,h1,h2⟩:=BegC.first h
  obtain ⟨n0,W0,h3,h4⟩:=ih h1
  exact ⟨n0,W0,h3,.cons h4 h2⟩
theorem begA_app {xs:List Tn}:∀ {ys:List Tn} {n n2:Int} {B:Way} {Ws:List Way},BegA E (xs ++ ys.reverse) n B n2 Ws→∃ n1 Ws1 Ws2,Ws=Ws1 ++ Ws2∧BegA E xs n B n1 Ws1∧BegA E ys.reverse n1 B n2 Ws2
 | [],n,n2,B,Ws,h=>⟨n2,Ws,[],by simp,by simpa using h,.nil⟩
 | y :: ys,n,n2,B,Ws,h=>by
  rw [List.reverse_cons,← List.append_assoc] at h
  obtain ⟨n1,Ws1,W,rfl,h1,h2⟩:=h.last
  obtain ⟨n0,Wa,Wb,rfl,h3,h4⟩:=begA_app (ys:=ys) h1
  exact ⟨n0,Wa,Wb ++ [W],by simp,h3,by rw [List.reverse_cons];exact .snoc h4 h2⟩
theorem begA_app' {xs ys:List Tn} {Ws:List Way} (h:BegA E (xs ++ ys) n B n2 Ws):∃ n1 Ws1 Ws2,Ws=Ws1 ++ Ws2∧BegA E xs n B n1 Ws1∧BegA E ys n1 B n2 Ws2:=by
 have h':BegA E (xs ++ ys.reverse.reverse) n B n2 Ws:=by rw [List.reverse_reverse];exact h
 have:=begA_app h'
 rw [List.reverse_reverse] at this
 exact this
theorem begA_one {u:Tn} {Ws:List Way} (h:BegA E [u] n B n2 Ws):∃ W,Ws=[W]∧Beg E u n B n2 W:=by
 obtain ⟨n1,Ws1,W,rfl,h1,h2⟩:=BegA.last (ts:=[]) h
 obtain ⟨rfl,rfl⟩:=h1.none
 exact ⟨W,rfl,h2⟩
theorem begC_sole {u:Tn} (h:BegC E [u] n B n2 V):Beg E u n B n2 V:=by
 obtain ⟨n1,W,h1,h2⟩:=BegC.first h
 obtain ⟨rfl,rfl⟩:=h1.none
 exact h2
theorem nf_jn_nil {u:Tn} (h:Nf u) (hj:jn u=[]):u.kind=1:=by
 unfold jn at hj
 split at hj
 ·assumption
 ·unfold within at hj
  split at hj
  ·rename_i h1 h4
   cases h with
   | leaf hk _=>simp [Tn.kind] at h4;omega
   | cat h2 _ _=>simp [Tn.subs] at hj;rw [hj] at h2;simp at h2
   | alt _ _ _=>simp [Tn.kind] at h4
   | loop _ _=>simp [Tn.kind] at h4
   | grp _ _=>simp [Tn.kind] at h4
  ·cases hj
theorem nf_jn_one {u v:Tn} (h:Nf u) (hj:jn u=[v]):u=v:=by
 unfold jn at hj
 split at hj
 ·cases hj
 ·unfold within at hj
  split at hj
  ·rename_i h1 h4
   cases h with
   | leaf hk _=>simp [Tn.kind] at h4;omega
   | cat h2 _ _=>simp [Tn.subs] at hj;rw [hj] at h2;simp at h2
   | alt _ _ _=>simp [Tn.kind] at h4
   | loop _ _=>simp [Tn.kind] at h4
   | grp _ _=>simp [Tn.kind] at h4
  ·simpa using hj
theorem nf_jn_mem {u v:Tn} (h:Nf u) (hv:v ∈ jn u):v.kind≠1:=by
 unfold jn at hv
 split at hv
 ·cases hv
 ·rename_i h1
  unfold within at hv
  split at hv
  ·rename_i h4
   cases h with
   | leaf hk _=>simp [Tn.kind] at h4;omega
   | cat _ h2 _=>exact (h2 v hv).1
   | alt _ _ _=>simp [Tn.kind] at h4
   | loop _ _=>simp [Tn.kind] at h4
   | grp _ _=>simp [Tn.kind] at h4
  ·simp at hv
   rw [hv];exact h1
theorem beg_jn {u:Tn} (h:Nf u) (h1:u.kind≠1) (hb:BegC E (jn u) n B n2 V):Beg E u n B n2 V:=by
 unfold jn at hb
 rw [if_neg h1] at hb
 unfold within at hb
 split at hb
 ·rename_i h4
  cases h with
  | leaf hk _=>simp [Tn.kind] at h4;omega
  | cat _ _ _=>exact .cat hb
  | alt _ _ _=>simp [Tn.kind] at h4
  | loop _ _=>simp [Tn.kind] at h4
  | grp _ _=>simp [Tn.kind] at h4
 ·exact begC_sole hb
theorem sc (P:List (Tn × Tn)) (hP:∀ x ∈ P,Gp E E' x.1 x.2):∀ {n n1 n' n1':Int} {B W B' W':Way},BegC E (P.map Prod.fst) n B n1 W→BegC E' (P.flatMap fun x=>jn x.2) n' B' n1' W'→SMu E E' n B n1 W n' B' n1' W':=by
 induction P with
 | nil =>
  intro n n1 n' n1' B W B' W' h h'
  obtain ⟨rfl,rfl⟩:=h.none
  obtain ⟨rfl,rfl⟩:=BegC.none h'
  exact .self _ _ _ _
 | cons x P ih =>
  intro n n1 n' n1' B W B' W' h h'
  rw [List.map_cons] at h
  rw [List.flatMap_cons] at h'
  obtain ⟨m,V,h1,h2⟩:=h.first
  obtain ⟨m',V',h3,h4⟩:=begC_app h'
  have hx:=hP x (List.mem_cons_self ..)
  refine (ih (fun y hy=>hP y (List.mem_cons_of_mem _ hy)) h1 h3).seq ?_
  by_cases h0:x.2.kind=1
  ·have e:jn x.2=[]:=by unfold jn;rw [if_pos h0]
   rw [e] at h4
   obtain ⟨rfl,rfl⟩:=h4.none
   exact (hx.em h0 h2).left _ _
  ·exact hx.sb h2 (beg_jn hx.nf h0 h4)
theorem wrpC (P:List (Tn × Tn)) (hP:∀ x ∈ P,Gp E E' x.1 x.2∧x.2.kind=1):∀ {n n1:Int} {B W:Way},BegC E (P.map Prod.fst) n B n1 W→(P=[]∧n1=n∧W=B)∨Wrp n B n1 W:=by
 induction P with
 | nil =>
  intro n n1 B W h
  obtain ⟨rfl,rfl⟩:=h.none
  exact .inl ⟨rfl,rfl,rfl⟩
 | cons x P ih =>
  intro n n1 B W h
  rw [List.map_cons] at h
  obtain ⟨m,V,h1,h2⟩:=h.first
  have hx:=hP x (List.mem_cons_self ..)
  have h3:=hx.1.em hx.2 h2
  rcases ih (fun y hy=>hP y (List.mem_cons_of_mem _ hy)) h1 with ⟨_,rfl,rfl⟩ | h4
  ·exact .inr h3
  ·exact .inr (h4.seq h3)
theorem flat_one {P:List (Tn × Tn)} {v:Tn} (h:(P.flatMap fun x=>jn x.2)=[v]):∃ P1 x P2,P=P1 ++ x :: P2∧(∀ y ∈ P1,jn y.2=[])∧(∀ y ∈ P2,jn y.2=[])∧jn x.2=[v]:=by
 induction P with
 | nil=>cases h
 | cons x P ih =>
  rw [List.flatMap_cons] at h
  by_cases h0:jn x.2=[]
  ·rw [h0,List.nil_append] at h
   obtain ⟨P1,y,P2,rfl,h1,h2,h3⟩:=ih h
   exact ⟨x :: P1,y,P2,rfl,fun z hz=>by rcases List.mem_cons.1 hz with rfl | hz;exact h0;exact h1 z hz,h2,h3⟩
  ·rw [List.append_eq_singleton_iff] at h
   rcases h with ⟨h1,_⟩ | ⟨h1,h2⟩
   ·exact absurd h1 h0
   ·refine ⟨[],x,P,rfl,fun z hz=>(by cases hz),fun z hz=>?_,h1⟩
    rw [List.flatMap_eq_nil_iff] at h2
    exact h2 z hz
theorem joinU_kind {us:List Tn}:us=[]∨(∃ v,us=[v]∧joinU us=v)∨joinU us=zN 4 us:=by
 match us with
 | []=>exact .inl rfl
 | [v]=>exact .inr (.inl ⟨v,rfl,rfl⟩)
 | a :: b :: s=>exact .inr (.inr rfl)
theorem gp_join {a:Tn} (P:List (Tn × Tn)) (h0:P≠[]) (hP:∀ x ∈ P,Gp E E' x.1 x.2) (ha:∀ {n n1:Int} {B W:Way},Beg E a n B n1 W→BegC E (P.map Prod.fst) n B n1 W) (hn:Nf (joinU (P.flatMap fun x=>jn x.2))):Gp E E' a (joinU (P.flatMap fun x=>jn x.2)):=by
 have hemp:(P.flatMap fun x=>jn x.2)=[]→∀ {n n1:Int} {B W:Way},Beg E a n B n1 W→Wrp n B n1 W:=fun he n n1 B W h=>by
  rw [List.flatMap_eq_nil_iff] at he
  rcases wrpC P (fun x hx=>⟨hP x hx,nf_jn_nil (hP x hx).nf (he x hx)⟩) (ha h) with ⟨h1,_⟩ | h1
  ·exact absurd h1 h0
  ·exact h1
 have hmem:∀ v ∈ (P.flatMap fun x=>jn x.2),v.kind≠1:=fun v hv=>by
  obtain ⟨x,hx,hv⟩:=List.mem_flatMap.1 hv
  exact nf_jn_mem (hP x hx).nf hv
 refine ⟨hn,fun h h'=>?_,fun hk=>?_,fun hk=>?_⟩
 ·rcases joinU_kind (us:=P.flatMap fun x=>jn x.2) with he | ⟨v,he,hv⟩ | hv
  ·rw [he] at h'
   obtain ⟨rfl,rfl⟩:=Beg.empties h'
   exact (hemp he h).pair _ _
  ·rw [hv] at h'
   exact sc P hP (ha h) (by rw [he];exact .cons .nil h')
  ·rw [hv] at h'
   exact sc P hP (ha h) h'.cats
 ·refine hemp ?_
  rcases joinU_kind (us:=P.flatMap fun x=>jn x.2) with he | ⟨v,he,hv⟩ | hv
  ·exact he
  ·rw [hv] at hk
   exact absurd hk (hmem v (by rw [he];simp))
  ·rw [hv] at hk
   simp [Tn.kind] at hk
 ·rcases joinU_kind (us:=P.flatMap fun x=>jn x.2) with he | ⟨v,he,hv⟩ | hv
  ·rw [he] at hk
   simp [joinU,Tn.kind] at hk
  ·intro n n1 n' n1' B W B' Ws' h h'
   rw [hv] at h' hk
   obtain ⟨P1,x,P2,rfl,h1,h2,h3⟩:=flat_one he
   have hx:=hP x (by simp)
   have ex:=nf_jn_one hx.nf h3
   have hb:=ha h
   rw [List.map_append,List.map_cons] at hb
   obtain ⟨m1,V1,hb1,hb2⟩:=begC_app hb
   obtain ⟨m0,V0,hb3,hb4⟩:=hb1.first
   have hA:AlO E E' m0 V0 m1 V1 n' B' n1' Ws':=hx.al (by rw [ex];exact hk) hb4 (by rw [ex];exact h')
   have hB:AlO E E' n B m1 V1 n' B' n1' Ws':=by
    rcases wrpC P2 (fun y hy=>⟨hP y (by simp [hy]),nf_jn_nil (hP y (by simp [hy])).nf (h2 y hy)⟩) hb3 with ⟨_,rfl,rfl⟩ | hw
    ·exact hA
    ·exact AlO.pre (hw.left n' B') hA
   rcases wrpC P1 (fun y hy=>⟨hP y (by simp [hy]),nf_jn_nil (hP y (by simp [hy])).nf (h1 y hy)⟩) hb2 with ⟨_,rfl,rfl⟩ | hw
   ·exact hB
   ·exact hB.wraps hw
  ·rw [hv] at hk
   simp [Tn.kind] at hk
theorem begC_row {l:List Tn} (h0:l≠[]) (h:Beg E (rowN l) n B n1 W):BegC E l n B n1 W:=by
 match l,h0,h with
 | [x],_,h=>exact .cons .nil h
 | x :: y :: l,_,h=>exact Beg.cats h
end
end Go.Proofs.YtacaanhnlfpbhaaGreat
