/- HELPERS: texts of ours put together. -/
import Derived.Test.YtacaanhnlfpbhaaGreatK03
import Derived.Test.YtacaanhnlfpbhaaGreatK02
import Derived.Test.YtacaanhnlfpbhaaGreatK01
import Derived.Deep.SlicePairs
import Derived.RowKit
import Derived.Test.YtacaanhnlfpbhaaGreatK06
import Derived.Laws.EntriesVeiled
import Derived.WalkLawsBesides
import Derived.Lib.LazyBuf
import Derived.Deep.Cut
import Derived.Laws.Rows
import Derived.Deep.MidRow
import Derived.Deep.OwnRows
import Derived.WalkKit
import Derived.Laws.BitsLemmas
import Derived.Deep.RegionHeld2
import Derived.Lib.MinMax
import Derived.BigQuiet
import Derived.Laws.StructEq
import Derived.Deep.DrawnRows
import Derived.Test.YtacaanhnlfpbhaaGreatK11
namespace Go.Proofs.YtacaanhnlfpbhaaGreat
open Go.RowKit
set_option linter.unusedVariables false
set_option linter.unusedSimpArgs false
inductive Nf:Tn→Prop
 | leaf {k:Int} {R:List (Int × Int)} {a mn mx:Int} {lz:Bool} {ix:Int} {nm:ByteArray} (hk:k=1∨k=2∨k=3) (hn:nodeB k R a 0 mn mx lz ix nm=true):Nf (.mk k R a [] mn mx lz ix nm)
 | cat {s:List Tn} (h2:2≤s.length) (h:∀ u ∈ s,u.kind≠1∧u.kind≠4) (hs:∀ u ∈ s,Nf u):Nf (zN 4 s)
 | alt {s:List Tn} (h2:2≤s.length) (h:∀ u ∈ s,u.kind≠5) (hs:∀ u ∈ s,Nf u):Nf (zN 5 s)
 | loop {mn mx:Int} {lz:Bool} {y:Tn} (h:(mn=0∧mx=1)∨(mn=0∧mx=-1)∨(mn=1∧mx=-1)) (hy:Nf y):Nf (loopT mn mx lz y)
 | grp {ix:Int} {nm:ByteArray} {y:Tn} (hn:nodeB 7 [] 0 1 0 0 false ix nm=true) (hy:Nf y):Nf (.mk 7 [] 0 [y] 0 0 false ix nm)
theorem empty_nil:(⟨#[]⟩:ByteArray).toList.isEmpty=true:=by decide +kernel
theorem nf_empty:Nf emptyT:=.leaf (.inl rfl) (by simp [nodeB,bareB,empty_nil])
theorem fineL_of {ts:List Tn} (h:∀ t ∈ ts,t.fine=true):fineL ts=true:=by
 induction ts with
 | nil=>rfl
 | cons t ts ih=>simp only [fineL,Bool.and_eq_true];exact ⟨h t (by simp),ih fun u hu=>h u (by simp [hu])⟩
theorem Nf.fine {t:Tn} (h:Nf t):t.fine=true:=by
 induction h with
 | leaf hk hn=>simp only [Tn.fine,List.length_nil,hn,fineL,Bool.and_true]
 | cat h2 h hs ih=>simp only [Tn.fine,Bool.and_eq_true];exact ⟨by simp [nodeB,bareB,empty_nil,h2],fineL_of ih⟩
 | alt h2 h hs ih=>simp only [Tn.fine,Bool.and_eq_true];exact ⟨by simp [nodeB,bareB,empty_nil,h2],fineL_of ih⟩
 | loop h hy ih =>
  simp only [Tn.fine,Bool.and_eq_true]
  refine ⟨?_,by simp [fineL,ih]⟩
  rcases h with ⟨rfl,rfl⟩ | ⟨rfl,rfl⟩ | ⟨rfl,rfl⟩ <;> simp [nodeB,bareB,empty_nil]
 | grp hn hy ih=>simp only [Tn.fine,Bool.and_eq_true];exact ⟨hn,by simp [fineL,ih]⟩
theorem timesOf_ones (s:List Tn):timesOf (ones s)=s.length:=by
 induction s with
 | nil=>rfl
 | cons u s ih =>
  have:ones (u :: s)=(u,1) :: ones s:=rfl
  rw [this,timesOf,ih,List.length_cons];omega
theorem nf_within {k:Int} (hk:k=4∨k=5) {t:Tn} (h:Nf t):1≤(within k t).length∧∀ u ∈ within k t,Nf u∧u.kind≠k∧(k=4→t.kind≠1→u.kind≠1):=by
 unfold within
 split
 ·rename_i hkk
  cases h with
  | leaf h1 hn=>simp only [Tn.kind] at hkk;omega
  | cat h2 h' hs =>
   simp only [Tn.kind] at hkk
   subst hkk
   exact ⟨by simp only [Tn.subs];omega,fun u hu=>⟨hs u hu,(h' u hu).2,fun _ _=>(h' u hu).1⟩⟩
  | alt h2 h' hs =>
   simp only [Tn.kind] at hkk
   subst hkk
   exact ⟨by simp only [Tn.subs];omega,fun u hu=>⟨hs u hu,h' u hu,fun e=>by omega⟩⟩
  | loop h' hy=>simp only [Tn.kind] at hkk;omega
  | grp hn hy=>simp only [Tn.kind] at hkk;omega
 ·rename_i hkk
  refine ⟨by simp,fun u hu=>?_⟩
  simp at hu
  subst hu
  exact ⟨h,hkk,fun _ h1=>h1⟩
theorem rowS_mem {k:Int} {l:List (Tn × Nat)} {u:Tn} (h:u ∈ rowS k l):∃ x ∈ l,u ∈ within k x.1:=by
 simp only [rowS,List.mem_flatMap,List.mem_flatten,List.mem_replicate] at h
 obtain ⟨x,hx,y,⟨_,rfl⟩,hy⟩:=h
 exact ⟨x,hx,hy⟩
theorem rowS_len {k:Int} {l:List (Tn × Nat)} (h:∀ x ∈ l,1≤(within k x.1).length):timesOf l≤(rowS k l).length:=by
 induction l with
 | nil=>simp [timesOf]
 | cons x l ih =>
  rw [rowS_cons,List.length_append,timesOf]
  have h1:=h x (by simp)
  have h2:=ih fun y hy=>h y (by simp [hy])
  have h3:x.2≤(List.replicate x.2 (within k x.1)).flatten.length:=by simp;exact Nat.le_mul_of_pos_right _ h1
  omega
theorem nf_join {l:List (Tn × Nat)} (h:∀ x ∈ l,Nf x.1):Nf (joinT l):=by
 unfold joinT joinK
 have hf:∀ x ∈ l.filter keep,Nf x.1∧x.1.kind≠1:=fun x hx=>by
  rw [List.mem_filter] at hx
  refine ⟨h x hx.1,?_⟩
  have:=hx.2
  simp only [keep,Bool.and_eq_true,Bool.not_eq_true',beq_eq_false_iff_ne] at this
  exact this.2
 split
 ·exact nf_empty
 ·split
  ·cases hl:l.filter keep with
   | nil=>exact nf_empty
   | cons x l'=>exact (hf x (by rw [hl];simp)).1
  ·rename_i h0 h1
   have hlen:=rowS_len (k:=4) (l:=l.filter keep) fun x hx=>(nf_within (.inl rfl) (hf x hx).1).1
   refine .cat (by omega) (fun u hu=>?_) (fun u hu=>?_)
   ·obtain ⟨x,hx,hux⟩:=rowS_mem hu
    have:=(nf_within (.inl rfl) (hf x hx).1).2 u hux
    exact ⟨this.2.2 rfl (hf x hx).2,this.2.1⟩
   ·obtain ⟨x,hx,hux⟩:=rowS_mem hu
    exact ((nf_within (.inl rfl) (hf x hx).1).2 u hux).1
theorem nf_opt {y:Tn} (lz:Bool) (hy:Nf y):∀ n,Nf (optT y lz n)
 | 0=>nf_empty
 | 1=>.loop (.inl ⟨rfl,rfl⟩) hy
 | n + 2=>by
  rw [optT_step]
  refine .loop (.inl ⟨rfl,rfl⟩) (nf_join fun x hx=>?_)
  simp at hx
  rcases hx with rfl | rfl
  ·exact hy
  ·exact nf_opt lz hy (n + 1)
theorem nf_rep {y:Tn} (mn mx:Int) (lz:Bool) (hy:Nf y):Nf (repT y mn mx lz):=by
 unfold repT
 split
 ·refine nf_join fun x hx=>?_
  simp at hx
  rcases hx with rfl | rfl
  ·exact hy
  ·exact nf_opt lz hy _
 ·split
  ·exact .loop (.inr (.inl ⟨rfl,rfl⟩)) hy
  ·refine nf_join fun x hx=>?_
   simp at hx
   rcases hx with rfl | rfl
   ·exact hy
   ·exact .loop (.inr (.inr ⟨rfl,rfl⟩)) hy
mutual
theorem nf_S:∀ t:Tn,t.fine=true→Nf t.S
 | .mk k R a s mn mx lz ix nm,h=>by
  simp only [Tn.fine,Bool.and_eq_true] at h
  have ih:=nf_SL s h.2
  have hfk:=fine_kind h.1
  have hhead:Nf ((SL s).headD emptyT):=by
   cases hs:SL s with
   | nil=>exact nf_empty
   | cons u l=>exact ih u (by rw [hs];simp)
  simp only [Tn.S]
  split
  ·exact nf_join fun x hx=>by obtain ⟨u,hu,rfl⟩:=List.mem_map.1 hx;exact ih u hu
  ·split
   ·rename_i h4 h5
    have hl2:2≤s.length:=by omega
    have hw:∀ x ∈ ones (SL s),Nf x.1:=fun x hx=>by obtain ⟨u,hu,rfl⟩:=List.mem_map.1 hx;exact ih u hu
    have hlen:=rowS_len (k:=5) (l:=ones (SL s)) fun x hx=>(nf_within (.inr rfl) (hw x hx)).1
    rw [timesOf_ones,SL_len] at hlen
    refine .alt (by omega) (fun u hu=>?_) (fun u hu=>?_)
    ·obtain ⟨x,hx,hux⟩:=rowS_mem hu
     exact ((nf_within (.inr rfl) (hw x hx)).2 u hux).2.1
    ·obtain ⟨x,hx,hux⟩:=rowS_mem hu
     exact ((nf_within (.inr rfl) (hw x hx)).2 u hux).1
   ·split
    ·exact nf_rep mn mx lz hhead
    ·split
     ·rename_i h7
      subst h7
      refine .grp ?_ hhead
      have hn:=h.1
      simp [nodeB,bareB] at hn ⊢
      exact ⟨⟨hn.1.1.1.2,hn.1.1.2⟩,hn.1.2⟩
     ·have hk3:k=1∨k=2∨k=3:=by omega
      have hz:s.length=0:=by omega
      rw [hz] at h
      exact .leaf hk3 h.1
theorem nf_SL:∀ ts:List Tn,fineL ts=true→∀ u ∈ SL ts,Nf u
 | [],_=>fun u hu=>by simp [SL] at hu
 | t :: ts,h=>fun u hu=>by
  simp only [fineL,Bool.and_eq_true] at h
  simp only [SL,List.mem_cons] at hu
  rcases hu with rfl | hu
  ·exact nf_S t h.1
  ·exact nf_SL ts h.2 u hu
end
structure S4 where
 k:Int
 n:Nat
 s:Nat
 d:Nat
abbrev S4.v (S:S4):Value:=.agg #[.int .i64 S.k,.int .i64 (S.n:Int),.int .i64 (S.s:Int),.int .i64 (S.d:Int)]
abbrev S4.c (S:S4):Array Value:=#[.int .i64 S.k,.int .i64 (S.n:Int),.int .i64 (S.s:Int),.int .i64 (S.d:Int)]
structure R7 where
 s:Nat
 n:Nat
 d:Nat
 l:S4
abbrev R7.c (r:R7):Array Value:=#[.int .i64 (r.s:Int),.int .i64 (r.n:Int),.int .i64 (r.d:Int),.int .i64 r.l.k,.int .i64 (r.l.n:Int),.int .i64 (r.l.s:Int),.int .i64 (r.l.d:Int)]
abbrev r0:R7:=⟨0,0,0,⟨0,0,0,0⟩⟩
theorem nf_subs {t:Tn} (h:Nf t) (hk:t.kind=4∨t.kind=5):2≤t.subs.length:=by
 cases h with
 | leaf h1 hn=>simp only [Tn.kind] at hk;omega
 | cat h2 h' hs=>exact h2
 | alt h2 h' hs=>exact h2
 | loop h' hy=>simp only [Tn.kind] at hk;omega
 | grp hn hy=>simp only [Tn.kind] at hk;omega
theorem joinT_us {l:List (Tn × Nat)} (hl:∀ x ∈ l,Nf x.1):joinT l=(match rowS 4 (l.filter keep) with | []=>emptyT | [u]=>u | us=>zN 4 us):=by
 have hf:∀ x ∈ l.filter keep,Nf x.1∧0 < x.2:=fun x hx=>by
  rw [List.mem_filter] at hx
  refine ⟨hl x hx.1,?_⟩
  have:=hx.2
  simp only [keep,Bool.and_eq_true,decide_eq_true_eq] at this
  exact this.1
 have hlen:=rowS_len (k:=4) (l:=l.filter keep) fun x hx=>(nf_within (.inl rfl) (hf x hx).1).1
 unfold joinT joinK
 generalize l.filter keep=K at hf hlen ⊢
 by_cases h0:timesOf K=0
 ·have:K=[]:=by
   cases K with
   | nil=>rfl
   | cons x K=>simp only [timesOf] at h0;have:=(hf x (by simp)).2;omega
  subst this
  rw [if_pos h0]
  rfl
 ·rw [if_neg h0]
  by_cases h1:timesOf K=1
  ·rw [if_pos h1]
   obtain ⟨x,rfl⟩:∃ x,K=[x]:=by
    cases K with
    | nil=>simp [timesOf] at h1
    | cons x K =>
     cases K with
     | nil=>exact ⟨x,rfl⟩
     | cons y K=>simp only [timesOf] at h1;have:=(hf x (by simp)).2;have:=(hf y (by simp)).2;omega
   have hx1:x.2=1:=by simpa [timesOf] using h1
   have e:rowS 4 [x]=within 4 x.1:=by rw [rowS_cons,hx1];simp [rowS]
   rw [e]
   simp only [List.headD_cons]
   have hn:=(hf x (by simp)).1
   generalize x.1=u at hn ⊢
   by_cases hk:u.kind=4
   ·have e2:within 4 u=u.subs:=by unfold within;rw [if_pos hk]
    rw [e2]
    cases hn with
    | leaf h1 hn=>simp only [Tn.kind] at hk;omega
    | @cat s h2 h' hs =>
     match s,h2 with
     | a :: b :: s,_=>rfl
    | alt h2 h' hs=>simp only [Tn.kind] at hk;omega
    | loop h' hy=>simp only [Tn.kind] at hk;omega
    | grp hn hy=>simp only [Tn.kind] at hk;omega
   ·have e2:within 4 u=[u]:=by unfold within;rw [if_neg hk]
    rw [e2]
  ·rw [if_neg h1]
   have h2:2≤(rowS 4 K).length:=by omega
   show zN 4 (rowS 4 K)=_
   match hr:rowS 4 K,h2 with
   | a :: b :: s,_=>rfl
def jn (t:Tn):List Tn:=if t.kind=1 then [] else within 4 t
def joinU:List Tn→Tn
 | []=>emptyT
 | [u]=>u
 | a :: b :: s=>zN 4 (a :: b :: s)
theorem rowS_keep (l:List (Tn × Nat)):rowS 4 (l.filter keep)=l.flatMap fun x=>(List.replicate x.2 (jn x.1)).flatten:=by
 induction l with
 | nil=>rfl
 | cons x l ih =>
  rw [List.filter_cons,List.flatMap_cons,← ih]
  by_cases h1:x.1.kind=1
  ·have hk:keep x=false:=by simp [keep,h1]
   simp [hk,jn,h1]
  ·by_cases h0:x.2=0
   ·have hk:keep x=false:=by simp [keep,h0]
    simp [hk,h0]
   ·have hk:keep x=true:=by simp [keep,h1];omega
    rw [if_pos hk,rowS_cons]
    simp [jn,h1]
theorem rowS_keep_ones (l:List Tn):rowS 4 ((ones l).filter keep)=l.flatMap jn:=by
 rw [rowS_keep]
 simp [ones,List.flatMap_map]
theorem joinT_U {l:List (Tn × Nat)} (hl:∀ x ∈ l,Nf x.1):joinT l=joinU (rowS 4 (l.filter keep)):=by
 rw [joinT_us hl]
 generalize rowS 4 (l.filter keep)=us
 match us with
 | []=>rfl
 | [u]=>rfl
 | a :: b :: s=>rfl
theorem joinT_jn {l:List Tn} (h:∀ x ∈ l,Nf x):joinT (ones l)=joinU (l.flatMap jn):=by
 rw [joinT_U (fun x hx=>by obtain ⟨u,hu,rfl⟩:=List.mem_map.1 hx;exact h u hu),rowS_keep_ones]
theorem joinT_runs {y o:Tn} (n:Nat) (hy:Nf y) (ho:Nf o):joinT (ones (List.replicate n y ++ [o]))=joinT [(y,n),(o,1)]:=by
 rw [joinT_jn fun x hx=>by
  rw [List.mem_append,List.mem_replicate] at hx
  rcases hx with h | h
  ·rw [h.2];exact hy
  ·rw [List.mem_singleton] at h;rw [h];exact ho]
 rw [joinT_U fun x hx=>by
  simp at hx
  rcases hx with rfl | rfl
  ·exact hy
  ·exact ho]
 rw [rowS_keep]
 congr 1
 simp [List.flatMap_append,List.flatMap_replicate]
def LTr (w:World) (A:Nat→Prop) (ad:Option Addr) (ts:List Tn):Prop:=
 ∃ ND:Nat→Nv,(0 < ts.length→∃ b o,ad=some ⟨b,o,none⟩∧A b∧∀ i,i < ts.length→N9 w b o i (ND i))∧∀ i (hi:i < ts.length),TP w A (ND i) ts[i]
theorem LTr.kept {w w':World} {A A':Nat→Prop} {ad:Option Addr} {ts:List Tn} (h:LTr w A ad ts) (hk:∀ b,A b→w'.heap[b]?=w.heap[b]?) (hA:∀ b,A b→A' b):LTr w' A' ad ts:=by
 obtain ⟨ND,h1,h2⟩:=h
 refine ⟨ND,fun hp=>?_,fun i hi=>(h2 i hi).kept hk hA⟩
 obtain ⟨b,o,e,hb,h3⟩:=h1 hp
 exact ⟨b,o,e,hA b hb,fun i hi=>(h3 i hi).kept (hk b hb)⟩
theorem LTr.node {w:World} {A:Nat→Prop} {N:Nv} {ts:List Tn} {R:List (Int × Int)} (h:LTr w A N.s1 ts) (ok:N.ok) (hr:N.r2=R.length) (hR:RP w A N.r1 R) (hRk:∀ x ∈ R,I64ok x.1∧I64ok x.2) (hs:N.s2=ts.length):TP w A N (.mk N.k R N.a2 ts N.a4 N.a5 N.a6 N.a7 N.a8):=by
 obtain ⟨ND,h1,h2⟩:=h
 exact .mk ok hr hR hRk hs h1 h2
theorem TP.subs {w:World} {A:Nat→Prop} {N:Nv} {t:Tn} (h:TP w A N t):LTr w A N.s1 t.subs∧N.s2=t.subs.length∧N.s2≤N.s3∧N.k=t.kind:=by
 cases h with
 | mk ok hr hR hRk hs hS hk=>exact ⟨⟨_,hS,hk⟩,hs,ok.s.1,rfl⟩
structure RX (A A':Nat→Prop) (w0 w:World) (uv:Value) (MS:List Nv) (us:List Tn):Prop where
 row:w.ownsRow w0.heap.size 25 9 uv us.length (MS.flatMap Nv.cs)
 len:MS.length=us.length
 tp:∀ j (h:j < us.length) (h':j < MS.length),TP w A' MS[j] us[j]
 inA:∀ b,A b→A' b
 ofA:∀ b,A' b→A b∨w0.heap.size≤b
 low:∀ b,A' b→b < w.heap.size
 out:∀ b,uv.ownBlock=some b→¬ A' b
 bel:Below w0.heap.size w0 w
def RG (A:Nat→Prop) (w0 w:World) (uv:Value) (us:List Tn):Prop:=∃ MS A',RX A A' w0 w uv MS us
theorem RG.start {A:Nat→Prop} {w0 w:World} (hA:∀ b,A b→b < w0.heap.size) (hb:Below w0.heap.size w0 w):RG A w0 w (.slice none 0 0) []:=
 ⟨[],A,World.ownsRow_nil _ _ _ _,rfl,fun j h=>by simp at h,fun b hb=>hb,fun b hb=>.inl hb,fun b h=>by have:=hA b h;have:=hb.size;omega,fun b hb=>(by cases hb),hb⟩
theorem RX.rowAt {A A':Nat→Prop} {w0 w X:World} {uv:Value} {MS:List Nv} {us:List Tn} (h:RX A A' w0 w uv MS us) (hX:Below w.heap.size w X):X.ownsRow w0.heap.size 25 9 uv us.length (MS.flatMap Nv.cs):=row_kept h.row fun b hb=>hX.block b (h.row.lt b hb).2
theorem RX.app {A A' A2:Nat→Prop} {w0 w W X w3:World} {uv v':Value} {MS news:List Nv} {us ts:List Tn} (h:RX A A' w0 w uv MS us) (hW:Below w.heap.size w W) (hnl:news.length=ts.length) (hN:∀ j (h:j < ts.length) (h':j < news.length),TP W A2 news[j] ts[j]) (hA2:∀ b,A2 b→A b∨w.heap.size≤b∧b < W.heap.size) (hX:Below W.heap.size W X)
  (ho:w3.ownsRow w0.heap.size 25 9 v' (us.length + ts.length) (MS.flatMap Nv.cs ++ news.flatMap Nv.cs)) (hm:Moved X w3 uv v'):RG A w0 w3 v' (us ++ ts):=by
 have hub:∀ k,uv.ownBlock=some k→k < w.heap.size:=fun k hk=>(h.row.lt k hk).2
 have hx0:=h.bel.size
 have s2:=hW.size
 have s3:=hX.size
 have hWX:Below w.heap.size w X:=hW.trans (Joins.below_le hX s2)
 have hbX:Below w0.heap.size w0 X:=h.bel.trans (Joins.below_le hWX hx0)
 obtain ⟨hb3,hs3⟩:=moved_below hbX (by omega) (fun k hk=>(h.row.lt k hk).1) hm
 have e3:∀ k,k < W.heap.size→uv.ownBlock≠some k→w3.heap[k]?=W.heap[k]?:=fun k hk hn=>(moved_old' hm (by omega) hn).trans (hX.block k hk)
 have hlow:∀ b,(A' b∨w.heap.size≤b∧b < W.heap.size)→b < W.heap.size:=fun b hA=>by
  rcases hA with hA | hA
  ·have:=h.low b hA;omega
  ·omega
 have hout:∀ b,(A' b∨w.heap.size≤b∧b < W.heap.size)→uv.ownBlock≠some b:=fun b hA e=>by
  rcases hA with hA | hA
  ·exact h.out b e hA
  ·have:=hub b e;omega
 have hl:=h.len
 refine ⟨MS ++ news,fun b=>A' b∨w.heap.size≤b∧b < W.heap.size,?_,by simp [hl,hnl],fun j hj hj'=>?_,fun b hb=>.inl (h.inA b hb),fun b hb=>?_,fun b hA=>by have:=hlow b hA;omega,fun b hb hA=>?_,hb3⟩
 ·rw [List.length_append,List.flatMap_append];exact ho
 ·by_cases hjl:j < us.length
  ·rw [List.getElem_append_left (by omega),List.getElem_append_left hjl]
   exact (h.tp j hjl (by omega)).kept (fun b hA=>(e3 b (hlow b (.inl hA)) (hout b (.inl hA))).trans (hW.block b (h.low b hA))) (fun b hA=>.inl hA)
  ·simp only [List.length_append] at hj hj'
   rw [List.getElem_append_right (by omega),List.getElem_append_right (by omega)]
   have hN':=hN (j - us.length) (by omega) (by omega)
   have e:j - MS.length=j - us.length:=by omega
   simp only [e]
   have hin:∀ b,A2 b→A' b∨w.heap.size≤b∧b < W.heap.size:=fun b hb=>by
    rcases hA2 b hb with h1 | h1
    ·exact .inl (h.inA b h1)
    ·exact .inr h1
   exact hN'.kept (fun b hb=>e3 b (hlow b (hin b hb)) (hout b (hin b hb))) hin
 ·rcases hb with hb | hb
  ·exact h.ofA b hb
  ·right;omega
 ·rcases hm with ⟨h0,_⟩ | ⟨h0,_⟩
  ·rw [h0] at hb;exact hout b hA hb
  ·rw [h0] at hb
   simp at hb
   have:=hlow b hA
   omega
mutual
def Tn.eff (K:Nat):Tn→Prop
 | .mk k R a s mn mx lz ix nm=>(k=7→2 * ix + 1 < (K:Int))∧(¬ (k=6∧mx=0)→effL K s)
def effL (K:Nat):List Tn→Prop
 | []=>True
 | t :: ts=>t.eff K∧effL K ts
end
section
variable {E:Nat→Way} {K:Nat}
end
theorem giL_le {G:Int}:∀ (ts:List Tn) (m:Int),giL ts m≤G↔m≤G∧∀ t ∈ ts,t.gi≤G:=by
 intro ts
 induction ts with
 | nil=>intro m;simp [giL]
 | cons t ts ih =>
  intro m
  simp only [giL,ih,List.mem_cons]
  constructor
  ·rintro ⟨h1,h2⟩
   refine ⟨by omega,fun u hu=>?_⟩
   rcases hu with rfl | hu
   ·omega
   ·exact h2 u hu
  ·rintro ⟨h1,h2⟩
   have:=h2 t (.inl rfl)
   exact ⟨by omega,fun u hu=>h2 u (.inr hu)⟩
theorem gi_loopN {x:Tn} {mn mx:Int} {lz:Bool} {G:Int}:(loopN x mn mx lz).gi≤G↔0≤G∧x.gi≤G:=by
 simp only [loopN,Tn.gi,giL_le]
 simp
theorem gi_rowN {l:List Tn} {G:Int} (hG:0≤G):(rowN l).gi≤G↔∀ x ∈ l,x.gi≤G:=by
 match l with
 | []=>simp [rowN,Tn.gi,giL,hG]
 | [x]=>simp [rowN]
 | x :: y :: l=>simp only [rowN,Tn.gi,giL_le,hG,true_and]
theorem gi_optN {x:Tn} {lz:Bool} {G:Int} (hG:0≤G):∀ k,(optN x lz k).gi≤G↔x.gi≤G:=by
 intro k
 induction k with
 | zero=>simp only [optN,gi_loopN,hG,true_and]
 | succ k ih =>
  simp only [optN,gi_loopN,hG,true_and,gi_rowN hG]
  simp [ih]
theorem gi_sprN {x:Tn} {mn mx:Int} {lz:Bool} {G:Int} (hG:0≤G) (h0:0≤mn) (hx:mx=-1∨mn≤mx):(x.gi≤G→(sprN x mn mx lz).gi≤G)∧(mx≠0→(sprN x mn mx lz).gi≤G→x.gi≤G):=by
 unfold sprN
 by_cases c0:mx < 0
 ·rw [if_pos c0]
  by_cases c1:mn < 2
  ·rw [if_pos c1]
   simp only [gi_loopN,hG,true_and]
   exact ⟨fun h=>h,fun _ h=>h⟩
  ·rw [if_neg c1]
   simp only [gi_rowN hG,List.mem_append,List.mem_singleton,List.mem_replicate]
   refine ⟨fun h y hy=>?_,fun _ h=>?_⟩
   ·rcases hy with ⟨_,rfl⟩ | rfl
    ·exact h
    ·exact gi_loopN.2 ⟨hG,h⟩
   ·exact (gi_loopN.1 (h _ (.inr rfl))).2
 ·rw [if_neg c0]
  simp only [gi_rowN hG,List.mem_append,List.mem_replicate]
  refine ⟨fun h y hy=>?_,fun hne h=>?_⟩
  ·rcases hy with ⟨_,rfl⟩ | hy
   ·exact h
   ·split at hy
    ·simp only [List.mem_singleton] at hy
     subst hy
     exact (gi_optN hG _).2 h
    ·cases hy
  ·by_cases c2:mn < mx
   ·rw [if_pos c2] at h
    exact (gi_optN hG _).1 (h _ (.inr (List.mem_singleton.2 rfl)))
   ·exact h x (.inl ⟨by omega,rfl⟩)
mutual
theorem spread_gi:∀ (t:Tn),t.fine=true→∀ (G:Int),0≤G→(t.gi≤G→t.spread.gi≤G)∧(t.spread.gi≤G→t.eff (2 * G + 2).toNat)
 | .mk k R a s mn mx lz ix nm,hf,G,hG=>by
  simp only [Tn.fine,Bool.and_eq_true] at hf
  have FN:=fine_nodeZ hf.1
  obtain ⟨i1,i2⟩:=spreadL_gi s hf.2 G hG
  by_cases h6:k=6
  ·subst h6
   obtain ⟨q1,q2,q3,q4⟩:=FN.rep rfl
   match s,q1,i1,i2 with
   | [x],_,i1,i2 =>
   simp only [spreadL,List.mem_singleton,forall_eq] at i1 i2
   have e:(Tn.mk 6 R a [x] mn mx lz ix nm).spread=sprN x.spread mn mx lz:=by simp [Tn.spread,spreadL]
   rw [e]
   obtain ⟨j1,j2⟩:=gi_sprN (x:=x.spread) (lz:=lz) hG q2 (by omega:mx=-1∨mn≤mx)
   refine ⟨fun h=>?_,fun h=>?_⟩
   ·simp only [Tn.gi,giL_le] at h
    exact j1 (i1 (h.2 x (by simp)))
   ·simp only [Tn.eff]
    exact ⟨fun h=>by omega,fun hn=>i2 (j2 (fun h0=>hn (by simp [h0])) h)⟩
  ·have e:(Tn.mk k R a s mn mx lz ix nm).spread=.mk k R a (spreadL s) mn mx lz ix nm:=by simp [Tn.spread,h6]
   rw [e]
   simp only [Tn.gi,giL_le,Tn.eff]
   exact ⟨fun h=>⟨h.1,i1 h.2⟩,fun h=>⟨fun h7=>by have:=(FN.grp h7).2;omega,fun _=>i2 h.2⟩⟩
theorem spreadL_gi:∀ (ts:List Tn),fineL ts=true→∀ (G:Int),0≤G→((∀ t ∈ ts,t.gi≤G)→∀ t ∈ spreadL ts,t.gi≤G)∧((∀ t ∈ spreadL ts,t.gi≤G)→effL (2 * G + 2).toNat ts)
 | [],_,G,_=>by simp [spreadL,effL]
 | t :: ts,hf,G,hG=>by
  simp only [fineL,Bool.and_eq_true] at hf
  obtain ⟨a1,a2⟩:=spread_gi t hf.1 G hG
  obtain ⟨b1,b2⟩:=spreadL_gi ts hf.2 G hG
  simp only [spreadL,List.mem_cons,forall_eq_or_imp,effL]
  exact ⟨fun h=>⟨a1 h.1,b1 h.2⟩,fun h=>⟨a2 h.1,b2 h.2⟩⟩
end
end Go.Proofs.YtacaanhnlfpbhaaGreat
