/- HELPERS: texts of ours put together. -/
import Derived.Test.YtacaanhnlfpbhaaGreatK21
import Derived.Test.YtacaanhnlfpbhaaGreatK04
import Derived.Deep.Slices
namespace Go.Proofs.YtacaanhnlfpbhaaGreat
open Go.RowKit
set_option linter.unusedVariables false
set_option linter.unusedSimpArgs false
def evn:List Value→List Value
 | x :: _ :: r=>x :: evn r
 | _=>[]
theorem evn_put (x y:Value):∀ (i:Nat) (L:List Value),L.length=2 * i→evn (L ++ [x,y])=evn L ++ [x]
 | 0,[],_=>rfl
 | 0,_ :: _,h=>by simp at h
 | i + 1,[],h=>by simp at h
 | i + 1,[_],h=>by simp at h;omega
 | i + 1,a :: b :: r,h=>by
  simp only [List.cons_append,evn]
  rw [evn_put x y i r (by simp at h;omega)]
theorem evn_get:∀ (i:Nat) (L:List Value),L.length=2 * i→∀ q,q < i→(evn L)[q]?=some (L.getD (2 * q) undef)
 | 0,_,_,q,h=>by omega
 | i + 1,[],h,_,_=>by simp at h
 | i + 1,[_],h,_,_=>by simp at h;omega
 | i + 1,a :: b :: r,h,0,_=>by simp [evn]
 | i + 1,a :: b :: r,h,q + 1,hq=>by
  have:=evn_get i r (by simp at h;omega) q (by omega)
  rw [show 2 * (q + 1)=2 * q + 1 + 1 by omega]
  simpa [evn] using this
def FrzH (n:Nat) (v:Nat→Value) (w0 w:World):Prop:=∀ b,b < w0.heap.size→(∀ j,j < n→(v j).ownBlock≠some b)→w.heap[b]?=w0.heap[b]?
def MarkH (w:World) (v:Value) (n:Nat) (c:Value):Prop:=∃ ad cap,v=.slice ad n cap∧(n=0∨∃ b,ad=some ⟨b,0,none⟩∧∀ k,k < n→w.cell? ⟨b,k,none⟩=some c)
theorem MarkH.kept {w w':World} {v:Value} {n:Nat} {c:Value} (h:MarkH w v n c) (hk:∀ b,v.ownBlock=some b→w'.heap[b]?=w.heap[b]?):MarkH w' v n c:=by
 obtain ⟨ad,cap,rfl,h | ⟨b,rfl,hc⟩⟩:=h
 ·exact ⟨ad,cap,rfl,.inl h⟩
 ·exact ⟨_,cap,rfl,.inr ⟨b,rfl,fun k hk'=>(World.cell?_of_block (a:=⟨b,k,none⟩) (hk b rfl)).trans (hc k hk')⟩⟩
theorem mark_ownH {w:World} {base e n:Nat} {v:Value} {c:Value} (h:w.ownsRow base e 1 v n (List.replicate n c)):MarkH w v n c:=by
 rcases Joins.ownsRow_forms h with ⟨rfl,h0⟩ | ⟨g,cap,rfl⟩
 ·exact ⟨none,0,by rw [h0],.inl h0⟩
 ·refine ⟨_,cap,rfl,.inr ⟨g,rfl,fun k hk=>?_⟩⟩
  rw [h.cellAt k (by omega)]
  simp [hk]
theorem mark_headH {w:World} {base e n m:Nat} {v g:Value} {c:Value} (h:w.ownsRow base e 1 g m (List.replicate m c)) (hn:n≤m) (hf:∃ ad cap,v=.slice ad n cap) (hb:∀ ad cap,v=.slice ad n cap→0 < n→∃ b,ad=some ⟨b,0,none⟩) (hbl:g.ownBlock=v.ownBlock):MarkH w v n c:=by
 obtain ⟨ad,cap,rfl⟩:=hf
 by_cases h0:n=0
 ·exact ⟨ad,cap,rfl,.inl h0⟩
 ·obtain ⟨b,rfl⟩:=hb ad cap rfl (by omega)
  refine ⟨_,cap,rfl,.inr ⟨b,rfl,fun k hk=>?_⟩⟩
  rcases Joins.ownsRow_forms h with ⟨rfl,h1⟩ | ⟨g',cap',rfl⟩
  ·simp [Value.ownBlock] at hbl
  ·simp only [Value.ownBlock,Option.some.injEq] at hbl
   subst hbl
   rw [h.cellAt k (by omega)]
   simp [show k < m by omega]
structure RwsH (E T:TypeId) (base g n:Nat) (v:Nat→Value) (len:Nat→Nat) (mk:Nat→Value) (w0:World):Prop where
 hg:g < w0.heap.size
 hgb:base≤w0.heap.size
 hd:∀ i j,i < n→j < n→i≠j→∀ b,(v i).ownBlock=some b→(v j).ownBlock≠some b
 hgv:∀ j,j < n→(v j).ownBlock≠some g
 hlt:∀ j,j < n→∀ b,(v j).ownBlock=some b→base≤b∧b < w0.heap.size
 hone:∀ j,(mk j).oneCell'=true
section
variable {E T:TypeId} {base g n:Nat} {v:Nat→Value} {len:Nat→Nat} {mk:Nat→Value} {w0:World}
structure I1H (E:TypeId) (base g n:Nat) (v:Nat→Value) (len:Nat→Nat) (w0:World) (X:Nat→List Value) (w:World):Prop where
 own:∀ j,j < n→w.ownsRow base E 1 (v j) (len j) (X j)
 cel:∀ j,j < n→w.cell? ⟨g,j,none⟩=some (v j)
 siz:w.heap.size=w0.heap.size
 bel:Below base w0 w
 fr:FrzH n v w0 w
def updRH (X:Nat→List Value) (i:Nat) (l:List Value):Nat→List Value:=fun j=>if j=i then l else X j
theorem I1H.step {X:Nat→List Value} {w:World} (R:RwsH E T base g n v len mk w0) (h:I1H E base g n v len w0 X w) {i k b cap:Nat} (hi:i < n) (hv:v i=.slice (some ⟨b,0,none⟩) (len i) cap) (c:Value) :
  I1H E base g n v len w0 (updRH X i ((X i).set k c)) (w.setCell ⟨b,k,none⟩ c):=by
 have hb:(v i).ownBlock=some b:=by rw [hv];rfl
 have hlt:=R.hlt i hi b hb
 refine ⟨fun j hj=>?_,fun j hj=>?_,by simp [World.setCell,h.siz],h.bel.setCell hlt.1 _,fun b' hb' hj'=>(heap_setCell_other w ⟨b,k,none⟩ b' c (fun e=>hj' i hi (by rw [hb,e]))).trans (h.fr b' hb' hj')⟩
 ·unfold updRH
  split
  ·rename_i e
   subst e
   have h1:=h.own j hj
   rw [hv] at h1 ⊢
   exact (h1.stored k c).1
  ·rename_i e
   refine own_keptG (h.own j hj) (fun b' hb'=>heap_setCell_other w ⟨b,k,none⟩ b' c ?_)
   intro e2
   exact R.hd i j hi hj (fun e3=>e e3.symm) b hb (by rw [hb',e2])
 ·rw [World.cell?_of_block (a:=⟨g,j,none⟩) (heap_setCell_other w ⟨b,k,none⟩ g c (fun e=>R.hgv i hi (by rw [hb,e])))]
  exact h.cel j hj
def cntH (len:Nat→Nat) (q:Nat):Nat:=len (q / 2) + (if q % 2=0 then 9 else 0)
def SepH (n:Nat) (v:Nat→Value) (w:World) (long:Value) (i:Nat) (x:Value):Prop:=∀ b,x.ownBlock=some b→b < w.heap.size∧long.ownBlock≠some b∧∀ t,i≤t→t < n→(v t).ownBlock≠some b
structure I3H (E T:TypeId) (base g n:Nat) (v:Nat→Value) (len:Nat→Nat) (mk:Nat→Value) (w0:World) (i i':Nat) (long:Value) (L:List Value) (w:World):Prop where
 own:∀ j,i'≤j→j < n→w.ownsRow base E 1 (v j) (len j) (List.replicate (len j) (mk j))
 cel:∀ j,j < n→w.cell? ⟨g,j,none⟩=some (v j)
 lon:w.ownsRow w0.heap.size T 1 long i (evn L)
 mar:∀ q,q < 2 * i→MarkH w (L.getD q undef) (cntH len q) (mk (q / 2))∧SepH n v w long i (L.getD q undef)
 siz:w0.heap.size≤w.heap.size
 bel:Below base w0 w
 ll:L.length=2 * i
 od:∀ q,q < i→L.getD (2 * q + 1) undef=v q
 fr:FrzH n v w0 w
theorem I3H.kept {i i':Nat} {long:Value} {L:List Value} {w w':World} (R:RwsH E T base g n v len mk w0) (h:I3H E T base g n v len mk w0 i i' long L w) (row:Option Nat)
  (hk:∀ k,k < w.heap.size→row≠some k→w'.heap[k]?=w.heap[k]?) (hsz:w.heap.size≤w'.heap.size) (hb:Below base w0 w')
  (h1:∀ j,i'≤j→j < n→∀ b,(v j).ownBlock=some b→row≠some b) (h2:row≠some g) (h3:∀ b,long.ownBlock=some b→row≠some b) (h4:∀ q,q < 2 * i→∀ b,(L.getD q undef).ownBlock=some b→row≠some b) (h5:∀ b,b < w0.heap.size→(∀ j,j < n→(v j).ownBlock≠some b)→row≠some b) :
  I3H E T base g n v len mk w0 i i' long L w':=by
 refine ⟨fun j hj hjn=>own_keptG (h.own j hj hjn) (fun b hb'=>hk b (by have:=(R.hlt j hjn b hb').2;have:=h.siz;omega) (h1 j hj hjn b hb')),fun j hj=>?_,own_keptG h.lon (fun b hb'=>hk b (h.lon.lt b hb').2 (h3 b hb')),fun q hq=>?_,by have:=h.siz;omega,hb,h.ll,h.od,fun b hb' hj'=>(hk b (by have:=h.siz;omega) (h5 b hb' hj')).trans (h.fr b hb' hj')⟩
 ·rw [World.cell?_of_block (a:=⟨g,j,none⟩) (hk g (by have:=R.hg;have:=h.siz;omega) h2)]
  exact h.cel j hj
 ·obtain ⟨hm,hs⟩:=h.mar q hq
  refine ⟨hm.kept (fun b hb'=>hk b (hs b hb').1 (h4 q hq b hb')),fun b hb'=>?_⟩
  obtain ⟨s1,s2,s3⟩:=hs b hb'
  exact ⟨by omega,s2,s3⟩
structure I4H (E T:TypeId) (base g n:Nat) (v:Nat→Value) (len:Nat→Nat) (mk:Nat→Value) (w0:World) (i t:Nat) (long:Value) (L:List Value) (x:Value) (w:World):Prop where
 inv:I3H E T base g n v len mk w0 i (i + 1) long L w
 mar:MarkH w (v i) (len i) (mk i)
 own:w.ownsRow base E 1 x (len i + t) (List.replicate (len i + t) (mk i))
 blk:x.ownBlock=(v i).ownBlock∨∃ b,x.ownBlock=some b∧w0.heap.size≤b∧long.ownBlock≠some b∧∀ q,q < 2 * i→(L.getD q undef).ownBlock≠some b
theorem I4H.start {i:Nat} {long:Value} {L:List Value} {w:World} (h:I3H E T base g n v len mk w0 i i long L w) (hi:i < n):I4H E T base g n v len mk w0 i 0 long L (v i) w:=
 ⟨⟨fun j hj hjn=>h.own j (by omega) hjn,h.cel,h.lon,h.mar,h.siz,h.bel,h.ll,h.od,h.fr⟩,mark_ownH (h.own i (Nat.le_refl _) hi),h.own i (Nat.le_refl _) hi,.inl rfl⟩
theorem I4H.step {i t:Nat} {long x x':Value} {L:List Value} {w w':World} {o:Obj} (R:RwsH E T base g n v len mk w0) (h:I4H E T base g n v len mk w0 i t long L x w) (hi:i < n)
  (hf:∃ ad cap,v i=.slice ad (len i) cap) (hfb:∀ ad cap,v i=.slice ad (len i) cap→0 < len i→∃ b,ad=some ⟨b,0,none⟩)
  (ho:w'.ownsRow base E 1 x' (len i + t + 1) (List.replicate (len i + t) (mk i) ++ [mk i])) (hm:Moved (w.alloc o) w' x x'):I4H E T base g n v len mk w0 i (t + 1) long L x' w':=by
 have ho':w'.ownsRow base E 1 x' (len i + (t + 1)) (List.replicate (len i + (t + 1)) (mk i)):=by
  rw [← List.replicate_succ'] at ho
  exact ho
 have hsa:(w.alloc o).heap.size=w.heap.size + 1:=by simp
 have hBx:∀ k,x.ownBlock=some k→base≤k∧k < w.heap.size:=fun k hk=>h.own.lt k hk
 -- which blocks are as they were
 have hkeep:∀ k,k < w.heap.size→x.ownBlock≠some k→w'.heap[k]?=w.heap[k]?:=by
  intro k hk hne
  have ha:(w.alloc o).heap[k]?=w.heap[k]?:=heap_alloc_old w o hk
  rcases hm with ⟨_,hg⟩ | ⟨_,hg⟩
  ·rw [hg.block k (by omega) (fun e=>hne e.symm),ha]
  ·rw [hg.block k (by omega) (by simp),ha]
 have hsz:w.heap.size≤w'.heap.size:=by
  rcases hm with ⟨_,hg⟩ | ⟨_,hg⟩ <;> (have:=hg.size;omega)
 have hbel:Below base w0 w':=by
  have hb0:Below base w0 (w.alloc o):=h.inv.bel.alloc (by have:=R.hgb;have:=h.inv.siz;omega) o
  have hbs:base≤(w.alloc o).heap.size:=by have:=R.hgb;have:=h.inv.siz;omega
  rcases hm with ⟨_,hg⟩ | ⟨_,hg⟩
  ·exact hb0.grown hg hbs (fun k hk=>(hBx k hk).1)
  ·exact hb0.grown hg hbs (fun k hk=>by cases hk)
 have hlong:∀ b,long.ownBlock=some b→w0.heap.size≤b∧b < w.heap.size:=fun b hb=>h.inv.lon.lt b hb
 have hinv:I3H E T base g n v len mk w0 i (i + 1) long L w':=by
  refine h.inv.kept R x.ownBlock hkeep hsz hbel ?_ ?_ ?_ ?_ ?_
  ·intro j hj hjn b hb e
   rcases h.blk with hx | ⟨b',hx,hb1,_,_⟩
   ·exact R.hd i j hi hjn (by omega) b (by rw [← hx];exact e) hb
   ·have:=(R.hlt j hjn b hb).2
    rw [hx] at e
    injection e with e
    omega
  ·intro e
   rcases h.blk with hx | ⟨b',hx,hb1,_,_⟩
   ·exact R.hgv i hi (by rw [← hx];exact e)
   ·have:=R.hg
    rw [hx] at e
    injection e with e
    omega
  ·intro b hb e
   rcases h.blk with hx | ⟨b',hx,_,hl,_⟩
   ·have h1:=hlong b hb
    have h2:=(R.hlt i hi b (by rw [← hx];exact e)).2
    omega
   ·rw [hx] at e
    exact hl (by rw [hb,e])
  ·intro q hq b hb e
   rcases h.blk with hx | ⟨b',hx,_,_,hl⟩
   ·exact ((h.inv.mar q hq).2 b hb).2.2 i (Nat.le_refl _) hi (by rw [← hx];exact e)
   ·rw [hx] at e
    exact hl q hq (by rw [hb,e])
  ·intro b hb hj' e
   rcases h.blk with hx | ⟨b',hx,hb1,_,_⟩
   ·exact hj' i hi (by rw [← hx];exact e)
   ·rw [hx] at e
    injection e with e
    omega
 refine ⟨hinv,?_,ho',?_⟩
 ·by_cases hsame:x.ownBlock=(v i).ownBlock
  ·rcases hm with ⟨h5,hg⟩ | ⟨h5,hg⟩
   ·exact mark_headH ho' (by omega) hf hfb (by rw [h5,hsame])
   ·refine h.mar.kept (fun b hb=>?_)
    have hbl:=(R.hlt i hi b hb).2
    have:=h.inv.siz
    rw [hg.block b (by omega) (by simp),heap_alloc_old w o (by omega)]
  ·refine h.mar.kept (fun b hb=>hkeep b (by have:=(R.hlt i hi b hb).2;have:=h.inv.siz;omega) (fun e=>hsame (by rw [hb,e])))
 ·rcases hm with ⟨h5,hg⟩ | ⟨h5,hg⟩
  ·rw [h5];exact h.blk
  ·right
   have:=h.inv.siz
   refine ⟨_,h5,by omega,fun e=>?_,fun q hq e=>?_⟩
   ·have:=(hlong _ e).2;omega
   ·have:=((h.inv.mar q hq).2 _ e).1;omega
theorem I4H.put {i:Nat} {long long' x:Value} {L:List Value} {w w':World} {o:Obj} (R:RwsH E T base g n v len mk w0) (h:I4H E T base g n v len mk w0 i 9 long L x w) (hi:i < n)
  (ho:w'.ownsRow w0.heap.size T 1 long' (i + 1) (evn L ++ [x])) (hm:Moved (w.alloc o) w' long long'):I3H E T base g n v len mk w0 (i + 1) (i + 1) long' (L ++ [x,v i]) w':=by
 have hsa:(w.alloc o).heap.size=w.heap.size + 1:=by simp
 have hlong:∀ b,long.ownBlock=some b→w0.heap.size≤b∧b < w.heap.size:=fun b hb=>h.inv.lon.lt b hb
 have hsiz:=h.inv.siz
 have hkeep:∀ k,k < w.heap.size→long.ownBlock≠some k→w'.heap[k]?=w.heap[k]?:=by
  intro k hk hne
  have ha:(w.alloc o).heap[k]?=w.heap[k]?:=heap_alloc_old w o hk
  rcases hm with ⟨_,hg⟩ | ⟨_,hg⟩
  ·rw [hg.block k (by omega) (fun e=>hne e.symm),ha]
  ·rw [hg.block k (by omega) (by simp),ha]
 have hsz:w.heap.size≤w'.heap.size:=by
  rcases hm with ⟨_,hg⟩ | ⟨_,hg⟩ <;> (have:=hg.size;omega)
 have hbel:Below base w0 w':=by
  have hb0:Below base w0 (w.alloc o):=h.inv.bel.alloc (by have:=R.hgb;omega) o
  have hbs:base≤(w.alloc o).heap.size:=by have:=R.hgb;omega
  rcases hm with ⟨_,hg⟩ | ⟨_,hg⟩
  ·exact hb0.grown hg hbs (fun k hk=>by have:=(hlong k hk).1;have:=R.hgb;omega)
  ·exact hb0.grown hg hbs (fun k hk=>by cases hk)
 have hlong':∀ b,long'.ownBlock=some b→w0.heap.size≤b:=fun b hb=>(ho.lt b hb).1
 have hneL:∀ b,b < w.heap.size→long.ownBlock≠some b→long'.ownBlock≠some b:=by
  intro b hb hne
  rcases hm with ⟨h5,_⟩ | ⟨h5,_⟩
  ·rw [h5];exact hne
  ·rw [h5];intro e;injection e with e;omega
 have hvi:∀ j,j < n→∀ b,(v j).ownBlock=some b→b < w.heap.size∧long.ownBlock≠some b:=fun j hj b hb=>by
  have h1:=(R.hlt j hj b hb).2
  exact ⟨by omega,fun e=>by have:=(hlong b e).1;omega⟩
 have hx:∀ b,x.ownBlock=some b→b < w.heap.size∧long.ownBlock≠some b∧∀ t,i + 1≤t→t < n→(v t).ownBlock≠some b:=by
  intro b hb
  have hlt:=(h.own.lt b hb).2
  rcases h.blk with hxv | ⟨b',hxb,hb1,hl,_⟩
  ·rw [hxv] at hb
   exact ⟨hlt,(hvi i hi b hb).2,fun t ht htn=>R.hd i t hi htn (by omega) b hb⟩
  ·rw [hxb] at hb
   injection hb with hb
   subst hb
   exact ⟨hlt,hl,fun t ht htn e=>by have:=(R.hlt t htn _ e).2;omega⟩
 have hLl:L.length=2 * i:=h.inv.ll
 refine ⟨fun j hj hjn=>own_keptG (h.inv.own j hj hjn) (fun b hb=>hkeep b (hvi j hjn b hb).1 (hvi j hjn b hb).2),fun j hj=>?_,?_,fun q hq=>?_,by omega,hbel,by simp [hLl];omega,fun q hq=>?_,fun b hb hj'=>(hkeep b (by omega) (fun e=>by have:=(hlong b e).1;omega)).trans (h.inv.fr b hb hj')⟩
 ·rw [World.cell?_of_block (a:=⟨g,j,none⟩) (hkeep g (by have:=R.hg;omega) (fun e=>by have:=(hlong g e).1;have:=R.hg;omega))]
  exact h.inv.cel j hj
 ·rw [evn_put _ _ i L hLl];exact ho
 ·by_cases h1:q < 2 * i
  ·have e:(L ++ [x,v i]).getD q undef=L.getD q undef:=by simp [List.getD_eq_getElem?_getD,List.getElem?_append_left (show q < L.length by omega)]
   rw [e]
   obtain ⟨hmk,hs⟩:=h.inv.mar q h1
   refine ⟨hmk.kept (fun b hb=>hkeep b (hs b hb).1 (hs b hb).2.1),fun b hb=>?_⟩
   obtain ⟨s1,s2,s3⟩:=hs b hb
   exact ⟨by omega,hneL b s1 s2,fun t ht htn=>s3 t (by omega) htn⟩
  ·by_cases h2:q=2 * i
   ·subst h2
    have e:(L ++ [x,v i]).getD (2 * i) undef=x:=by simp [List.getD_eq_getElem?_getD,← hLl]
    have ec:cntH len (2 * i)=len i + 9:=by unfold cntH;rw [show (2 * i) / 2=i by omega,show (2 * i) % 2=0 by omega];rfl
    rw [e,ec,show (2 * i) / 2=i by omega]
    refine ⟨(mark_ownH h.own).kept (fun b hb=>hkeep b (hx b hb).1 (hx b hb).2.1),fun b hb=>?_⟩
    obtain ⟨s1,s2,s3⟩:=hx b hb
    exact ⟨by omega,hneL b s1 s2,s3⟩
   ·have h3:q=2 * i + 1:=by omega
    subst h3
    have e:(L ++ [x,v i]).getD (2 * i + 1) undef=v i:=by simp [List.getD_eq_getElem?_getD,← hLl]
    have ec:cntH len (2 * i + 1)=len i:=by unfold cntH;rw [show (2 * i + 1) / 2=i by omega,show (2 * i + 1) % 2=1 by omega];rfl
    rw [e,ec,show (2 * i + 1) / 2=i by omega]
    refine ⟨h.mar.kept (fun b hb=>hkeep b (hvi i hi b hb).1 (hvi i hi b hb).2),fun b hb=>?_⟩
    exact ⟨by have:=(hvi i hi b hb).1;omega,hneL b (hvi i hi b hb).1 (hvi i hi b hb).2,fun t ht htn=>R.hd i t hi htn (by omega) b hb⟩
 ·by_cases h1:q < i
  ·rw [← h.inv.od q h1]
   simp [List.getD_eq_getElem?_getD,List.getElem?_append_left (show 2 * q + 1 < L.length by omega)]
  ·obtain rfl:q=i:=by omega
   simp [List.getD_eq_getElem?_getD,← hLl]
end
def offs (len:Nat→Nat):Nat→Nat
 | 0=>0
 | j + 1=>offs len j + len j
def Yr (len:Nat→Nat) (E:Nat→List Value) (j k i:Nat):List Value:=if i < j then P2 (len i) (mkP i) else if i=j then P2 k (mkP i) ++ (E i).drop (k * 2) else E i
theorem P2_put (c:Value):∀ (k:Nat) (D:List Value),2≤D.length→((P2 k c ++ D).set (k * 2) c).set (k * 2 + 1) NilS=P2 (k + 1) c ++ D.drop 2:=by
 intro k D hD
 match D,hD with
 | x :: y :: r,_ =>
  rw [← P2_succ]
  have hl:=P2_len k c
  rw [List.set_append_right _ _ (by omega),List.set_append_right _ _ (by omega)]
  simp [hl]
structure I0H (base n:Nat) (v:Nat→Value) (len:Nat→Nat) (E:Nat→List Value) (A:Nat→Value) (w0:World) (j k m:Nat) (a:Value) (w:World):Prop where
 own:∀ i,i < n→w.ownsRow base 57 2 (v i) (len i) (Yr len E j k i)
 fr:FrzH n v w0 w
 all:w.ownsRow w0.heap.size 26 1 a m ((List.range m).map A)
 siz:w0.heap.size≤w.heap.size
 bel:Below base w0 w
section
variable {base g n:Nat} {v:Nat→Value} {len:Nat→Nat} {E:Nat→List Value} {A:Nat→Value} {w0:World}
theorem I0H.start (hO:∀ j,j < n→w0.ownsRow base 57 2 (v j) (len j) (E j)):I0H base n v len E A w0 0 0 0 (.slice none 0 0) w0:=by
 refine ⟨fun i hi=>?_,fun b _ _=>rfl,World.ownsRow_nil _ _ _ _,Nat.le_refl _,Below.refl _ _⟩
 have e:Yr len E 0 0 i=E i:=by
  unfold Yr
  rw [if_neg (by omega)]
  split
  ·simp [P2]
  ·rfl
 rw [e]
 exact hO i hi
theorem I0H.next {j m:Nat} {a:Value} {w:World} (hl:(E j).length=len j * 2) (h:I0H base n v len E A w0 j (len j) m a w):I0H base n v len E A w0 (j + 1) 0 m a w:=by
 refine ⟨fun i hi=>?_,h.fr,h.all,h.siz,h.bel⟩
 have e:Yr len E (j + 1) 0 i=Yr len E j (len j) i:=by
  unfold Yr
  by_cases h1:i < j
  ·rw [if_pos (by omega),if_pos h1]
  ·by_cases h2:i=j
   ·subst h2
    rw [if_pos (by omega),if_neg h1,if_pos rfl,List.drop_of_length_le (by omega),List.append_nil]
   ·rw [if_neg (by omega),if_neg h1,if_neg h2]
    split
    ·simp [P2]
    ·rfl
 rw [e]
 exact h.own i hi
theorem I0H.put {j k m:Nat} {a a':Value} {w w':World} {o:Obj} (R:RwsG 57 33 base g n v len mkP w0) (h:I0H base n v len E A w0 j k m a w)
  (ho:w'.ownsRow w0.heap.size 26 1 a' (m + 1) ((List.range m).map A ++ [A m])) (hm:Moved (w.alloc o) w' a a'):I0H base n v len E A w0 j k (m + 1) a' w':=by
 have hsa:(w.alloc o).heap.size=w.heap.size + 1:=by simp
 have hsiz:=h.siz
 have hgb:=R.hgb
 have hal:∀ b,a.ownBlock=some b→w0.heap.size≤b∧b < w.heap.size:=fun b hb=>h.all.lt b hb
 have hkeep:∀ k,k < w.heap.size→a.ownBlock≠some k→w'.heap[k]?=w.heap[k]?:=by
  intro k hk hne
  have ha:(w.alloc o).heap[k]?=w.heap[k]?:=heap_alloc_old w o hk
  rcases hm with ⟨_,hg⟩ | ⟨_,hg⟩
  ·rw [hg.block k (by omega) (fun e=>hne e.symm),ha]
  ·rw [hg.block k (by omega) (by simp),ha]
 have hsz:w.heap.size≤w'.heap.size:=by
  rcases hm with ⟨_,hg⟩ | ⟨_,hg⟩ <;> (have:=hg.size;omega)
 have hbel:Below base w0 w':=by
  have hb0:Below base w0 (w.alloc o):=h.bel.alloc (by omega) o
  have hbs:base≤(w.alloc o).heap.size:=by omega
  rcases hm with ⟨_,hg⟩ | ⟨_,hg⟩
  ·exact hb0.grown hg hbs (fun k hk=>by have:=(hal k hk).1;omega)
  ·exact hb0.grown hg hbs (fun k hk=>by cases hk)
 refine ⟨fun i hi=>own_keptG (h.own i hi) (fun b hb=>hkeep b ?_ (fun e=>?_)),fun b hb hj=>(hkeep b (by omega) (fun e=>by have:=(hal b e).1;omega)).trans (h.fr b hb hj),?_,by omega,hbel⟩
 ·have:=(R.hlt i hi b hb).2;omega
 ·have:=(R.hlt i hi b hb).2;have:=(hal b e).1;omega
 ·rw [List.range_succ,List.map_append]
  exact ho
theorem I0H.write {j k m b cap:Nat} {a:Value} {w:World} (R:RwsG 57 33 base g n v len mkP w0) (hl:(E j).length=len j * 2) (h:I0H base n v len E A w0 j k m a w) (hj:j < n) (hk:k < len j)
  (hv:v j=.slice (some ⟨b,0,none⟩) (len j) cap):I0H base n v len E A w0 j (k + 1) m a ((w.setCell ⟨b,k * 2,none⟩ (mkP j)).setCell ⟨b,k * 2 + 1,none⟩ NilS):=by
 have hb:(v j).ownBlock=some b:=by rw [hv];rfl
 have hlt:=R.hlt j hj b hb
 have hot:∀ b',b'≠b→((w.setCell ⟨b,k * 2,none⟩ (mkP j)).setCell ⟨b,k * 2 + 1,none⟩ NilS).heap[b']?=w.heap[b']?:=fun b' hb' =>
  (heap_setCell_other _ ⟨b,k * 2 + 1,none⟩ b' NilS hb').trans (heap_setCell_other w ⟨b,k * 2,none⟩ b' (mkP j) hb')
 refine ⟨fun i hi=>?_,fun b' hb' hj'=>(hot b' (fun e=>hj' j hj (by rw [hb,e]))).trans (h.fr b' hb' hj'),own_keptG h.all (fun b' hb'=>hot b' (fun e=>by have:=(h.all.lt b' hb').1;omega)),by have:=h.siz;simpa [World.setCell] using this,(h.bel.setCell hlt.1 _).setCell hlt.1 _⟩
 by_cases hij:i=j
 ·subst hij
  have h1:=h.own i hi
  rw [hv] at h1 ⊢
  have h2:=row_setC (row_setC h1 (k * 2) (mkP i)) (k * 2 + 1) NilS
  have e:((Yr len E i k i).set (k * 2) (mkP i)).set (k * 2 + 1) NilS=Yr len E i (k + 1) i:=by
   unfold Yr
   rw [if_neg (by omega),if_pos rfl,if_neg (by omega),if_pos rfl,P2_put _ _ _ (by rw [List.length_drop];omega),List.drop_drop]
   congr 2
   omega
  rw [e] at h2
  exact h2
 ·have e:Yr len E j (k + 1) i=Yr len E j k i:=by
   unfold Yr
   rw [if_neg hij,if_neg hij]
  rw [e]
  exact own_keptG (h.own i hi) (fun b' hb'=>hot b' (fun e2=>R.hd j i hj hi (fun e3=>hij e3.symm) b hb (by rw [hb',e2])))
theorem Yr_at {j k:Nat} (hl:(E j).length=len j * 2) (hk:k < len j) (c:Value) (hc:(E j)[k * 2 + 1]?=some c):(Yr len E j k j)[k * 2 + 1]?=some c:=by
 unfold Yr
 rw [if_neg (by omega),if_pos rfl,List.getElem?_append_right (by rw [P2_len];omega),P2_len,List.getElem?_drop]
 rw [show k * 2 + (k * 2 + 1 - k * 2)=k * 2 + 1 by omega]
 exact hc
end
theorem size57H:(Tryz.prog.info? 57).map (·.size)=some 2:=by kernel_rfl
theorem store57H {ops:Array Oper} {rest:List Oper} {op:Oper} {a:Act} {w:World} {Q:Exit→Act→World→Prop} (hgd:op.guard=none) (x y:Operand) (ho:op.op=.store 57 x y)
  (b i:Nat) (p:Int) (hx:a.eval x=.pointer (some ⟨b,i * 2,none⟩)) (hy:a.eval y=.agg #[.int .i64 p,NilS]) (ht:w.there b (i * 2) 2)
  (h:wpList Tryz.prog ops Q rest (a.put op.dst undef) ((w.setCell ⟨b,i * 2,none⟩ (.int .i64 p)).setCell ⟨b,i * 2 + 1,none⟩ NilS)):wpList Tryz.prog ops Q (op :: rest) a w:=
 wpList_store_mid hgd 57 x y ho b (i * 2) #[.int .i64 p,NilS] hx hy ht size57H (by simp [Value.oneCell',NilS]) h
structure OwH (base g n N:Nat) (v:Nat→Value) (len:Nat→Nat) (E:Nat→List Value) (A:Nat→Value) (cl:Nat→Nat) (w0:World):Prop where
 R:RwsG 57 33 base g n v len mkP w0
 off:N=offs len n
 own:∀ j,j < n→w0.ownsRow base 57 2 (v j) (len j) (E j)
 cel:∀ j,j < n→w0.cell? ⟨g,j,none⟩=some (v j)
 cap:∀ j k,j < n→k < len j→(E j)[k * 2 + 1]?=some (A (offs len j + k))
 aow:∀ q,q < N→∃ X,w0.ownsRow base 3 1 (A q) (cl q) X
 ad:∀ i j,i < N→j < N→i≠j→∀ b,(A i).ownBlock=some b→(A j).ownBlock≠some b
 av:∀ q j,q < N→j < n→∀ b,(A q).ownBlock=some b→(v j).ownBlock≠some b
 ag:∀ q,q < N→(A q).ownBlock≠some g
 nn:n≤1000
 ll:∀ j,j < n→len j≤1000000
 cll:∀ q,q < N→cl q≤100000000
 NN:N≤1000000
theorem offs_le (len:Nat→Nat) (j:Nat):∀ n,j < n→offs len j + len j≤offs len n:=by
 intro n
 induction n with
 | zero=>omega
 | succ n ih =>
  intro h
  by_cases e:j=n
  ·subst e;exact Nat.le_refl _
  ·have:=ih (by omega)
   simp only [offs]
   omega
section
variable {base g n N:Nat} {v:Nat→Value} {len:Nat→Nat} {E:Nat→List Value} {A:Nat→Value} {cl:Nat→Nat} {w0:World}
theorem OwH.cellg {w:World} (h:OwH base g n N v len E A cl w0) (hf:FrzH n v w0 w) {j:Nat} (hj:j < n):w.cell? ⟨g,j,none⟩=some (v j):=by
 rw [World.cell?_of_block (a:=⟨g,j,none⟩) (hf g h.R.hg (fun i hi=>h.R.hgv i hi))]
 exact h.cel j hj
theorem OwH.lenE (h:OwH base g n N v len E A cl w0) {j:Nat} (hj:j < n):(E j).length=len j * 2:=(h.own j hj).1
theorem OwH.mid {a:Value} {w1:World} (h:OwH base g n N v len E A cl w0) (hi:I0H base n v len E A w0 n 0 N a w1) :
  ∃ ad cap gA,a=.slice ad N cap∧(0 < N→ad=some ⟨gA,0,none⟩)∧RwsH 3 26 base gA N A cl mkP w1∧(∀ q,q < N→∃ X,w1.ownsRow base 3 1 (A q) (cl q) X)∧∀ q,q < N→w1.cell? ⟨gA,q,none⟩=some (A q):=by
 have hA0:∀ q,q < N→∀ b,(A q).ownBlock=some b→base≤b∧b < w0.heap.size:=fun q hq b hb=>by
  obtain ⟨X,hX⟩:=h.aow q hq
  exact hX.lt b hb
 have hs:=hi.siz
 have hrow:∀ q,q < N→∃ X,w1.ownsRow base 3 1 (A q) (cl q) X:=fun q hq=>by
  obtain ⟨X,hX⟩:=h.aow q hq
  exact ⟨X,own_keptG hX (fun b hb=>hi.fr b (hA0 q hq b hb).2 (fun j hj=>h.av q j hq hj b hb))⟩
 obtain ⟨⟨ad,cap,rfl⟩,hb⟩:=form_headG hi.all
 by_cases h0:0 < N
 ·obtain ⟨gA,rfl⟩:=hb ad cap rfl h0
  have hg:=hi.all.lt gA rfl
  refine ⟨_,cap,gA,rfl,fun _=>rfl,⟨hg.2,by have:=h.R.hgb;omega,h.ad,fun q hq e=>?_,fun q hq b hb=>⟨(hA0 q hq b hb).1,by have:=(hA0 q hq b hb).2;omega⟩,fun j=>rfl⟩,hrow,fun q hq=>?_⟩
  ·have:=(hA0 q hq gA e).2;omega
  ·rw [hi.all.cellAt q (by omega)]
   simp [hq]
 ·refine ⟨ad,cap,g,rfl,fun h1=>absurd h1 h0,⟨by have:=h.R.hg;omega,by have:=h.R.hgb;omega,fun i j hi=>by omega,fun q hq=>by omega,fun q hq=>by omega,fun j=>rfl⟩,hrow,fun q hq=>by omega⟩
theorem OwH.last {a:Value} {w1 w2:World} (h:OwH base g n N v len E A cl w0) (hi:I0H base n v len E A w0 n 0 N a w1) (hf:FrzH N A w1 w2) (hs2:w1.heap.size≤w2.heap.size) :
  RwsG 57 33 base g n v len mkP w2∧(∀ j,j < n→w2.ownsRow base 57 2 (v j) (len j) (P2 (len j) (mkP j)))∧∀ j,j < n→w2.cell? ⟨g,j,none⟩=some (v j):=by
 have hs:=hi.siz
 refine ⟨⟨by have:=h.R.hg;omega,by have:=h.R.hgb;omega,h.R.hd,h.R.hgv,fun j hj b hb=>⟨(h.R.hlt j hj b hb).1,by have:=(h.R.hlt j hj b hb).2;omega⟩,h.R.hone⟩,fun j hj=>?_,fun j hj=>?_⟩
 ·have h1:=hi.own j hj
  unfold Yr at h1
  rw [if_pos hj] at h1
  exact own_keptG h1 (fun b hb=>hf b (by have:=(h.R.hlt j hj b hb).2;omega) (fun q hq e=>h.av q j hq hj b e hb))
 ·rw [World.cell?_of_block (a:=⟨g,j,none⟩) (hf g (by have:=h.R.hg;omega) (fun q hq=>h.ag q hq))]
  exact h.cellg hi.fr hj
end
theorem infoIntsH:(Tryz.prog.info? 26).map (fun i=>(i.zero,i.size,i.bytes))=some (some (.slice none 0 0),1,24):=by kernel_rfl
theorem info3H:(Tryz.prog.info? 3).map (fun i=>(i.zero,i.size,i.bytes))=some (some (.int .i64 0),1,8):=by kernel_rfl
theorem news_oneH (w:World) (u:Value) (t:TypeId) (G:Nat) (hG:G=w.heap.size):∀ (j:Nat) (y:Value),[u][j]?=some y→(w.alloc (.cells #[u] t)).cell? ((⟨G,0,none⟩:Addr).add j)=some y:=by
 subst hG
 intro j y hj
 match j,hj with
 | 0,hj=>simp at hj;subst hj;simp [Addr.add]
theorem one_cell_intH (k:IntKind) (z:Int):∀ u ∈ [Value.int k z],u.oneCell'=true:=by
 intro u hu
 simp at hu
 subst hu
 rfl
theorem one_cell_sliceH (a:Option Addr) (n c:Nat):∀ u ∈ [Value.slice a n c],u.oneCell'=true:=by
 intro u hu
 simp at hu
 subst hu
 rfl
theorem take_set_snocH (X:List Value) (t m:Nat) (c:Value) (hX:X.length=m) (ht:t < m) (h:X.take t=List.replicate t c):(X.set t c).take (t + 1)=List.replicate (t + 1) c:=by
 rw [List.take_set,List.take_succ_eq_append_getElem (by omega),h,List.replicate_succ']
 simp
end Go.Proofs.YtacaanhnlfpbhaaGreat
