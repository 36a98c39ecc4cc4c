/- HELPERS: texts of ours put together. -/
import Derived.Test.YtacaanhnlfpbhaaGreatK03
import Derived.Test.YtacaanhnlfpbhaaGreatK20
namespace Go.Proofs.YtacaanhnlfpbhaaGreat
open Go.RowKit
set_option linter.unusedVariables false
set_option linter.unusedSimpArgs false
abbrev NilS:Value:=.slice none 0 0
def P2 (n:Nat) (c:Value):List Value:=(List.replicate n [c,NilS]).flatten
theorem P2_len (n:Nat) (c:Value):(P2 n c).length=n * 2:=by
 induction n with
 | zero=>rfl
 | succ n ih=>simp only [P2,List.replicate_succ,List.flatten_cons,List.length_append] at ih ⊢;simp;omega
theorem P2_at (c:Value):∀ (n k:Nat),k < n→(P2 n c)[k * 2]?=some c∧(P2 n c)[k * 2 + 1]?=some NilS
 | 0,k,h=>by omega
 | n + 1,0,h=>by simp [P2,List.replicate_succ]
 | n + 1,k + 1,h=>by
  have ih:=P2_at c n k (by omega)
  simp only [P2,List.replicate_succ,List.flatten_cons] at ih ⊢
  rw [show (k + 1) * 2=k * 2 + 1 + 1 by omega]
  exact ⟨by simpa using ih.1,by rw [show k * 2 + 1 + 1 + 1=(k * 2 + 1) + 1 + 1 by omega];simpa using ih.2⟩
theorem P2_succ (n:Nat) (c:Value):P2 n c ++ [c,NilS]=P2 (n + 1) c:=by
 unfold P2
 rw [List.replicate_succ',List.flatten_append]
 simp
def MarkG (w:World) (v:Value) (n:Nat) (c:Value):Prop:=∃ ad cap,v=.slice ad n cap∧(n=0∨∃ b,ad=some ⟨b,0,none⟩∧∀ k,k < n→w.cell? ⟨b,k * 2,none⟩=some c∧w.cell? ⟨b,k * 2 + 1,none⟩=some NilS)
theorem MarkG.kept {w w':World} {v:Value} {n:Nat} {c:Value} (h:MarkG w v n c) (hk:∀ b,v.ownBlock=some b→w'.heap[b]?=w.heap[b]?):MarkG w' v n c:=by
 obtain ⟨ad,cap,rfl,h | ⟨b,rfl,hc⟩⟩:=h
 ·exact ⟨ad,cap,rfl,.inl h⟩
 ·exact ⟨_,cap,rfl,.inr ⟨b,rfl,fun k hk'=>⟨(World.cell?_of_block (a:=⟨b,k * 2,none⟩) (hk b rfl)).trans (hc k hk').1,(World.cell?_of_block (a:=⟨b,k * 2 + 1,none⟩) (hk b rfl)).trans (hc k hk').2⟩⟩⟩
theorem mark_ownG {w:World} {base e n:Nat} {v:Value} {c:Value} (h:w.ownsRow base e 2 v n (P2 n c)):MarkG w v n c:=by
 rcases Joins.ownsRow_forms h with ⟨rfl,h0⟩ | ⟨g,cap,rfl⟩
 ·exact ⟨none,0,by rw [h0],.inl h0⟩
 ·refine ⟨_,cap,rfl,.inr ⟨g,rfl,fun k hk=>?_⟩⟩
  obtain ⟨p1,p2⟩:=P2_at c n k hk
  exact ⟨(h.cellAt (k * 2) (by omega)).trans p1,(h.cellAt (k * 2 + 1) (by omega)).trans p2⟩
theorem mark_headG {w:World} {base e n m:Nat} {v g:Value} {c:Value} (h:w.ownsRow base e 2 g m (P2 m c)) (hn:n≤m) (hf:∃ ad cap,v=.slice ad n cap) (hb:∀ ad cap,v=.slice ad n cap→0 < n→∃ b,ad=some ⟨b,0,none⟩) (hbl:g.ownBlock=v.ownBlock):MarkG w v n c:=by
 obtain ⟨ad,cap,rfl⟩:=hf
 by_cases h0:n=0
 ·exact ⟨ad,cap,rfl,.inl h0⟩
 ·obtain ⟨b,rfl⟩:=hb ad cap rfl (by omega)
  refine ⟨_,cap,rfl,.inr ⟨b,rfl,fun k hk=>?_⟩⟩
  rcases Joins.ownsRow_forms h with ⟨rfl,h1⟩ | ⟨g',cap',rfl⟩
  ·simp [Value.ownBlock] at hbl
  ·simp only [Value.ownBlock,Option.some.injEq] at hbl
   subst hbl
   obtain ⟨p1,p2⟩:=P2_at c m k (by omega)
   exact ⟨(h.cellAt (k * 2) (by omega)).trans p1,(h.cellAt (k * 2 + 1) (by omega)).trans p2⟩
structure RwsG (E T:TypeId) (base g n:Nat) (v:Nat→Value) (len:Nat→Nat) (mk:Nat→Value) (w0:World):Prop where
 hg:g < w0.heap.size
 hgb:base≤w0.heap.size
 hd:∀ i j,i < n→j < n→i≠j→∀ b,(v i).ownBlock=some b→(v j).ownBlock≠some b
 hgv:∀ j,j < n→(v j).ownBlock≠some g
 hlt:∀ j,j < n→∀ b,(v j).ownBlock=some b→base≤b∧b < w0.heap.size
 hone:∀ j,(mk j).oneCell'=true
theorem own_keptG {w w':World} {base e size n:Nat} {v:Value} {xs:List Value} (h:w.ownsRow base e size v n xs) (hk:∀ b,v.ownBlock=some b→w'.heap[b]?=w.heap[b]?):w'.ownsRow base e size v n xs:=by
 refine ⟨h.1,?_⟩
 rcases h.2 with hn | ⟨g,cap,cur,hv,hb,hg,rest⟩
 ·exact .inl hn
 ·exact .inr ⟨g,cap,cur,hv,hb,by rw [hk g (by rw [hv];rfl)];exact hg,rest⟩
section
variable {E T:TypeId} {base g n:Nat} {v:Nat→Value} {len:Nat→Nat} {mk:Nat→Value} {w0:World}
def cntG (len:Nat→Nat) (q:Nat):Nat:=len (q / 2) + (if q % 2=0 then 9 else 0)
def SepG (n:Nat) (v:Nat→Value) (w:World) (long:Value) (i:Nat) (x:Value):Prop:=∀ b,x.ownBlock=some b→b < w.heap.size∧long.ownBlock≠some b∧∀ t,i≤t→t < n→(v t).ownBlock≠some b
structure I3G (E T:TypeId) (base g n:Nat) (v:Nat→Value) (len:Nat→Nat) (mk:Nat→Value) (w0:World) (i i':Nat) (long:Value) (L:List Value) (w:World):Prop where
 own:∀ j,i'≤j→j < n→w.ownsRow base E 2 (v j) (len j) (P2 (len j) (mk j))
 cel:∀ j,j < n→w.cell? ⟨g,j,none⟩=some (v j)
 lon:w.ownsRow w0.heap.size T 1 long (2 * i) L
 mar:∀ q,q < 2 * i→MarkG w (L.getD q undef) (cntG len q) (mk (q / 2))∧SepG n v w long i (L.getD q undef)
 siz:w0.heap.size≤w.heap.size
 bel:Below base w0 w
theorem I3G.kept {i i':Nat} {long:Value} {L:List Value} {w w':World} (R:RwsG E T base g n v len mk w0) (h:I3G E T base g n v len mk w0 i i' long L w) (row:Option Nat)
  (hk:∀ k,k < w.heap.size→row≠some k→w'.heap[k]?=w.heap[k]?) (hsz:w.heap.size≤w'.heap.size) (hb:Below base w0 w')
  (h1:∀ j,i'≤j→j < n→∀ b,(v j).ownBlock=some b→row≠some b) (h2:row≠some g) (h3:∀ b,long.ownBlock=some b→row≠some b) (h4:∀ q,q < 2 * i→∀ b,(L.getD q undef).ownBlock=some b→row≠some b) :
  I3G E T base g n v len mk w0 i i' long L w':=by
 refine ⟨fun j hj hjn=>own_keptG (h.own j hj hjn) (fun b hb'=>hk b (by have:=(R.hlt j hjn b hb').2;have:=h.siz;omega) (h1 j hj hjn b hb')),fun j hj=>?_,own_keptG h.lon (fun b hb'=>hk b (h.lon.lt b hb').2 (h3 b hb')),fun q hq=>?_,by have:=h.siz;omega,hb⟩
 ·rw [World.cell?_of_block (a:=⟨g,j,none⟩) (hk g (by have:=R.hg;have:=h.siz;omega) h2)]
  exact h.cel j hj
 ·obtain ⟨hm,hs⟩:=h.mar q hq
  refine ⟨hm.kept (fun b hb'=>hk b (hs b hb').1 (h4 q hq b hb')),fun b hb'=>?_⟩
  obtain ⟨s1,s2,s3⟩:=hs b hb'
  exact ⟨by omega,s2,s3⟩
structure I4G (E T:TypeId) (base g n:Nat) (v:Nat→Value) (len:Nat→Nat) (mk:Nat→Value) (w0:World) (i t:Nat) (long:Value) (L:List Value) (x:Value) (w:World):Prop where
 inv:I3G E T base g n v len mk w0 i (i + 1) long L w
 mar:MarkG w (v i) (len i) (mk i)
 own:w.ownsRow base E 2 x (len i + t) (P2 (len i + t) (mk i))
 blk:x.ownBlock=(v i).ownBlock∨∃ b,x.ownBlock=some b∧w0.heap.size≤b∧long.ownBlock≠some b∧∀ q,q < 2 * i→(L.getD q undef).ownBlock≠some b
theorem I4G.start {i:Nat} {long:Value} {L:List Value} {w:World} (h:I3G E T base g n v len mk w0 i i long L w) (hi:i < n):I4G E T base g n v len mk w0 i 0 long L (v i) w:=
 ⟨⟨fun j hj hjn=>h.own j (by omega) hjn,h.cel,h.lon,h.mar,h.siz,h.bel⟩,mark_ownG (h.own i (Nat.le_refl _) hi),h.own i (Nat.le_refl _) hi,.inl rfl⟩
theorem form_headG {w:World} {base e size n:Nat} {v:Value} {xs:List Value} (h:w.ownsRow base e size v n xs):(∃ ad cap,v=.slice ad n cap)∧∀ ad cap,v=.slice ad n cap→0 < n→∃ b,ad=some ⟨b,0,none⟩:=by
 rcases Joins.ownsRow_forms h with ⟨rfl,h0⟩ | ⟨g,cap,rfl⟩
 ·refine ⟨⟨none,0,by rw [h0]⟩,fun ad cap he hp=>by omega⟩
 ·refine ⟨⟨_,cap,rfl⟩,fun ad cap' he _=>?_⟩
  simp only [Value.slice.injEq] at he
  exact ⟨g,he.1.symm⟩
theorem I4G.step {i t:Nat} {long x x':Value} {L:List Value} {w w':World} {o:Obj} (R:RwsG E T base g n v len mk w0) (h:I4G E T base g n v len mk w0 i t long L x w) (hi:i < n)
  (hf:∃ ad cap,v i=.slice ad (len i) cap) (hfb:∀ ad cap,v i=.slice ad (len i) cap→0 < len i→∃ b,ad=some ⟨b,0,none⟩)
  (ho:w'.ownsRow base E 2 x' (len i + t + 1) (P2 (len i + t) (mk i) ++ [mk i,NilS])) (hm:Moved (w.alloc o) w' x x'):I4G E T base g n v len mk w0 i (t + 1) long L x' w':=by
 have ho':w'.ownsRow base E 2 x' (len i + (t + 1)) (P2 (len i + (t + 1)) (mk i)):=by
  rw [P2_succ] at ho
  exact ho
 have hsa:(w.alloc o).heap.size=w.heap.size + 1:=by simp
 have hBx:∀ k,x.ownBlock=some k→base≤k∧k < w.heap.size:=fun k hk=>h.own.lt k hk
 -- which blocks are as they were
 have hkeep:∀ k,k < w.heap.size→x.ownBlock≠some k→w'.heap[k]?=w.heap[k]?:=by
  intro k hk hne
  have ha:(w.alloc o).heap[k]?=w.heap[k]?:=heap_alloc_old w o hk
  rcases hm with ⟨_,hg⟩ | ⟨_,hg⟩
  ·rw [hg.block k (by omega) (fun e=>hne e.symm),ha]
  ·rw [hg.block k (by omega) (by simp),ha]
 have hsz:w.heap.size≤w'.heap.size:=by
  rcases hm with ⟨_,hg⟩ | ⟨_,hg⟩ <;> (have:=hg.size;omega)
 have hbel:Below base w0 w':=by
  have hb0:Below base w0 (w.alloc o):=h.inv.bel.alloc (by have:=R.hgb;have:=h.inv.siz;omega) o
  have hbs:base≤(w.alloc o).heap.size:=by have:=R.hgb;have:=h.inv.siz;omega
  rcases hm with ⟨_,hg⟩ | ⟨_,hg⟩
  ·exact hb0.grown hg hbs (fun k hk=>(hBx k hk).1)
  ·exact hb0.grown hg hbs (fun k hk=>by cases hk)
 have hlong:∀ b,long.ownBlock=some b→w0.heap.size≤b∧b < w.heap.size:=fun b hb=>h.inv.lon.lt b hb
 have hinv:I3G E T base g n v len mk w0 i (i + 1) long L w':=by
  refine h.inv.kept R x.ownBlock hkeep hsz hbel ?_ ?_ ?_ ?_
  ·intro j hj hjn b hb e
   rcases h.blk with hx | ⟨b',hx,hb1,_,_⟩
   ·exact R.hd i j hi hjn (by omega) b (by rw [← hx];exact e) hb
   ·have:=(R.hlt j hjn b hb).2
    rw [hx] at e
    injection e with e
    omega
  ·intro e
   rcases h.blk with hx | ⟨b',hx,hb1,_,_⟩
   ·exact R.hgv i hi (by rw [← hx];exact e)
   ·have:=R.hg
    rw [hx] at e
    injection e with e
    omega
  ·intro b hb e
   rcases h.blk with hx | ⟨b',hx,_,hl,_⟩
   ·have h1:=hlong b hb
    have h2:=(R.hlt i hi b (by rw [← hx];exact e)).2
    omega
   ·rw [hx] at e
    exact hl (by rw [hb,e])
  ·intro q hq b hb e
   rcases h.blk with hx | ⟨b',hx,_,_,hl⟩
   ·exact ((h.inv.mar q hq).2 b hb).2.2 i (Nat.le_refl _) hi (by rw [← hx];exact e)
   ·rw [hx] at e
    exact hl q hq (by rw [hb,e])
 refine ⟨hinv,?_,ho',?_⟩
 ·by_cases hsame:x.ownBlock=(v i).ownBlock
  ·rcases hm with ⟨h5,hg⟩ | ⟨h5,hg⟩
   ·exact mark_headG ho' (by omega) hf hfb (by rw [h5,hsame])
   ·refine h.mar.kept (fun b hb=>?_)
    have hbl:=(R.hlt i hi b hb).2
    have:=h.inv.siz
    rw [hg.block b (by omega) (by simp),heap_alloc_old w o (by omega)]
  ·refine h.mar.kept (fun b hb=>hkeep b (by have:=(R.hlt i hi b hb).2;have:=h.inv.siz;omega) (fun e=>hsame (by rw [hb,e])))
 ·rcases hm with ⟨h5,hg⟩ | ⟨h5,hg⟩
  ·rw [h5];exact h.blk
  ·right
   have:=h.inv.siz
   refine ⟨_,h5,by omega,fun e=>?_,fun q hq e=>?_⟩
   ·have:=(hlong _ e).2;omega
   ·have:=((h.inv.mar q hq).2 _ e).1;omega
theorem I4G.put {i:Nat} {long long' x:Value} {L:List Value} {w w':World} {o:Obj} (R:RwsG E T base g n v len mk w0) (h:I4G E T base g n v len mk w0 i 9 long L x w) (hi:i < n)
  (ho:w'.ownsRow w0.heap.size T 1 long' (2 * i + 2) (L ++ [x,v i])) (hm:Moved (w.alloc o) w' long long'):I3G E T base g n v len mk w0 (i + 1) (i + 1) long' (L ++ [x,v i]) w':=by
 have hsa:(w.alloc o).heap.size=w.heap.size + 1:=by simp
 have hlong:∀ b,long.ownBlock=some b→w0.heap.size≤b∧b < w.heap.size:=fun b hb=>h.inv.lon.lt b hb
 have hsiz:=h.inv.siz
 have hkeep:∀ k,k < w.heap.size→long.ownBlock≠some k→w'.heap[k]?=w.heap[k]?:=by
  intro k hk hne
  have ha:(w.alloc o).heap[k]?=w.heap[k]?:=heap_alloc_old w o hk
  rcases hm with ⟨_,hg⟩ | ⟨_,hg⟩
  ·rw [hg.block k (by omega) (fun e=>hne e.symm),ha]
  ·rw [hg.block k (by omega) (by simp),ha]
 have hsz:w.heap.size≤w'.heap.size:=by
  rcases hm with ⟨_,hg⟩ | ⟨_,hg⟩ <;> (have:=hg.size;omega)
 have hbel:Below base w0 w':=by
  have hb0:Below base w0 (w.alloc o):=h.inv.bel.alloc (by have:=R.hgb;omega) o
  have hbs:base≤(w.alloc o).heap.size:=by have:=R.hgb;omega
  rcases hm with ⟨_,hg⟩ | ⟨_,hg⟩
  ·exact hb0.grown hg hbs (fun k hk=>by have:=(hlong k hk).1;have:=R.hgb;omega)
  ·exact hb0.grown hg hbs (fun k hk=>by cases hk)
 have hlong':∀ b,long'.ownBlock=some b→w0.heap.size≤b:=fun b hb=>(ho.lt b hb).1
 have hneL:∀ b,b < w.heap.size→long.ownBlock≠some b→long'.ownBlock≠some b:=by
  intro b hb hne
  rcases hm with ⟨h5,_⟩ | ⟨h5,_⟩
  ·rw [h5];exact hne
  ·rw [h5];intro e;injection e with e;omega
 have hvi:∀ j,j < n→∀ b,(v j).ownBlock=some b→b < w.heap.size∧long.ownBlock≠some b:=fun j hj b hb=>by
  have h1:=(R.hlt j hj b hb).2
  exact ⟨by omega,fun e=>by have:=(hlong b e).1;omega⟩
 have hx:∀ b,x.ownBlock=some b→b < w.heap.size∧long.ownBlock≠some b∧∀ t,i + 1≤t→t < n→(v t).ownBlock≠some b:=by
  intro b hb
  have hlt:=(h.own.lt b hb).2
  rcases h.blk with hxv | ⟨b',hxb,hb1,hl,_⟩
  ·rw [hxv] at hb
   exact ⟨hlt,(hvi i hi b hb).2,fun t ht htn=>R.hd i t hi htn (by omega) b hb⟩
  ·rw [hxb] at hb
   injection hb with hb
   subst hb
   exact ⟨hlt,hl,fun t ht htn e=>by have:=(R.hlt t htn _ e).2;omega⟩
 have hLl:L.length=2 * i:=by have:=h.inv.lon.1;omega
 refine ⟨fun j hj hjn=>own_keptG (h.inv.own j hj hjn) (fun b hb=>hkeep b (hvi j hjn b hb).1 (hvi j hjn b hb).2),fun j hj=>?_,?_,fun q hq=>?_,by omega,hbel⟩
 ·rw [World.cell?_of_block (a:=⟨g,j,none⟩) (hkeep g (by have:=R.hg;omega) (fun e=>by have:=(hlong g e).1;have:=R.hg;omega))]
  exact h.inv.cel j hj
 ·exact ho
 ·by_cases h1:q < 2 * i
  ·have e:(L ++ [x,v i]).getD q undef=L.getD q undef:=by simp [List.getD_eq_getElem?_getD,List.getElem?_append_left (show q < L.length by omega)]
   rw [e]
   obtain ⟨hmk,hs⟩:=h.inv.mar q h1
   refine ⟨hmk.kept (fun b hb=>hkeep b (hs b hb).1 (hs b hb).2.1),fun b hb=>?_⟩
   obtain ⟨s1,s2,s3⟩:=hs b hb
   exact ⟨by omega,hneL b s1 s2,fun t ht htn=>s3 t (by omega) htn⟩
  ·by_cases h2:q=2 * i
   ·subst h2
    have e:(L ++ [x,v i]).getD (2 * i) undef=x:=by simp [List.getD_eq_getElem?_getD,← hLl]
    have ec:cntG len (2 * i)=len i + 9:=by unfold cntG;rw [show (2 * i) / 2=i by omega,show (2 * i) % 2=0 by omega];rfl
    rw [e,ec,show (2 * i) / 2=i by omega]
    refine ⟨(mark_ownG h.own).kept (fun b hb=>hkeep b (hx b hb).1 (hx b hb).2.1),fun b hb=>?_⟩
    obtain ⟨s1,s2,s3⟩:=hx b hb
    exact ⟨by omega,hneL b s1 s2,s3⟩
   ·have h3:q=2 * i + 1:=by omega
    subst h3
    have e:(L ++ [x,v i]).getD (2 * i + 1) undef=v i:=by simp [List.getD_eq_getElem?_getD,← hLl]
    have ec:cntG len (2 * i + 1)=len i:=by unfold cntG;rw [show (2 * i + 1) / 2=i by omega,show (2 * i + 1) % 2=1 by omega];rfl
    rw [e,ec,show (2 * i + 1) / 2=i by omega]
    refine ⟨h.mar.kept (fun b hb=>hkeep b (hvi i hi b hb).1 (hvi i hi b hb).2),fun b hb=>?_⟩
    exact ⟨by have:=(hvi i hi b hb).1;omega,hneL b (hvi i hi b hb).1 (hvi i hi b hb).2,fun t ht htn=>R.hd i t hi htn (by omega) b hb⟩
end
theorem info57G:(Tryz.prog.info? 57).map (fun i=>(i.zero,i.size,i.bytes))=some (some (.agg #[.int .i64 0,.slice none 0 0]),2,32):=by kernel_rfl
theorem info33G:(Tryz.prog.info? 33).map (fun i=>(i.zero,i.size,i.bytes))=some (some (.slice none 0 0),1,24):=by kernel_rfl
def mkP (j:Nat):Value:=.int .i64 (-1 - (j:Int))
theorem cell_two_newG (w:World) (a b:Value) (t:TypeId):∀ (j:Nat) (u:Value),[a,b][j]?=some u→(w.alloc (.cells #[a,b] t)).cell? ((⟨w.heap.size,0,none⟩:Addr).add j)=some u:=by
 intro j u h
 match j,h with
 | 0,h=>simp at h;subst h;exact (World.cell?_alloc_at _ t _ 0 rfl).trans rfl
 | 1,h=>simp at h;subst h;exact (World.cell?_alloc_at _ t _ 1 rfl).trans rfl
set_option maxHeartbeats 8000000 in
set_option maxRecDepth 1000000 in
theorem grown48 (base g n cp:Nat) (v:Nat→Value) (len:Nat→Nat) (w0:World) (hn:n≤1000) (R:Hid (RwsG 57 33 base g n v len mkP w0)) (hO:Hid (∀ j,j < n→w0.ownsRow base 57 2 (v j) (len j) (P2 (len j) (mkP j)))) (hc:Hid (∀ j,j < n→w0.cell? ⟨g,j,none⟩=some (v j)))
  (hl:Hid (∀ j,j < n→len j≤1000000)) :
  Calls Tryz.prog 48 #[.slice (some ⟨g,0,none⟩) n cp] w0 fun e w'=>e=.returned (.bool true)∧Below base w0 w':=by
 obtain ⟨i0,hi0,hz0,hz1,hz2⟩:=info_parts info57G
 obtain ⟨i1,hj0,hy0,hy1,hy2⟩:=info_parts info33G
 have HS:Hid (I3G 57 33 base g n v len mkP w0 0 0 (.slice none 0 0) [] w0):=⟨fun j _ hj=>hO.out j hj,hc.out,World.ownsRow_nil _ _ _ _,fun q hq=>absurd hq (by omega),Nat.le_refl _,Below.refl _ _⟩
 go_enter Tryz.func48,Tryz.ntmps48
 clear hO hc
 go_wp2
 go_loopw [3,4] (fun lo i wr=>∃ (k:Nat) (L:List Value) (lo':Value),k≤n∧i=.int .i64 k∧lo'=lo∧Hid (I3G 57 33 base g n v len mkP w0 k k lo' L wr)) (fun _ i _=>n - (intOf i).toNat)
 case atStart=>exact ⟨0,[],_,by omega,rfl,rfl,HS⟩
 case round =>
  clear HS
  obtain ⟨k,L,lo,hk,rfl,rfl,HI⟩:=hrel
  by_cases hlt:k < n
  ·have c0:=HI.out.cel k hlt
   have H4:Hid (I4G 57 33 base g n v len mkP w0 k 0 lo L (v k) wr):=I4G.start HI.out hlt
   have HF:=form_headG (HI.out.own k (Nat.le_refl _) hlt)
   have HF1:Hid (∃ ad cap,v k=.slice ad (len k) cap):=HF.1
   have HF2:Hid (∀ ad cap,v k=.slice ad (len k) cap→0 < len k→∃ b,ad=some ⟨b,0,none⟩):=HF.2
   have hm8:=hl.out k hlt
   clear HF HI
   obtain ⟨vk,hvk⟩:∃ vk,vk=v k:=⟨_,rfl⟩
   rw [← hvk] at c0 H4
   have HVK:Hid (vk=v k):=hvk
   clear hvk
   go_wp2
   go_loopw [5,6] (fun x i wr=>∃ (t:Nat) (x':Value),t≤9∧i=.int .i64 t∧x'=x∧Hid (I4G 57 33 base g n v len mkP w0 k t lo L x' wr)) (fun _ i _=>9 - (intOf i).toNat)
   case atStart=>exact ⟨0,_,by omega,rfl,rfl,H4⟩
   case round =>
    clear H4 c0
    obtain ⟨t,x,ht,rfl,rfl,H4⟩:=hrel
    by_cases hlt2:t < 9
    ·go_wp2_with (at_builtin;refine wpList_append_moveN rfl (.tmp 23) (.tmp 27) 33 rfl base 57 i0 (.agg #[.int .i64 0,.slice none 0 0]) 2 32 Tryz.underlying33 hi0 hz0 hz1 hz2 rfl (by decide) x (len k + t) _ rfl (H4.out.own.alloc _) ⟨wr.heap.size,0,none⟩ 1 1 [.int .i64 (-1 - (k:Int)),NilS] rfl rfl (by decide) (cell_two_newG wr _ _ 57) (by intro u hu;simp at hu;rcases hu with rfl | rfl <;> rfl) (by unfold maxLen;omega) (by omega) (by have:=H4.out.inv.siz;have:=R.out.hgb;simp;omega) ?_;intro x' w' ho hmv)
     have HN:Hid (I4G 57 33 base g n v len mkP w0 k (t + 1) lo L x' w'):=H4.out.step R.out hlt HF1.out HF2.out ho.out hmv.out
     clear ho hmv H4
     go_wp2
     go_roundw
     case rel=>exact ⟨t + 1,_,by omega,by go_num,rfl,HN⟩
     case measure=>simp [intOf];omega
    ·have ht9:t=9:=by omega
     subst ht9
     have c0:=H4.out.inv.cel k hlt
     rw [← HVK.out] at c0
     obtain ⟨⟨adx,capx,hex⟩,-⟩:=form_headG H4.out.own
     obtain ⟨lx,hlx⟩:∃ lx,lx=len k + 9:=⟨_,rfl⟩
     rw [← hlx] at hex
     obtain ⟨adv,capv,hev0⟩:=HF1.out
     obtain ⟨lv,hlv⟩:∃ lv,lv=len k:=⟨_,rfl⟩
     rw [← hlv] at hev0
     have hev:vk=.slice adv lv capv:=by rw [HVK.out];exact hev0
     subst hex hev
     clear hlx hlv hev0
     have n1:∀ (j:Nat) (u:Value),[Value.slice adx lx capx,.slice adv lv capv][j]?=some u→(wr.alloc (.cells #[.slice adx lx capx,.slice adv lv capv] 33)).cell? ((⟨wr.heap.size,0,none⟩:Addr).add j)=some u:=cell_two_newG wr _ _ 33
     have n2:∀ u ∈ [Value.slice adx lx capx,.slice adv lv capv],u.oneCell'=true:=by
      intro u hu
      simp only [List.mem_cons,List.not_mem_nil,or_false] at hu
      rcases hu with rfl | rfl <;> rfl
     have N1:Hid (∀ (j:Nat) (u:Value),[Value.slice adx lx capx,.slice adv lv capv][j]?=some u→(wr.alloc (.cells #[.slice adx lx capx,.slice adv lv capv] 33)).cell? ((⟨wr.heap.size,0,none⟩:Addr).add j)=some u):=n1
     have N2:Hid (∀ u ∈ [Value.slice adx lx capx,.slice adv lv capv],u.oneCell'=true):=n2
     clear n1 n2
     go_wp2_with (at_builtin;refine wpList_append_move rfl (.tmp 29) (.tmp 35) 42 rfl w0.heap.size 33 i1 (.slice none 0 0) 24 Tryz.underlying42 hj0 hy0 hy1 hy2 rfl lo (2 * k) L rfl (H4.out.inv.lon.alloc _) ⟨wr.heap.size,0,none⟩ 2 2 [.slice adx lx capx,.slice adv lv capv] rfl rfl (by decide) N1.out N2.out (by unfold maxLen;omega) (by omega) (by have:=H4.out.inv.siz;simp;omega) ?_;intro lo2 w' ho hmv)
     have HN:Hid (∃ L',I3G 57 33 base g n v len mkP w0 (k + 1) (k + 1) lo2 L' w'):=by
      have ho':=ho.out
      rw [HVK.out] at ho'
      exact ⟨_,H4.out.put R.out hlt ho' hmv.out⟩
     obtain ⟨L2,hN⟩:=HN.out
     have HN2:Hid (I3G 57 33 base g n v len mkP w0 (k + 1) (k + 1) lo2 L2 w'):=hN
     clear ho hmv H4 HN hN N1 N2
     go_wp2
     go_roundw
     case rel=>exact ⟨k + 1,L2,_,by omega,by go_num,rfl,HN2⟩
     case measure=>simp [intOf];omega
  ·have hkn2:k=n:=by omega
   rw [hkn2] at HI
   clear hkn2
   have hLf:∃ adL capL,lo=.slice adL (2 * n) capL∧(0 < 2 * n→∃ b,adL=some ⟨b,0,none⟩):=by
    obtain ⟨⟨ad,cap,he⟩,hb⟩:=form_headG HI.out.lon
    exact ⟨ad,cap,he,fun hp=>hb ad cap he hp⟩
   obtain ⟨adL,capL,rfl,hLb⟩:=hLf
   have HLB:Hid (0 < 2 * n→∃ b,adL=some ⟨b,0,none⟩):=hLb
   clear hLb
   go_wp2
   go_loopw [7] (fun i wr'=>∃ (q:Nat),q≤2 * n∧i=.int .i64 q∧wr'=wr) (fun i _=>2 * n - (intOf i).toNat)
   case atStart=>exact ⟨0,by omega,rfl,rfl⟩
   case round =>
    obtain ⟨q,hq,rfl,rfl⟩:=hrel
    by_cases hlq:q < 2 * n
    ·obtain ⟨gL,rfl⟩:=HLB.out (by omega)
     have c0:wr.cell? ⟨gL,q,none⟩=some (L.getD q undef):=by
      have hll:=HI.out.lon.1
      rw [HI.out.lon.cellAt q (by omega)]
      simp [show q < L.length by omega]
     obtain ⟨ad,cap,hv,hmk⟩:=(HI.out.mar q hlq).1
     have hm8:cntG len q≤1000100:=by
      have:=hl.out (q / 2) (by omega)
      unfold cntG
      split <;> omega
     rw [hv] at c0
     generalize cntG len q=m at c0 hmk hm8
     have HMK:Hid (m=0∨∃ b,ad=some ⟨b,0,none⟩∧∀ k,k < m→wr.cell? ⟨b,k * 2,none⟩=some (mkP (q / 2))∧wr.cell? ⟨b,k * 2 + 1,none⟩=some NilS):=hmk
     clear hv hmk
     go_wp2
     go_loopw [8] (fun i wr'=>∃ (t:Nat),t≤m∧i=.int .i64 t∧wr'=wr) (fun i _=>m - (intOf i).toNat)
     case atStart=>exact ⟨0,by omega,rfl,rfl⟩
     case round =>
      obtain ⟨t,ht,rfl,rfl⟩:=hrel
      by_cases hlt3:t < m
      ·obtain ⟨b,rfl,hcb⟩:=HMK.out.resolve_left (by omega)
       have d0:wr.cell? ⟨b,t * 2,none⟩=some (.int .i64 (-1 - (q:Int) / 2)):=by
        have:=(hcb t hlt3).1
        rw [mkP,show ((q / 2:Nat):Int)=(q:Int) / 2 by omega] at this
        exact this
       have d1:=(hcb t hlt3).2
       clear hcb
       go_wp2
       go_roundw
       case rel=>exact ⟨t + 1,by omega,by go_num,trivial⟩
       case measure=>simp [intOf];omega
      ·have htm:t=m:=by omega
       go_wp2
       go_roundw
       case rel=>exact ⟨q + 1,by omega,by go_num,trivial⟩
       case measure=>simp [intOf];omega
    ·have hqn:q=2 * n:=by omega
     have HBX:Hid (Below base w0 wr):=HI.out.bel
     clear HI
     go_wp2
     go_ret
     exact ⟨rfl,HBX.out⟩
end Go.Proofs.YtacaanhnlfpbhaaGreat
