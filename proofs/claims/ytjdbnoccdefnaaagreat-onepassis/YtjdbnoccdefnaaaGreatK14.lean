/- HELPERS: texts of ours put together. -/
import Derived.Test.YtjdbnoccdefnaaaGreatK09
import Derived.Test.YtjdbnoccdefnaaaGreatK11
import Derived.Test.YtjdbnoccdefnaaaGreatK13
namespace Go.Proofs.YtjdbnoccdefnaaaGreat
open Go.RowKit
set_option linter.unusedVariables false
set_option linter.unusedSimpArgs false
abbrev Ix (l:List Nat):List Int:=l.map fun i:Nat => (i:Int)
abbrev Ptrs (g of:Nat) (R:List Nat):List Value:=R.map fun i => .pointer (some ⟨g,of + i * 5,none⟩)
structure CV (N:Nat) (w:World) (sb o:Nat) (A:Array Value) (iv:Value) (n g of:Nat) (S:List Int) (R:List Nat) (G:List (Int × Int)) (m:Nat) (D:List Int) (mg:Nat) (Fm:List Nat) (vr vg vd:Value):Prop where
  box:w.heap[sb]? = some (.cells A 81 (0,0))
  sz:A.size = 15
  ho:o + 6 ≤ 15
  lo:N ≤ sb
  c0:A[o]? = some iv
  c1:A[o + 1]? = some (.pointer (some ⟨mg,0,none⟩))
  c2:A[o + 2]? = some vr
  c3:A[o + 3]? = some vg
  c4:A[o + 4]? = some (.int .i64 (m:Int))
  c5:A[o + 5]? = some vd
  set:SetS N w mg Fm n S
  rr:w.ownsRow N 95 1 vr R.length (Ptrs g of R)
  rg:w.ownsRow N 50 2 vg G.length (O2 G)
  rd:w.ownsRow N 3 1 vd D.length (I64 D)
  ap:∀ b,vd.ownBlock = some b → b ∉ Fm
abbrev FC (sb:Nat) (Fm:List Nat) (vr vg vd:Value):List Nat:=sb :: (Fm ++ (vr.ownBlock.toList ++ (vg.ownBlock.toList ++ vd.ownBlock.toList)))
def Rest (A A':Array Value) (o:Nat):Prop:=A'.size = A.size ∧ ∀ j,j < o ∨ o + 6 ≤ j → A'[j]? = A[j]?
theorem Rest.refl (A:Array Value) (o:Nat):Rest A A o:=⟨rfl,fun _ _ => rfl⟩
theorem Rest.trans {A B C:Array Value} {o:Nat} (h:Rest A B o) (h2:Rest B C o):Rest A C o:=⟨h2.1.trans h.1,fun j hj => (h2.2 j hj).trans (h.2 j hj)⟩
theorem Rest.set {A B:Array Value} {o i:Nat} (h:Rest A B o) (hi:i < 6) (v:Value):Rest A (B.setIfInBounds (o + i) v) o:=
  ⟨by simpa using h.1,fun j hj => by rw [← h.2 j hj,Array.getElem?_setIfInBounds_ne (by omega)]⟩
theorem set_ty {N:Nat} {w:World} {g:Nat} {F:List Nat} {n:Nat} {l:List Int} (h:SetS N w g F n l):∀ b ∈ F,∃ c t,w.heap[b]? = some (.cells c t (0,0)) ∧ (t = 92 ∨ t = 103 ∨ t = 3):=by
  obtain ⟨b0,c,ov,M,hg,hN,hn,hM,ho,hm,hnd,rfl⟩:=h
  intro b hb
  have row:∀ {e size m:Nat} {v:Value} {xs:List Value},w.ownsRow N e size v m xs → ∀ q,v.ownBlock = some q → ∃ cs,w.heap[q]? = some (.cells cs e (0,0)):=by
    intro e size m v xs h q hq
    rcases h.2 with ⟨rfl,_⟩ | ⟨g',cap,cur,rfl,_,h2,_⟩
    · simp [Value.ownBlock] at hq
    · simp [Value.ownBlock] at hq;subst hq;exact ⟨_,h2⟩
  rcases List.mem_cons.1 hb with rfl | hb
  · exact ⟨_,92,hg,.inl rfl⟩
  rcases List.mem_cons.1 hb with rfl | hb
  · obtain ⟨cs,h1⟩:=row hM b rfl;exact ⟨_,103,h1,.inr (.inl rfl)⟩
  · obtain ⟨cs,h1⟩:=row ho b (by simpa using hb);exact ⟨_,3,h1,.inr (.inr rfl)⟩
variable {N:Nat} {w:World} {sb o:Nat} {A:Array Value} {iv:Value} {n g of:Nat} {S:List Int} {R:List Nat} {G:List (Int × Int)} {m:Nat} {D:List Int} {mg:Nat} {Fm:List Nat} {vr vg vd:Value}
theorem CV.rr_ne (h:CV N w sb o A iv n g of S R G m D mg Fm vr vg vd):∀ b,vr.ownBlock = some b → b ≠ sb ∧ b ∉ Fm ∧ vg.ownBlock ≠ some b ∧ vd.ownBlock ≠ some b:=by
  intro b hb
  refine ⟨fun e => own_ne h.rr h.box (by decide) (by rw [hb,e]),fun hm => ?_,fun e => ?_,fun e => ?_⟩
  · obtain ⟨c,t,h1,h2⟩:=set_ty h.set b hm
    exact own_ne h.rr h1 (by rcases h2 with rfl | rfl | rfl <;> decide) hb
  · rcases h.rg.2 with ⟨e1,_⟩ | ⟨g',cap,cur,e1,_,h2,_⟩
    · rw [e1] at e;simp [Value.ownBlock] at e
    · rw [e1] at e;simp [Value.ownBlock] at e;subst e;exact own_ne h.rr h2 (by decide) hb
  · rcases h.rd.2 with ⟨e1,_⟩ | ⟨g',cap,cur,e1,_,h2,_⟩
    · rw [e1] at e;simp [Value.ownBlock] at e
    · rw [e1] at e;simp [Value.ownBlock] at e;subst e;exact own_ne h.rr h2 (by decide) hb
theorem CV.rg_ne (h:CV N w sb o A iv n g of S R G m D mg Fm vr vg vd):∀ b,vg.ownBlock = some b → b ≠ sb ∧ b ∉ Fm ∧ vd.ownBlock ≠ some b:=by
  intro b hb
  refine ⟨fun e => own_ne h.rg h.box (by decide) (by rw [hb,e]),fun hm => ?_,fun e => ?_⟩
  · obtain ⟨c,t,h1,h2⟩:=set_ty h.set b hm
    exact own_ne h.rg h1 (by rcases h2 with rfl | rfl | rfl <;> decide) hb
  · rcases h.rd.2 with ⟨e1,_⟩ | ⟨g',cap,cur,e1,_,h2,_⟩
    · rw [e1] at e;simp [Value.ownBlock] at e
    · rw [e1] at e;simp [Value.ownBlock] at e;subst e;exact own_ne h.rg h2 (by decide) hb
theorem CV.rd_ne (h:CV N w sb o A iv n g of S R G m D mg Fm vr vg vd):∀ b,vd.ownBlock = some b → b ≠ sb:=by
  intro b hb e
  exact own_ne h.rd h.box (by decide) (by rw [hb,e])
theorem CV.sb_set (h:CV N w sb o A iv n g of S R G m D mg Fm vr vg vd):sb ∉ Fm:=fun hm => by
  obtain ⟨c,t,h1,h2⟩:=set_ty h.set sb hm
  rw [h.box] at h1
  rcases h2 with rfl | rfl | rfl <;> simp at h1
theorem CV.sblt (h:CV N w sb o A iv n g of S R G m D mg Fm vr vg vd):sb < w.heap.size:=(Array.getElem?_eq_some_iff.1 h.box).1
theorem CV.low (h:CV N w sb o A iv n g of S R G m D mg Fm vr vg vd):∀ k ∈ FC sb Fm vr vg vd,N ≤ k ∧ k < w.heap.size:=by
  intro k hk
  simp only [List.mem_cons,List.mem_append,Option.mem_toList,Option.mem_def] at hk
  rcases hk with rfl | hk | hk | hk | hk
  · exact ⟨h.lo,h.sblt⟩
  · exact h.set.low k hk
  · exact h.rr.lt k hk
  · exact h.rg.lt k hk
  · exact h.rd.lt k hk
theorem CV.kept {w':World} (h:CV N w sb o A iv n g of S R G m D mg Fm vr vg vd) (hk:∀ k ∈ FC sb Fm vr vg vd,w'.heap[k]? = w.heap[k]?):CV N w' sb o A iv n g of S R G m D mg Fm vr vg vd:=by
  have f:∀ k,(k = sb ∨ k ∈ Fm ∨ vr.ownBlock = some k ∨ vg.ownBlock = some k ∨ vd.ownBlock = some k) → w'.heap[k]? = w.heap[k]?:=fun k h1 => hk k (by simp only [List.mem_cons,List.mem_append,Option.mem_toList,Option.mem_def];exact h1)
  exact ⟨(f sb (.inl rfl)).trans h.box,h.sz,h.ho,h.lo,h.c0,h.c1,h.c2,h.c3,h.c4,h.c5,h.set.kept (fun k hk' => f k (.inr (.inl hk'))),row_kept h.rr (fun b hb => f b (.inr (.inr (.inl hb)))),row_kept h.rg (fun b hb => f b (.inr (.inr (.inr (.inl hb))))),row_kept h.rd (fun b hb => f b (.inr (.inr (.inr (.inr hb))))),h.ap⟩
theorem CV.cell (h:CV N w sb o A iv n g of S R G m D mg Fm vr vg vd) (i:Nat):w.cell? ⟨sb,i,none⟩ = A[i]?:=Joins.cell_of_block h.box i
theorem CV.frz (h:CV N w sb o A iv n g of S R G m D mg Fm vr vg vd) (i:Nat):w.frozen? ⟨sb,i,none⟩ = false:=Joins.unfrozen_of_block h.box i
theorem CV.setMet {w':World} {S':List Int} {Fm':List Nat} (h:CV N w sb o A iv n g of S R G m D mg Fm vr vg vd) (hs:SetS N w' mg Fm' n S') (hc:Chg w w' Fm Fm') :
    CV N w' sb o A iv n g of S' R G m D mg Fm' vr vg vd ∧ Chg w w' (FC sb Fm vr vg vd) (FC sb Fm' vr vg vd):=by
  have f:∀ k,k < w.heap.size → k ∉ Fm → w'.heap[k]? = w.heap[k]?:=fun k hk hn => hc.block k hk hn
  refine ⟨⟨(f sb h.sblt h.sb_set).trans h.box,h.sz,h.ho,h.lo,h.c0,h.c1,h.c2,h.c3,h.c4,h.c5,hs,row_kept h.rr (fun b hb => f b (h.rr.lt b hb).2 (h.rr_ne b hb).2.1),row_kept h.rg (fun b hb => f b (h.rg.lt b hb).2 (h.rg_ne b hb).2.1),row_kept h.rd (fun b hb => f b (h.rd.lt b hb).2 (h.ap b hb)),fun b hb hm => ?_⟩,⟨hc.os,hc.tape,hc.output,hc.size,fun k hk hn => f k hk (fun hm => hn (by simp [hm])),fun k hk => ?_⟩⟩
  · rcases hc.new b hm with h1 | h1
    · exact h.ap b hb h1
    · have:=(h.rd.lt b hb).2;omega
  · simp only [List.mem_cons,List.mem_append,Option.mem_toList,Option.mem_def] at hk ⊢
    rcases hk with hk | hk | hk
    · exact .inl (.inl hk)
    · rcases hc.new k hk with h1 | h1
      · exact .inl (.inr (.inl h1))
      · exact .inr h1
    · exact .inl (.inr (.inr hk))
theorem CV.setDoors {w1:World} {ob:Obj} {vd':Value} {D':List Int} (h:CV N w sb o A iv n g of S R G m D mg Fm vr vg vd) (hm:Moved (w.alloc ob) w1 vd vd') (ho:w1.ownsRow N 3 1 vd' D'.length (I64 D')) :
    CV N (w1.setCell ⟨sb,o + 5,none⟩ vd') sb o (A.setIfInBounds (o + 5) vd') iv n g of S R G m D' mg Fm vr vg vd' ∧ Chg w (w1.setCell ⟨sb,o + 5,none⟩ vd') (FC sb Fm vr vg vd) (FC sb Fm vr vg vd') ∧ w1.cell? ⟨sb,o + 5,none⟩ = some vd ∧ w1.frozen? ⟨sb,o + 5,none⟩ = false:=by
  have f:=hm.frm
  have hk:∀ k,k < w.heap.size → vd.ownBlock ≠ some k → w1.heap[k]? = w.heap[k]?:=fun k hk hn => (f.block k (by simp;omega) hn).trans (heap_alloc_old w ob hk)
  have hsz:=f.size
  simp at hsz
  have hb1:=(hk sb h.sblt (fun e => h.rd_ne sb e rfl)).trans h.box
  have hs:=h.sz
  have hoo:=h.ho
  have hne:∀ b,vd'.ownBlock = some b → b ≠ sb:=fun b hb e => own_ne ho hb1 (by decide) (by rw [hb,e])
  have hq:∀ i,i ≠ o + 5 → (A.setIfInBounds (o + 5) vd')[i]? = A[i]?:=fun i hi => Array.getElem?_setIfInBounds_ne (by omega)
  have hkk:∀ k,k < w.heap.size → k ≠ sb → vd.ownBlock ≠ some k → (w1.setCell ⟨sb,o + 5,none⟩ vd').heap[k]? = w.heap[k]?:=fun k h1 h2 h3 => (Below.heap_setCell _ _ _ _ h2).trans (hk k h1 h3)
  refine ⟨⟨Joins.block_setCell (i:=o + 5) hb1 vd',by simpa using h.sz,h.ho,h.lo,by rw [hq _ (by omega)];exact h.c0,by rw [hq _ (by omega)];exact h.c1,by rw [hq _ (by omega)];exact h.c2,by rw [hq _ (by omega)];exact h.c3,by rw [hq _ (by omega)];exact h.c4,by rw [Array.getElem?_setIfInBounds_self_of_lt (by omega)],h.set.kept (fun k hk' => hkk k (h.set.low k hk').2 (fun e => h.sb_set (e ▸ hk')) (fun e => h.ap k e hk')),row_kept h.rr (fun b hb => hkk b (h.rr.lt b hb).2 (h.rr_ne b hb).1 (h.rr_ne b hb).2.2.2),row_kept h.rg (fun b hb => hkk b (h.rg.lt b hb).2 (h.rg_ne b hb).1 (h.rg_ne b hb).2.2),own_setCell ho (fun e => hne sb e rfl),fun b hb hmm => ?_⟩,⟨f.os,f.tape,f.output,by simp [World.setCell];omega,fun k h1 h2 => ?_,fun k h1 => ?_⟩,by rw [Joins.cell_of_block hb1];exact h.c5,Joins.unfrozen_of_block hb1 _⟩
  · rcases f.own b hb with h1 | h1
    · exact h.ap b h1 hmm
    · have:=(h.set.low b hmm).2;simp at h1;omega
  · simp only [List.mem_cons,List.mem_append,Option.mem_toList,Option.mem_def,not_or] at h2
    exact hkk k h1 h2.1 h2.2.2.2.2
  · simp only [List.mem_cons,List.mem_append,Option.mem_toList,Option.mem_def] at h1 ⊢
    rcases h1 with h1 | h1 | h1 | h1 | h1
    · exact .inl (.inl h1)
    · exact .inl (.inr (.inl h1))
    · exact .inl (.inr (.inr (.inl h1)))
    · exact .inl (.inr (.inr (.inr (.inl h1))))
    · rcases f.own k h1 with h3 | h3
      · exact .inl (.inr (.inr (.inr (.inr h3))))
      · simp at h3;exact .inr (by omega)
theorem CV.setReaders {w1:World} {ob:Obj} {vr':Value} {R':List Nat} (h:CV N w sb o A iv n g of S R G m D mg Fm vr vg vd) (hm:Moved (w.alloc ob) w1 vr vr') (ho:w1.ownsRow N 95 1 vr' R'.length (Ptrs g of R')) :
    CV N (w1.setCell ⟨sb,o + 2,none⟩ vr') sb o (A.setIfInBounds (o + 2) vr') iv n g of S R' G m D mg Fm vr' vg vd ∧ Chg w (w1.setCell ⟨sb,o + 2,none⟩ vr') (FC sb Fm vr vg vd) (FC sb Fm vr' vg vd) ∧ w1.cell? ⟨sb,o + 2,none⟩ = some vr ∧ w1.frozen? ⟨sb,o + 2,none⟩ = false:=by
  have f:=hm.frm
  have hk:∀ k,k < w.heap.size → vr.ownBlock ≠ some k → w1.heap[k]? = w.heap[k]?:=fun k hk hn => (f.block k (by simp;omega) hn).trans (heap_alloc_old w ob hk)
  have hsz:=f.size
  simp at hsz
  have hb1:=(hk sb h.sblt (fun e => (h.rr_ne sb e).1 rfl)).trans h.box
  have hs:=h.sz
  have hoo:=h.ho
  have hne:∀ b,vr'.ownBlock = some b → b ≠ sb:=fun b hb e => own_ne ho hb1 (by decide) (by rw [hb,e])
  have hq:∀ i,i ≠ o + 2 → (A.setIfInBounds (o + 2) vr')[i]? = A[i]?:=fun i hi => Array.getElem?_setIfInBounds_ne (by omega)
  have hkk:∀ k,k < w.heap.size → k ≠ sb → vr.ownBlock ≠ some k → (w1.setCell ⟨sb,o + 2,none⟩ vr').heap[k]? = w.heap[k]?:=fun k h1 h2 h3 => (Below.heap_setCell _ _ _ _ h2).trans (hk k h1 h3)
  refine ⟨⟨Joins.block_setCell (i:=o + 2) hb1 vr',by simpa using h.sz,h.ho,h.lo,by rw [hq _ (by omega)];exact h.c0,by rw [hq _ (by omega)];exact h.c1,by rw [Array.getElem?_setIfInBounds_self_of_lt (by omega)],by rw [hq _ (by omega)];exact h.c3,by rw [hq _ (by omega)];exact h.c4,by rw [hq _ (by omega)];exact h.c5,h.set.kept (fun k hk' => hkk k (h.set.low k hk').2 (fun e => h.sb_set (e ▸ hk')) (fun e => (h.rr_ne k e).2.1 hk')),own_setCell ho (fun e => hne sb e rfl),row_kept h.rg (fun b hb => hkk b (h.rg.lt b hb).2 (h.rg_ne b hb).1 (fun e => (h.rr_ne b e).2.2.1 hb)),row_kept h.rd (fun b hb => hkk b (h.rd.lt b hb).2 (h.rd_ne b hb) (fun e => (h.rr_ne b e).2.2.2 hb)),h.ap⟩,⟨f.os,f.tape,f.output,by simp [World.setCell];omega,fun k h1 h2 => ?_,fun k h1 => ?_⟩,by rw [Joins.cell_of_block hb1];exact h.c2,Joins.unfrozen_of_block hb1 _⟩
  · simp only [List.mem_cons,List.mem_append,Option.mem_toList,Option.mem_def,not_or] at h2
    exact hkk k h1 h2.1 h2.2.2.1
  · simp only [List.mem_cons,List.mem_append,Option.mem_toList,Option.mem_def] at h1 ⊢
    rcases h1 with h1 | h1 | h1 | h1 | h1
    · exact .inl (.inl h1)
    · exact .inl (.inr (.inl h1))
    · rcases f.own k h1 with h3 | h3
      · exact .inl (.inr (.inr (.inl h3)))
      · simp at h3;exact .inr (by omega)
    · exact .inl (.inr (.inr (.inr (.inl h1))))
    · exact .inl (.inr (.inr (.inr (.inr h1))))
theorem CV.setMatches {m':Nat} (h:CV N w sb o A iv n g of S R G m D mg Fm vr vg vd) :
    CV N (w.setCell ⟨sb,o + 4,none⟩ (.int .i64 (m':Int))) sb o (A.setIfInBounds (o + 4) (.int .i64 (m':Int))) iv n g of S R G m' D mg Fm vr vg vd ∧ Chg w (w.setCell ⟨sb,o + 4,none⟩ (.int .i64 (m':Int))) (FC sb Fm vr vg vd) (FC sb Fm vr vg vd):=by
  have hs:=h.sz
  have hoo:=h.ho
  have hq:∀ i,i ≠ o + 4 → (A.setIfInBounds (o + 4) (.int .i64 (m':Int)))[i]? = A[i]?:=fun i hi => Array.getElem?_setIfInBounds_ne (by omega)
  have hkk:∀ k,k ≠ sb → (w.setCell ⟨sb,o + 4,none⟩ (.int .i64 (m':Int))).heap[k]? = w.heap[k]?:=fun k h2 => Below.heap_setCell _ _ _ _ h2
  refine ⟨⟨Joins.block_setCell (i:=o + 4) h.box _,by simpa using h.sz,h.ho,h.lo,by rw [hq _ (by omega)];exact h.c0,by rw [hq _ (by omega)];exact h.c1,by rw [hq _ (by omega)];exact h.c2,by rw [hq _ (by omega)];exact h.c3,by rw [Array.getElem?_setIfInBounds_self_of_lt (by omega)],by rw [hq _ (by omega)];exact h.c5,h.set.kept (fun k hk' => hkk k (fun e => h.sb_set (e ▸ hk'))),row_kept h.rr (fun b hb => hkk b (h.rr_ne b hb).1),row_kept h.rg (fun b hb => hkk b (h.rg_ne b hb).1),row_kept h.rd (fun b hb => hkk b (h.rd_ne b hb)),h.ap⟩,⟨rfl,rfl,rfl,by simp [World.setCell],fun k h1 h2 => hkk k (fun e => h2 (by simp [e])),fun k h1 => .inl h1⟩⟩
end Go.Proofs.YtjdbnoccdefnaaaGreat
