/- HELPERS: a new set, a cleared one; the call at the head of each law. -/
import Derived.Test.YtodpmmlfdkdemaaSf
import Derived.Lib.SliceRun
import Derived.Deep.OwnRows
namespace Go.Proofs.Ytodpmmlfdkdemaa
open Go.RowKit
set_option linter.unusedVariables false
set_option linter.unusedSimpArgs false
/-- for how many numbers a set is -/
def lim (n : Int) : Nat := (min (max n 0) 1048576).toNat
theorem lim_eq (n : Int) : min (max n 0) 1048576 = (lim n : Int) := by unfold lim; omega
theorem lim_le (n : Int) : lim n ≤ 1048576 := by unfold lim; omega
theorem lim_iff (n x : Int) (hx : x < 1048576) : 0 ≤ x ∧ x < (lim n : Int) ↔ 0 ≤ x ∧ x < n := by unfold lim; omega
set_option maxHeartbeats 1000000 in
theorem new8 (n : Int) (w : World) :
    Calls Try.prog 31 #[.int .i64 n] w fun e w' => ∃ g F, e = .returned (.pointer (some ⟨g, 0, none⟩)) ∧ SetS w.heap.size w' g F (lim n) [] ∧ Below w.heap.size w w' := by
  have hlim := lim_eq n
  have hle := lim_le n
  generalize lim n = k at hlim hle
  obtain ⟨W, hW⟩ : ∃ W : Nat, W = (k + 63) / 64 := ⟨_, rfl⟩
  have hd1 : ((k : Int) + 64 - 1) / 64 = (W : Int) := by omega
  have hd2 : ((k : Int) + 63) / 64 = (W : Int) := by omega
  have hWl : W ≤ 16384 := by omega
  have hmk := run_make_row' (P := Try.prog) 60 119 (.int .u64 0) 8 Try.underlying60 info68 rfl .i64 .i64 W (by omega) (by omega)
  have HW : Hid (W = (k + 63) / 64) := hW
  clear hW
  go_enter Try.func31, Try.ntmps31
  go_wp2
  go_ret
  have hmade : ((w.alloc (.cells (madeCells #[.int .u64 0] W) 119)).alloc (.cells #[.int .i64 (k : Int), .slice (some ⟨w.heap.size, 0, none⟩) W W, .slice none 0 0] 107)).ownsRow w.heap.size 119 1 (.slice (some ⟨w.heap.size, 0, none⟩) W W) W (U64 (List.replicate W 0)) := by
    have := (World.ownsRow_lit (base := w.heap.size) (e := 119) (size := 1) w (madeCells #[.int .u64 0] W) W (Nat.le_refl _) (by unfold maxLen; omega) (by rw [size_madeCells]; omega)).alloc (.cells #[.int .i64 (k : Int), .slice (some ⟨w.heap.size, 0, none⟩) W W, .slice none 0 0] 107)
    rw [toList_madeCells_one] at this
    rw [show U64 (List.replicate W 0) = List.replicate W (.int .u64 0) by simp [U64]]
    exact this
  refine ⟨w.heap.size + 1, _, rfl, ⟨w.heap.size, W, .slice none 0 0, List.replicate W 0, ?_, by omega, hle, ?_, World.ownsRow_nil _ _ _ _, ?_, List.nodup_nil, rfl⟩, ?_⟩
  · rw [← HW.out]
    have := heap_alloc_new (w.alloc (.cells (madeCells #[.int .u64 0] W) 119)) (.cells #[.int .i64 (k : Int), .slice (some ⟨w.heap.size, 0, none⟩) W W, .slice none 0 0] 107)
    simpa using this
  · rw [← HW.out]
    exact hmade
  · rw [HW.out]
    exact Marks.none k
  · exact ((Below.refl _ _).alloc (Nat.le_refl _) _).alloc (by simp) _
theorem setCells_other (b : Nat) : ∀ (vs : List Value) (o : Nat) (w : World) (k : Nat), k ≠ b → (w.setCells b o vs).heap[k]? = w.heap[k]?
  | [], o, w, k, h => rfl
  | v :: vs, o, w, k, h => by
    show ((w.setCell ⟨b, o, none⟩ v).setCells b (o + 1) vs).heap[k]? = _
    rw [setCells_other b vs (o + 1) _ k h, Below.heap_setCell _ _ _ _ h]
theorem setCells_chg {w w' : World} {F F' : List Nat} (b : Nat) (hb : b ∈ F) : ∀ (vs : List Value) (o : Nat) (w' : World), Chg w w' F F' → Chg w (w'.setCells b o vs) F F'
  | [], o, w', h => h
  | v :: vs, o, w', h => setCells_chg (w' := w') b hb vs (o + 1) _ (h.set v hb)
theorem row_stores {base e b n c : Nat} : ∀ (vs : List Value) (o : Nat) (w : World) (xs : List Value), w.ownsRow base e 1 (.slice (some ⟨b, 0, none⟩) n c) n xs → o + vs.length = n →
    (w.setCells b o vs).ownsRow base e 1 (.slice (some ⟨b, 0, none⟩) n c) n (xs.take o ++ vs)
  | [], o, w, xs, h, hn => by
    have : xs.take o = xs := List.take_of_length_le (by have := h.1; simp at hn; omega)
    rw [this, List.append_nil]
    exact h
  | v :: vs, o, w, xs, h, hn => by
    have hl := h.1
    simp at hn
    have h2 := row_stores vs (o + 1) _ _ (h.stored o v).1 (by omega)
    have e : (xs.set o v).take (o + 1) ++ vs = xs.take o ++ v :: vs := by
      rw [List.take_add_one, List.take_set_of_le (Nat.le_refl _)]
      simp [show o < xs.length by omega]
    rw [e] at h2
    exact h2
theorem zero68 (w : World) : (zeroValue 119).run Try.prog w = .ok (.int .u64 0) w := by kernel_rfl
theorem row_emptied {w : World} {base e n b cap : Nat} {xs : List Value} (h : w.ownsRow base e 1 (.slice (some ⟨b, 0, none⟩) n cap) n xs) : w.ownsRow base e 1 (.slice (some ⟨b, 0, none⟩) 0 cap) 0 [] := by
  refine ⟨rfl, .inr ?_⟩
  rcases h.2 with ⟨h, _⟩ | ⟨g, cap', cur, he, hb, hgg, h1, h2, h3, h4⟩
  · cases h
  · simp only [Value.slice.injEq, Option.some.injEq, Addr.mk.injEq] at he
    obtain ⟨⟨rfl, _⟩, _, rfl⟩ := he
    exact ⟨b, cap, cur, rfl, hb, hgg, by omega, h2, h3, by simp⟩
set_option maxHeartbeats 1000000 in
theorem clear16 (N g : Nat) (F : List Nat) (n : Nat) (l : List Int) (w : World) (hS : Hid (SetS N w g F n l)) :
    Calls Try.prog 64 #[.pointer (some ⟨g, 0, none⟩)] w fun e w' => e = .returned (.tuple #[]) ∧ SetS N w' g F n [] ∧ Chg w w' F F := by
  obtain ⟨b, c, ov, M, hg, hNg, hn, hM, ho, hm, hnd, rfl⟩ := hS.out
  have hne2 := own_ne hM hg (by decide)
  have hbg : b ≠ g := fun h => hne2 (by simp [Value.ownBlock, h])
  have hgb : g ≠ b := fun h => hbg h.symm
  have hob : ov.ownBlock ≠ some b := by
    rcases hM.2 with ⟨h, _⟩ | ⟨b', cap', cur, he, _, hgg, _⟩
    · cases h
    · simp only [Value.slice.injEq, Option.some.injEq, Addr.mk.injEq] at he
      obtain ⟨⟨rfl, _⟩, _, rfl⟩ := he
      exact own_ne ho hgg (by decide)
  have hne := own_ne ho hg (by decide)
  obtain ⟨W, hW⟩ : ∃ W : Nat, W = (n + 63) / 64 := ⟨_, rfl⟩
  rw [← hW] at hg hM
  have hcl : ∀ ty, (Builtin.clear_ #[60] ty #[.slice (some ⟨b, 0, none⟩) W c]).run Try.prog w = .ok (.tuple #[]) (w.setCells b 0 (List.replicate W (.int .u64 0))) := by
    intro ty
    by_cases h0 : W = 0
    · subst h0
      simp [Builtin.clear_, run_underlying Try.underlying60, World.setCells]
    · exact Lib.run_clear_slice w 60 119 ty (.int .u64 0) Try.underlying60 zero68 rfl rfl b 0 W c (by omega) (fun j hj => by
        rw [show 0 + j = j by omega, hM.cellAt j (by omega)]
        simp [show j < M.length by have := hm.len; omega]) (fun j hj => by rw [show 0 + j = j by omega]; exact hM.frozenAt j)
  generalize hw1 : w.setCells b 0 (List.replicate W (.int .u64 0)) = w1 at hcl
  have hblk : w1.heap[g]? = some (.cells #[.int .i64 (n : Int), .slice (some ⟨b, 0, none⟩) W c, ov] 107 (0, 0)) := by
    rw [← hw1, setCells_other b _ _ _ _ hgb]; exact hg
  have hM1 : w1.ownsRow N 119 1 (.slice (some ⟨b, 0, none⟩) W c) W (U64 (List.replicate W 0)) := by
    rw [← hw1, show U64 (List.replicate W 0) = List.replicate W (.int .u64 0) by simp [U64]]
    have := row_stores (List.replicate W (.int .u64 0)) 0 w _ hM (by simp)
    simpa using this
  have ho1 : w1.ownsRow N 3 1 ov l.length (I64 l) := row_kept ho (fun k hk => by rw [← hw1]; exact setCells_other b _ _ _ _ (fun h => hob (by rw [hk, h])))
  have hch : Chg w w1 (g :: b :: ov.ownBlock.toList) (g :: b :: ov.ownBlock.toList) := by
    rw [← hw1]
    exact setCells_chg (w' := w) b (by simp) _ _ _ (Chg.refl _ _)
  have c1 := (Joins.cell_of_block hg 1)
  have d2 := (Joins.cell_of_block hblk 2)
  have f2 := Joins.unfrozen_of_block hblk 2
  simp at c1 d2
  obtain ⟨ad, k, cap, rfl⟩ : ∃ ad k cap, ov = .slice ad k cap := by
    rcases Joins.ownsRow_forms ho with ⟨rfl, _⟩ | ⟨b, cap, rfl⟩
    · exact ⟨_, _, _, rfl⟩
    · exact ⟨_, _, _, rfl⟩
  have hk : k = l.length ∧ k ≤ cap ∧ cap ≤ 9223372036854775807 := by
    rcases Joins.ownsRow_forms ho with ⟨h, h0⟩ | ⟨b, cap, h⟩
    · cases h; exact ⟨h0.symm, by omega, by omega⟩
    · cases h; exact ⟨rfl, row_cap ho⟩
  have hks := hk.2.1
  have hcs := hk.2.2
  have hrow : w1.ownsRow N 3 1 (.slice ad 0 cap) 0 [] := by
    rcases Joins.ownsRow_forms ho1 with ⟨h, _⟩ | ⟨b, cap, h⟩
    · cases h; exact World.ownsRow_nil _ _ _ _
    · cases h; exact row_emptied ho1
  have HB : Hid (w1.heap[g]? = some (.cells #[.int .i64 (n : Int), .slice (some ⟨b, 0, none⟩) W c, .slice ad k cap] 107 (0, 0))) := hblk
  have HR : Hid (w1.ownsRow N 3 1 (.slice ad 0 cap) 0 []) := hrow
  have HM1 : Hid (w1.ownsRow N 119 1 (.slice (some ⟨b, 0, none⟩) W c) W (U64 (List.replicate W 0))) := hM1
  have HC : Hid (Chg w w1 (g :: b :: (Value.slice ad k cap).ownBlock.toList) (g :: b :: (Value.slice ad k cap).ownBlock.toList)) := hch
  have HN : Hid ((Value.slice ad k cap).ownBlock ≠ some g) := hne
  have HW : Hid (W = (n + 63) / 64) := hW
  clear hblk hrow hM1 hch hne hg ho ho1 hM hm hS hob hk hW hw1 hne2
  go_enter Try.func64, Try.ntmps64
  go_wp2_with (simp only [hcl])
  go_end0
  have hblks : (Value.slice ad 0 cap).ownBlock = (Value.slice ad k cap).ownBlock := by cases ad <;> rfl
  refine ⟨rfl, ⟨b, c, .slice ad 0 cap, List.replicate W 0, ?_, hNg, hn, ?_, ?_, ?_, List.nodup_nil, by rw [hblks]⟩, ?_⟩
  · rw [← HW.out]
    exact Joins.block_setCell (i := 2) HB.out (.slice ad 0 cap)
  · rw [← HW.out]
    exact own_setCell HM1.out (by simp [Value.ownBlock]; exact hbg)
  · exact own_setCell HR.out (by rw [hblks]; exact HN.out)
  · rw [HW.out]
    exact Marks.none n
  · exact HC.out.set _ (by simp)
end Go.Proofs.Ytodpmmlfdkdemaa
