/- HELPERS: sets of numbers: a bit a number, and the row of those that came. -/
import Derived.Test.YtodpmmlfdkdemaaBh
import Derived.Laws.BitsLemmas
namespace Go.Proofs.Ytodpmmlfdkdemaa
open Go.RowKit
set_option linter.unusedVariables false
set_option linter.unusedSimpArgs false
theorem u64_in (n : Nat) (h : n < 2 ^ 64) : IntKind.u64.wrap (n : Int) = (n : Int) := by
  simp [IntKind.wrap, IntKind.bits, IntKind.signed]
  omega
theorem u64_in' (n : Int) (h0 : 0 ≤ n) (h : n < 2 ^ 64) : IntKind.u64.wrap n = n := by
  simp [IntKind.wrap, IntKind.bits, IntKind.signed]
  omega
theorem pow_lt (i : Nat) : 2 ^ (i % 64) < 2 ^ 64 := Nat.pow_lt_pow_right (by decide) (Nat.mod_lt _ (by decide))
set_option maxHeartbeats 1000000 in
theorem mark42 (i : Nat) (w : World) (hi : i < 1048576) : Calls Try.prog 85 #[.int .i64 (i : Int)] w fun e w' => e = .returned (.int .u64 ((2 ^ (i % 64) : Nat) : Int)) ∧ w' = w := by
  go_enter Try.func85, Try.ntmps85
  go_wp2
  go_ret
  have e : IntKind.u64.wrap (2 ^ (i % 64)) = ((2 ^ (i % 64) : Nat) : Int) := by
    have := u64_in (2 ^ (i % 64)) (pow_lt i)
    simpa using this
  exact ⟨by rw [← e]; rfl, rfl⟩
abbrev U64 (M : List Nat) : List Value := M.map (fun (x : Nat) => Value.int .u64 (x : Int))
theorem getD_in (M : List Nat) {j : Nat} (hj : j < M.length) : M.getD j 0 = M[j] := by simp [List.getD, hj]
theorem and_pow (a k : Nat) : a &&& 2 ^ k = if a.testBit k then 2 ^ k else 0 := by
  apply Nat.eq_of_testBit_eq
  intro j
  rw [Nat.testBit_and, Nat.testBit_two_pow]
  by_cases hj : k = j
  · subst hj
    by_cases h : a.testBit k = true
    · simp [h, Nat.testBit_two_pow]
    · simp [h]
  · by_cases h : a.testBit k = true
    · simp [h, Nat.testBit_two_pow, hj]
    · simp [h, hj]
/-- the bits of M tell of the numbers below n which are in l -/
structure Marks (n : Nat) (M : List Nat) (l : List Int) : Prop where
  len : M.length = (n + 63) / 64
  fits : ∀ x ∈ M, x < 2 ^ 64
  bit : ∀ i, i < n → (M.getD (i / 64) 0).testBit (i % 64) = decide ((i : Int) ∈ l)
  rng : ∀ x ∈ l, 0 ≤ x ∧ x < n
theorem Marks.get {n : Nat} {M : List Nat} {l : List Int} (h : Marks n M l) (j : Nat) : M.getD j 0 < 2 ^ 64 := by
  by_cases hj : j < M.length
  · rw [getD_in M hj]
    exact h.fits _ (List.getElem_mem hj)
  · rw [show M.getD j 0 = 0 by simp [List.getD, List.getElem?_eq_none (Nat.le_of_not_lt hj)]]
    decide
theorem Marks.has {n i : Nat} {M : List Nat} {l : List Int} (h : Marks n M l) (hi : i < n) :
    (bits .and .u64 ((M.getD (i / 64) 0 : Nat) : Int) ((2 ^ (i % 64) : Nat) : Int) != 0) = decide ((i : Int) ∈ l) := by
  rw [(bits_nat .u64 64 (by decide) u64_in' _ _ (h.get _) (pow_lt i)).1, ← h.bit i hi]
  rw [and_pow]
  have hp : 0 < 2 ^ (i % 64) := Nat.pow_pos (by decide)
  by_cases hb : (M.getD (i / 64) 0).testBit (i % 64) = true
  · rw [if_pos hb, hb]
    have : ((2 ^ (i % 64) : Nat) : Int) ≠ 0 := by omega
    exact bne_iff_ne.2 this
  · rw [if_neg hb]
    simp only [Bool.not_eq_true] at hb
    rw [hb]
    rfl
theorem Marks.add {n i : Nat} {M : List Nat} {l : List Int} (h : Marks n M l) (hi : i < n) :
    Marks n (M.set (i / 64) (M.getD (i / 64) 0 ||| 2 ^ (i % 64))) (l ++ [(i : Int)]) := by
  have hq : i / 64 < M.length := by rw [h.len]; omega
  refine ⟨by rw [List.length_set]; exact h.len, fun x hx => ?_, fun k hk => ?_, fun x hx => ?_⟩
  · rcases List.mem_or_eq_of_mem_set hx with hx | rfl
    · exact h.fits x hx
    · exact Nat.or_lt_two_pow (h.get _) (pow_lt i)
  · have e := h.bit k hk
    by_cases hkq : k / 64 = i / 64
    · rw [hkq, getD_in _ (by rw [List.length_set]; exact hq), List.getElem_set_self, Nat.testBit_or, ← hkq, e, Nat.testBit_two_pow]
      rw [Bool.eq_iff_iff]
      simp
      constructor
      · rintro (h | h)
        · exact .inl h
        · right; omega
      · rintro (h | h)
        · exact .inl h
        · right; omega
    · have hne : (k : Int) ≠ (i : Int) := fun h => hkq (by rw [show k = i by omega])
      rw [show (M.set (i / 64) (M.getD (i / 64) 0 ||| 2 ^ (i % 64))).getD (k / 64) 0 = M.getD (k / 64) 0 by
        simp [List.getD, List.getElem?_set, show ¬ i / 64 = k / 64 by omega], e]
      simp [hne]
  · rcases List.mem_append.1 hx with hx | hx
    · exact h.rng x hx
    · simp at hx; omega
theorem Marks.none (n : Nat) : Marks n (List.replicate ((n + 63) / 64) 0) [] := by
  refine ⟨by simp, fun x hx => ?_, fun i hi => ?_, fun x hx => by cases hx⟩
  · rw [List.eq_of_mem_replicate hx]; decide
  · have : (List.replicate ((n + 63) / 64) 0).getD (i / 64) 0 = 0 := by
      simp only [List.getD, List.getElem?_replicate]
      split <;> rfl
    rw [this]
    simp
theorem info68 : (Try.prog.info? 119).map (fun i => (i.zero, i.size, i.bytes)) = some (some (.int .u64 0), 1, 8) := by kernel_rfl
/-- a set: its block, its marks, the row of those that came -/
def SetS (N : Nat) (w : World) (g : Nat) (F : List Nat) (n : Nat) (l : List Int) : Prop :=
  ∃ b c ov M, w.heap[g]? = some (.cells #[.int .i64 (n : Int), .slice (some ⟨b, 0, none⟩) ((n + 63) / 64) c, ov] 107 (0, 0)) ∧ N ≤ g ∧ n ≤ 1048576 ∧ w.ownsRow N 119 1 (.slice (some ⟨b, 0, none⟩) ((n + 63) / 64) c) ((n + 63) / 64) (U64 M) ∧ w.ownsRow N 3 1 ov l.length (I64 l) ∧ Marks n M l ∧ l.Nodup ∧ F = g :: b :: ov.ownBlock.toList
theorem SetS.low {N : Nat} {w : World} {g : Nat} {F : List Nat} {n : Nat} {l : List Int} (h : SetS N w g F n l) : ∀ k ∈ F, N ≤ k ∧ k < w.heap.size := by
  obtain ⟨b, c, ov, M, h1, h2, _, h3, h4, _, _, rfl⟩ := h
  intro k hk
  simp only [List.mem_cons, Option.mem_toList] at hk
  rcases hk with rfl | rfl | hk
  · exact ⟨h2, (Array.getElem?_eq_some_iff.1 h1).1⟩
  · exact h3.lt k rfl
  · exact h4.lt k hk
theorem SetS.kept {N : Nat} {w w' : World} {g : Nat} {F : List Nat} {n : Nat} {l : List Int} (h : SetS N w g F n l) (hk : ∀ k ∈ F, w'.heap[k]? = w.heap[k]?) : SetS N w' g F n l := by
  obtain ⟨b, c, ov, M, h1, h2, hn, h3, h4, h5, h6, rfl⟩ := h
  exact ⟨b, c, ov, M, (hk g (by simp)).trans h1, h2, hn, row_kept h3 (fun k hk' => by simp [Value.ownBlock] at hk'; subst hk'; exact hk b (by simp)), row_kept h4 (fun k hk' => hk k (by simp [hk'])), h5, h6, rfl⟩
set_option maxHeartbeats 1000000 in
theorem isFor41 (N g : Nat) (F : List Nat) (n : Nat) (l : List Int) (i : Int) (w : World) (hS : Hid (SetS N w g F n l)) :
    Calls Try.prog 83 #[.pointer (some ⟨g, 0, none⟩), .int .i64 i] w fun e w' => e = .returned (.bool (decide (0 ≤ i ∧ i < n))) ∧ w' = w := by
  obtain ⟨b, c, ov, M, hg, _⟩ := hS.out
  have c0 := (Joins.cell_of_block hg 0)
  simp at c0
  clear hg
  by_cases h0 : 0 ≤ i
  · go_enter Try.func83, Try.ntmps83
    go_wp2
    go_ret
    exact ⟨ret_bool (by rw [Bool.eq_iff_iff]; simp [h0]), rfl⟩
  · have h1 : i < 0 := by omega
    go_enter Try.func83, Try.ntmps83
    go_wp2
    go_ret
    exact ⟨ret_bool (by rw [Bool.eq_iff_iff]; simp; omega), rfl⟩
end Go.Proofs.Ytodpmmlfdkdemaa
