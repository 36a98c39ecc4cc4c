/- HELPERS: may; what Run answers, as cells. -/
import Derived.Test.YtaoagcnbdfklnaaQd
import Derived.Test.YtaoagcnbdfklnaaSh
import Derived.Test.YtaoagcnbdfklnaaCf
import Derived.Test.YtaoagcnbdfklnaaPr
namespace Go.Proofs.Ytaoagcnbdfklnaa
open Go.RowKit Go.Lk
set_option linter.unusedVariables false
set_option linter.unusedSimpArgs false
def mayQ (l : List In) (s k : Int) (n : Nat) (a : Int) : Bool := mayB l s k && decide (n ≤ 4194304) && decide (0 ≤ a) && decide (a ≤ n)
theorem errR_may (l : List In) (s k : Int) (n : Nat) (a : Int) : errR l s k n a = 0 ↔ mayQ l s k n a = true := by
  unfold errR mayQ
  cases hm : mayB l s k
  · simp
    split <;> decide
  · simp
    constructor
    · intro h
      split at h
      · cases h
      · split at h
        · cases h
        · omega
    · intro h
      rw [if_neg (by omega), if_neg (by omega)]
theorem c2x3 {w : World} {b : Nat} {v0 v1 v2 : Value} {t : TypeId} {fr : Nat × Nat} (h : w.heap[b]? = some (.cells #[v0, v1, v2] t fr)) : w.cell? ⟨b, 0, none⟩ = some v0 ∧ w.cell? ⟨b, 1, none⟩ = some v1 ∧ w.cell? ⟨b, 2, none⟩ = some v2 := three_cells h
set_option maxRecDepth 100000 in
set_option maxHeartbeats 8000000 in
theorem may18 {w : World} {ad tad : Option Addr} {n c tn tc : Nat} {s k a : Int} {anch : Bool} {l : List In} (hP : PI w w.heap.size ad n l) :
    Calls Try.prog 18 #[pv ad n c s k, av tad tn tc a anch] w fun e w' => e = .returned (.bool (mayQ l s k tn a)) ∧ Below w.heap.size w w' := by
  obtain ⟨U, hU⟩ : ∃ U, U = (w.alloc (.cells #[.slice ad n c, .int .i64 s, .int .i64 k] 27)).alloc (.cells #[.slice tad tn tc, .int .i64 a, .bool anch] 30) := ⟨_, rfl⟩
  have hb : Below w.heap.size w U := by rw [hU]; exact below_two' w _ _
  have hX : U.heap[w.heap.size]? = some (.cells #[.slice ad n c, .int .i64 s, .int .i64 k] 27 (0, 0)) := by rw [hU]; exact (heap_alloc_old _ _ (by simp)).trans (heap_alloc_new w _)
  have hY : U.heap[w.heap.size + 1]? = some (.cells #[.slice tad tn tc, .int .i64 a, .bool anch] 30 (0, 0)) := by rw [hU]; exact two_new w _ _ _
  obtain ⟨x, hx⟩ : ∃ x, x = w.heap.size := ⟨_, rfl⟩
  obtain ⟨y, hy⟩ : ∃ y, y = w.heap.size + 1 := ⟨_, rfl⟩
  have hyU : w.heap.size + 1 < U.heap.size := (Array.getElem?_eq_some_iff.1 hY).1
  have hPU := hP.kept hb hb.size
  have HCK := rcheck9 (c := c) (s := s) (k := k) hPU
  rw [← hx] at hX hb
  rw [← hy] at hY hyU
  obtain ⟨c0, c1, c2⟩ := three_cells hX
  have HB := hid hb
  have HY := hid hY
  have HXE := hid hx
  have hxy : x < y := by omega
  clear hP hPU hb hX hY
  unfold mayQ
  cases hm : mayB l s k
  · rw [hm] at HCK
    go_enter Try.func18, Try.ntmps18
    go_upto_region 1 with fail
    rw [← hU, ← hy, ← hx]
    clear hU hx hy
    go_wp2_with (go_at_call 24; (with_reducible refine HCK.mono ?_); rintro e w2 ⟨rfl, hb2⟩; have HB2 := hid hb2; clear hb2 HCK c0 c1 c2)
    all_goals go_ret
    all_goals exact ⟨rfl, by rw [← HXE.out]; exact HB.out.trans (Joins.below_le HB2.out (by omega))⟩
  · rw [hm] at HCK
    by_cases h1 : tn ≤ 4194304
    · have b1 : decide ((tn : Int) ≤ 4194304) = true := by simp; omega
      rw [show decide (tn ≤ 4194304) = true by simp [h1]]
      by_cases h2 : 0 ≤ a
      · have b2 : decide (a ≥ 0) = true := by simp [h2]
        have b2' : decide (0 ≤ a) = true := by simp [h2]
        rw [b2']
        by_cases h3 : a ≤ (tn : Int)
        · have b3 : decide (a ≤ (tn : Int)) = true := by simp [h3]
          rw [b3]
          go_enter Try.func18, Try.ntmps18
          go_upto_region 1 with fail
          rw [← hU, ← hy, ← hx]
          clear hU hx hy
          go_wp2_with (go_at_call 24; (with_reducible refine HCK.mono ?_); rintro e w2 ⟨rfl, hb2⟩; have HB2 := hid hb2; obtain ⟨d0, d1, d2⟩ := three_cells ((hb2.block y hyU).trans HY.out); clear hb2 HCK c0 c1 c2)
          all_goals go_ret
          all_goals exact ⟨rfl, by rw [← HXE.out]; exact HB.out.trans (Joins.below_le HB2.out (by omega))⟩
        · have b3 : decide (a ≤ (tn : Int)) = false := by simp [h3]
          rw [b3]
          go_enter Try.func18, Try.ntmps18
          go_upto_region 1 with fail
          rw [← hU, ← hy, ← hx]
          clear hU hx hy
          go_wp2_with (go_at_call 24; (with_reducible refine HCK.mono ?_); rintro e w2 ⟨rfl, hb2⟩; have HB2 := hid hb2; obtain ⟨d0, d1, d2⟩ := three_cells ((hb2.block y hyU).trans HY.out); clear hb2 HCK c0 c1 c2)
          all_goals go_ret
          all_goals exact ⟨rfl, by rw [← HXE.out]; exact HB.out.trans (Joins.below_le HB2.out (by omega))⟩
      · have b2 : decide (a ≥ 0) = false := by simp [h2]
        have b2' : decide (0 ≤ a) = false := by simp [h2]
        rw [b2']
        go_enter Try.func18, Try.ntmps18
        go_upto_region 1 with fail
        rw [← hU, ← hy, ← hx]
        clear hU hx hy
        go_wp2_with (go_at_call 24; (with_reducible refine HCK.mono ?_); rintro e w2 ⟨rfl, hb2⟩; have HB2 := hid hb2; obtain ⟨d0, d1, d2⟩ := three_cells ((hb2.block y hyU).trans HY.out); clear hb2 HCK c0 c1 c2)
        all_goals go_ret
        all_goals exact ⟨rfl, by rw [← HXE.out]; exact HB.out.trans (Joins.below_le HB2.out (by omega))⟩
    · have b1 : decide ((tn : Int) ≤ 4194304) = false := by simp; omega
      rw [show decide (tn ≤ 4194304) = false by simp [h1]]
      go_enter Try.func18, Try.ntmps18
      go_upto_region 1 with fail
      rw [← hU, ← hy, ← hx]
      clear hU hx hy
      go_wp2_with (go_at_call 24; (with_reducible refine HCK.mono ?_); rintro e w2 ⟨rfl, hb2⟩; have HB2 := hid hb2; obtain ⟨d0, d1, d2⟩ := three_cells ((hb2.block y hyU).trans HY.out); clear hb2 HCK c0 c1 c2)
      all_goals go_ret
      all_goals exact ⟨rfl, by rw [← HXE.out]; exact HB.out.trans (Joins.below_le HB2.out (by omega))⟩
/-- what is found, as cells: the captures in blocks from N on -/
def FV (w : World) (N K : Nat) (c1 : Option Addr) (c2 c3 : Nat) (wh : Int) : Fd → Prop
  | none => c1 = none ∧ c2 = 0 ∧ c3 = 0 ∧ wh = 0
  | some y => ∃ g, c1 = some ⟨g, 0, none⟩ ∧ c2 = K ∧ c3 = K ∧ wh = y.1 ∧ w.ownsRow N 3 1 (.slice (some ⟨g, 0, none⟩) K K) K (I64 y.2)
abbrev fnd (ok : Bool) (c1 : Option Addr) (c2 c3 : Nat) (wh : Int) (st : Nat) : Value := .agg #[.bool ok, .slice c1 c2 c3, .int .i64 wh, .int .i64 (st : Int)]
theorem FR.cells {K : Nat} {r : Fd × Nat} {w w' : World} {e : Ending} (h : FR K r w e w') : ∃ c1 c2 c3 wh, e = .returned (.tuple #[fnd r.1.isSome c1 c2 c3 wh r.2, .int .i64 0]) ∧ FV w' w.heap.size K c1 c2 c3 wh r.1 ∧ Below w.heap.size w w' := by
  obtain ⟨hb, h⟩ := h
  obtain ⟨r1, r2⟩ := r
  cases r1 with
  | none => exact ⟨none, 0, 0, 0, h, ⟨rfl, rfl, rfl, rfl⟩, hb⟩
  | some y => obtain ⟨g, he, hr⟩ := h; exact ⟨some ⟨g, 0, none⟩, K, K, y.1, he, ⟨g, rfl, rfl, rfl, rfl, hr⟩, hb⟩
theorem FV.kept {w w' : World} {N K : Nat} {c1 : Option Addr} {c2 c3 : Nat} {wh : Int} {fd : Fd} (h : FV w N K c1 c2 c3 wh fd) (hb : Below w.heap.size w w') : FV w' N K c1 c2 c3 wh fd := by
  cases fd with
  | none => exact h
  | some y => obtain ⟨g, h1, h2, h3, h4, h5⟩ := h; exact ⟨g, h1, h2, h3, h4, row_kept h5 (fun k hk => hb.block k (h5.lt k hk).2)⟩
def capsOf : Fd → List Int
  | none => []
  | some y => y.2
def whOf : Fd → Int
  | none => 0
  | some y => y.1
theorem FV.ints {w : World} {N K : Nat} {c1 : Option Addr} {c2 c3 : Nat} {wh : Int} {fd : Fd} (h : FV w N K c1 c2 c3 wh fd) : IntsC w (.slice c1 c2 c3) (capsOf fd) ∧ wh = whOf fd ∧ c2 = (capsOf fd).length := by
  cases fd with
  | none => obtain ⟨rfl, rfl, rfl, rfl⟩ := h; exact ⟨⟨none, 0, rfl, .inl rfl⟩, rfl, rfl⟩
  | some y =>
    obtain ⟨g, h1, h2, h3, h4, h5⟩ := h
    have hl : y.2.length = K := by have := h5.1; simpa using this
    refine ⟨?_, h4, by rw [h2]; exact hl.symm⟩
    rw [h1, h2, h3]
    exact ints_own (B := N) hl.symm h5
end Go.Proofs.Ytaoagcnbdfklnaa
