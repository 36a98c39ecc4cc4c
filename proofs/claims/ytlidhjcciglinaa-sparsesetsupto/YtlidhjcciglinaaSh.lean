/- HELPERS: the call at the head of each law; two lists held against one another. -/
import Derived.Test.YtlidhjcciglinaaSg
namespace Go.Proofs.Ytlidhjcciglinaa
open Go.RowKit
set_option linter.unusedVariables false
set_option linter.unusedSimpArgs false
theorem zero41 (w : World) : (zeroValue 41).run Try.prog w = .ok (.agg #[.slice none 0 0, .int .i64 0]) w := by kernel_rfl
set_option maxHeartbeats 4000000 in
theorem awake7 (w : World) : Calls Try.prog 7 #[] w fun e w' => e = .returned (.bool true) ∧ Below w.heap.size w w' := by
  have h8 := new8 5 w
  rw [show lim 5 = 5 from rfl] at h8
  go_enter Try.func7, Try.ntmps7
  go_wp2_with fail
  refine h8.mono ?_
  rintro e w1 ⟨g, F, rfl, hS, hb1⟩
  have HS : Hid (SetS w.heap.size w1 g F 5 []) := hS
  have HB : Hid (Below w.heap.size w w1) := hb1
  clear hS hb1 h8
  go_wp2_with fail
  refine (add10_yes w.heap.size g F 5 [] 3 w1 HS (by decide) (by simp) (by simp) HB.out.size).mono ?_
  rintro e w2 ⟨rfl, F2, hS2, hc2⟩
  have HS2 : Hid (SetS w.heap.size w2 g F2 5 [3]) := hS2
  have HB2 : Hid (Below w.heap.size w w2) := HB.out.trans (hc2.below HB.out.size (fun k hk => (HS.out.low k hk).1))
  clear hS2 hc2 HS HB
  go_wp2_with fail
  refine (add10_yes w.heap.size g F2 5 [3] 1 w2 HS2 (by decide) (by simp) (by simp) HB2.out.size).mono ?_
  rintro e w3 ⟨rfl, F3, hS3, hc3⟩
  have HS3 : Hid (SetS w.heap.size w3 g F3 5 [3, 1]) := hS3
  have HB3 : Hid (Below w.heap.size w w3) := HB2.out.trans (hc3.below HB2.out.size (fun k hk => (HS2.out.low k hk).1))
  clear hS3 hc3 HS2 HB2
  go_wp2_with fail
  refine (add10_no w.heap.size g F3 5 [3, 1] 3 w3 HS3 (by simp)).mono ?_
  rintro e w4 ⟨rfl, hS4, hc4⟩
  have HS4 : Hid (SetS w.heap.size w4 g F3 5 [3, 1]) := hS4
  have HB4 : Hid (Below w.heap.size w w4) := HB3.out.trans (hc4.below HB3.out.size (fun k hk => (HS3.out.low k hk).1))
  clear hS4 hc4 HS3 HB3
  go_wp2_with fail
  refine (add10_no w.heap.size g F3 5 [3, 1] 5 w4 HS4 (by simp)).mono ?_
  rintro e w5 ⟨rfl, hS5, hc5⟩
  have HS5 : Hid (SetS w.heap.size w5 g F3 5 [3, 1]) := hS5
  have HB5 : Hid (Below w.heap.size w w5) := HB4.out.trans (hc5.below HB4.out.size (fun k hk => (HS4.out.low k hk).1))
  clear hS5 hc5 HS4 HB4
  go_wp2_with fail
  refine (list18 w.heap.size g F3 5 [3, 1] w5 HS5 (by simp)).mono ?_
  rintro e w6 ⟨v, rfl, ho6, hb6⟩
  obtain ⟨b, cap, rfl⟩ := Joins.ownsRow_form ho6 (by simp)
  have hb6l := (ho6.lt b rfl).2
  have q0 : w6.cell? ⟨b, 0, none⟩ = some (.int .i64 3) := by rw [ho6.cellAt 0 (by simp)]; rfl
  have q1 : w6.cell? ⟨b, 1, none⟩ = some (.int .i64 1) := by rw [ho6.cellAt 1 (by simp)]; rfl
  have HB6 : Hid (Below w.heap.size w w6) := HB5.out.trans (hb6.mono HB5.out.size)
  clear HS5 HB5 ho6 hb6
  go_wp2_with fail
  have HZ : Hid (StkI w6.heap.size (w6.alloc (.cells #[.slice none 0 0, .int .i64 0] 41)) w6.heap.size [w6.heap.size] [] 0) := StkI.zero w6.heap.size w6 (Nat.le_refl _)
  refine (push22 w6.heap.size w6.heap.size [w6.heap.size] [] 0 7 (w6.alloc (.cells #[.slice none 0 0, .int .i64 0] 41)) HZ (by simp) (by simp)).mono ?_
  rintro e w7 ⟨rfl, F7, hS7, hc7⟩
  have HS7 : Hid (StkI w6.heap.size w7 w6.heap.size F7 [7] 1) := hS7
  have HB7 : Hid (Below w6.heap.size w6 w7) := ((Below.refl _ _).alloc (Nat.le_refl _) _).trans (hc7.below (by simp) (fun k hk => (HZ.out.low k hk).1))
  clear hS7 hc7 HZ
  go_wp2_with fail
  refine (push22 w6.heap.size w6.heap.size F7 [7] 1 8 w7 HS7 HB7.out.size (by simp)).mono ?_
  rintro e w8 ⟨rfl, F8, hS8, hc8⟩
  have HS8 : Hid (StkI w6.heap.size w8 w6.heap.size F8 ([7] ++ [8]) 2) := hS8
  have HB8 : Hid (Below w6.heap.size w6 w8) := HB7.out.trans (hc8.below HB7.out.size (fun k hk => (HS7.out.low k hk).1))
  clear hS8 hc8 HS7 HB7
  go_wp2_with fail
  refine (pop27 w6.heap.size w6.heap.size F8 [7] 8 2 w8 HS8).mono ?_
  rintro e w9 ⟨rfl, hS9, hc9⟩
  have HS9 : Hid (StkI w6.heap.size w9 w6.heap.size F8 [7] 2) := hS9
  have hB9 : Below w6.heap.size w6 w9 := HB8.out.trans (hc9.below HB8.out.size (fun k hk => (HS8.out.low k hk).1))
  have r0 := (hB9.cell (p := ⟨b, 0, none⟩) hb6l).trans q0
  have r1 := (hB9.cell (p := ⟨b, 1, none⟩) hb6l).trans q1
  have HB9 : Hid (Below w.heap.size w w9) := HB6.out.trans (hB9.mono HB6.out.size)
  have hmo := most37 w6.heap.size w6.heap.size F8 [7] 2 w9 HS9
  clear hS9 hc9 HS8 HB8 hB9 q0 q1 HB6 HS9
  go_wp2_with (go_at_call 37; refine hmo.mono ?_; rintro e w10 ⟨rfl, rfl⟩)
  go_ret
  exact ⟨rfl, HB9.out⟩
theorem take_snocI (l : List Int) (k : Nat) (h : k < l.length) : l.take (k + 1) = l.take k ++ [l.getD k 0] := by
  rw [List.take_add_one]
  simp [List.getD, h]
/-- a slice value whose cells hold ints -/
def IntsC (w : World) (v : Value) (l : List Int) : Prop := ∃ ad cap, v = .slice ad l.length cap ∧ (l.length = 0 ∨ ∃ b off, ad = some ⟨b, off, none⟩ ∧ (∀ k, k < l.length → w.cell? ⟨b, off + k, none⟩ = some (.int .i64 (l.getD k 0))))
theorem ints_own {w : World} {B n : Nat} {v : Value} {l : List Int} (hn : n = l.length) (h : w.ownsRow B 3 1 v n (I64 l)) : IntsC w v l := by
  subst hn
  rcases Joins.ownsRow_forms h with ⟨rfl, h0⟩ | ⟨g, cap, rfl⟩
  · refine ⟨none, 0, ?_, .inl h0⟩
    rw [h0]
  · refine ⟨_, cap, rfl, .inr ⟨g, 0, rfl, fun k hk => ?_⟩⟩
    rw [Nat.zero_add, h.cellAt k (by omega)]
    simp [hk]
theorem IntsC.drewN {w : World} {v : Value} {l : List Int} (h : IntsC w v l) (q : Nat) : IntsC (w.drewN q) v l := h
theorem take_eq_step {a b : List Int} {k : Nat} (ha : k < a.length) (hb : k < b.length) (h : a.take k = b.take k) (hx : a.getD k 0 = b.getD k 0) : a.take (k + 1) = b.take (k + 1) := by
  rw [take_snocI a k ha, take_snocI b k hb, h, hx]
theorem ne_at {a b : List Int} {k : Nat} (hx : ¬ a.getD k 0 = b.getD k 0) : ¬ a = b := fun h => hx (by rw [h])
set_option maxHeartbeats 1000000 in
set_option maxRecDepth 1000000 in
theorem same20 (la lb : List Int) (va vb : Value) (w : World) (ha : IntsC w va la) (hb : IntsC w vb lb) (hla : la.length ≤ 140737488351232) (hlb : lb.length ≤ 140737488351232) :
    Calls Try.prog 20 #[va, vb] w fun e w' => e = .returned (.bool (decide (la = lb))) ∧ ∃ q, w' = w.drewN q := by
  obtain ⟨aa, ca, rfl, ha⟩ := ha
  obtain ⟨ab, cb, rfl, hb⟩ := hb
  generalize hna : la.length = na at *
  generalize hnb : lb.length = nb at *
  have HNA : Hid (la.length = na) := hna
  have HNB : Hid (lb.length = nb) := hnb
  clear hna hnb
  by_cases hne : na = nb
  · subst hne
    go_enter Try.func20, Try.ntmps20
    go_wp2
    go_loopw [5] (fun i wr => ∃ (k q : Nat), k ≤ na ∧ i = .int .i64 k ∧ wr = w.drewN q ∧ Hid (la.take k = lb.take k))
      (fun i _ => na - (intOf i).toNat)
    case atStart => exact ⟨0, 0, by omega, rfl, rfl, by exact rfl⟩
    case round =>
      obtain ⟨k, q, hk, rfl, rfl, HR⟩ := hrel
      by_cases hlt : k < na
      · obtain ⟨b1, o1, rfl, c1⟩ := ha.resolve_left (by omega)
        obtain ⟨b2, o2, rfl, c2⟩ := hb.resolve_left (by omega)
        have d1 := c1 k hlt
        have d2 := c2 k hlt
        have hst := take_eq_step (by rw [HNA.out]; exact hlt) (by rw [HNB.out]; exact hlt) HR.out
        have hnx := ne_at (a := la) (b := lb) (k := k)
        generalize la.getD k 0 = x at d1 hst hnx
        generalize lb.getD k 0 = y at d2 hst hnx
        have HST : Hid (x = y → la.take (k + 1) = lb.take (k + 1)) := hst
        have HNX : Hid (¬ x = y → ¬ la = lb) := hnx
        clear hst hnx c1 c2
        by_cases hxy : x = y
        · subst hxy
          go_wp2
          go_quiet (fail)
          go_wp2
          go_roundw
          case rel => exact ⟨k + 1, q + nq, by omega, by go_num, by simp, by exact HST.out (by trivial)⟩
          case measure => simp [intOf]; omega
        · have hE : Hid (¬ la = lb) := HNX.out hxy
          go_wp2
          go_quiet (fail)
          go_wp2
          go_ret
          exact ⟨ret_bool (by simp [hE.out]), _, by simp; rfl⟩
      · obtain rfl : k = na := by omega
        have hE : Hid (la = lb) := by
          have := HR.out
          rwa [List.take_of_length_le (by rw [HNA.out]; exact Nat.le_refl _), List.take_of_length_le (by rw [HNB.out]; exact Nat.le_refl _)] at this
        clear HR ha hb
        go_wp2
        go_ret
        exact ⟨ret_bool (by simp [hE.out]), q, rfl⟩
  · have hE : Hid (¬ la = lb) := fun h => hne (by rw [← HNA.out, ← HNB.out, h])
    clear ha hb
    go_enter Try.func20, Try.ntmps20
    go_wp2
    go_ret
    exact ⟨ret_bool (by simp [hE.out]), 0, rfl⟩
end Go.Proofs.Ytlidhjcciglinaa
