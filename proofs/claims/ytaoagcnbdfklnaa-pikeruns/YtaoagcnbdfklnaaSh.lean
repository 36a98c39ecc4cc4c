/- HELPERS: the call at the head of each law; two lists held against one another. -/
import Derived.Test.YtaoagcnbdfklnaaSg
namespace Go.Proofs.Ytaoagcnbdfklnaa
open Go.RowKit
set_option linter.unusedVariables false
set_option linter.unusedSimpArgs false
theorem take_snocI (l : List Int) (k : Nat) (h : k < l.length) : l.take (k + 1) = l.take k ++ [l.getD k 0] := by
  rw [List.take_add_one]
  simp [List.getD, h]
/-- a slice value whose cells hold ints -/
def IntsC (w : World) (v : Value) (l : List Int) : Prop := ∃ ad cap, v = .slice ad l.length cap ∧ (l.length = 0 ∨ ∃ b off, ad = some ⟨b, off, none⟩ ∧ (∀ k, k < l.length → w.cell? ⟨b, off + k, none⟩ = some (.int .i64 (l.getD k 0))))
theorem ints_own {w : World} {B n : Nat} {v : Value} {l : List Int} (hn : n = l.length) (h : w.ownsRow B 3 1 v n (I64 l)) : IntsC w v l := by
  subst hn
  rcases Joins.ownsRow_forms h with ⟨rfl, h0⟩ | ⟨g, cap, rfl⟩
  · refine ⟨none, 0, ?_, .inl h0⟩
    rw [h0]
  · refine ⟨_, cap, rfl, .inr ⟨g, 0, rfl, fun k hk => ?_⟩⟩
    rw [Nat.zero_add, h.cellAt k (by omega)]
    simp [hk]
theorem IntsC.drewN {w : World} {v : Value} {l : List Int} (h : IntsC w v l) (q : Nat) : IntsC (w.drewN q) v l := h
theorem take_eq_step {a b : List Int} {k : Nat} (ha : k < a.length) (hb : k < b.length) (h : a.take k = b.take k) (hx : a.getD k 0 = b.getD k 0) : a.take (k + 1) = b.take (k + 1) := by
  rw [take_snocI a k ha, take_snocI b k hb, h, hx]
theorem ne_at {a b : List Int} {k : Nat} (hx : ¬ a.getD k 0 = b.getD k 0) : ¬ a = b := fun h => hx (by rw [h])
set_option maxHeartbeats 1000000 in
set_option maxRecDepth 1000000 in
theorem same14 (la lb : List Int) (va vb : Value) (w : World) (ha : IntsC w va la) (hb : IntsC w vb lb) (hla : la.length ≤ 140737488351232) (hlb : lb.length ≤ 140737488351232) :
    Calls Try.prog 14 #[va, vb] w fun e w' => e = .returned (.bool (decide (la = lb))) ∧ ∃ q, w' = w.drewN q := by
  obtain ⟨aa, ca, rfl, ha⟩ := ha
  obtain ⟨ab, cb, rfl, hb⟩ := hb
  generalize hna : la.length = na at *
  generalize hnb : lb.length = nb at *
  have HNA : Hid (la.length = na) := hna
  have HNB : Hid (lb.length = nb) := hnb
  clear hna hnb
  by_cases hne : na = nb
  · subst hne
    go_enter Try.func14, Try.ntmps14
    go_wp2
    go_loopw [5] (fun i wr => ∃ (k q : Nat), k ≤ na ∧ i = .int .i64 k ∧ wr = w.drewN q ∧ Hid (la.take k = lb.take k))
      (fun i _ => na - (intOf i).toNat)
    case atStart => exact ⟨0, 0, by omega, rfl, rfl, by exact rfl⟩
    case round =>
      obtain ⟨k, q, hk, rfl, rfl, HR⟩ := hrel
      by_cases hlt : k < na
      · obtain ⟨b1, o1, rfl, c1⟩ := ha.resolve_left (by omega)
        obtain ⟨b2, o2, rfl, c2⟩ := hb.resolve_left (by omega)
        have d1 := c1 k hlt
        have d2 := c2 k hlt
        have hst := take_eq_step (by rw [HNA.out]; exact hlt) (by rw [HNB.out]; exact hlt) HR.out
        have hnx := ne_at (a := la) (b := lb) (k := k)
        generalize la.getD k 0 = x at d1 hst hnx
        generalize lb.getD k 0 = y at d2 hst hnx
        have HST : Hid (x = y → la.take (k + 1) = lb.take (k + 1)) := hst
        have HNX : Hid (¬ x = y → ¬ la = lb) := hnx
        clear hst hnx c1 c2
        by_cases hxy : x = y
        · subst hxy
          go_wp2
          go_quiet (fail)
          go_wp2
          go_roundw
          case rel => exact ⟨k + 1, q + nq, by omega, by go_num, by simp, by exact HST.out (by trivial)⟩
          case measure => simp [intOf]; omega
        · have hE : Hid (¬ la = lb) := HNX.out hxy
          go_wp2
          go_quiet (fail)
          go_wp2
          go_ret
          exact ⟨ret_bool (by simp [hE.out]), _, by simp; rfl⟩
      · obtain rfl : k = na := by omega
        have hE : Hid (la = lb) := by
          have := HR.out
          rwa [List.take_of_length_le (by rw [HNA.out]; exact Nat.le_refl _), List.take_of_length_le (by rw [HNB.out]; exact Nat.le_refl _)] at this
        clear HR ha hb
        go_wp2
        go_ret
        exact ⟨ret_bool (by simp [hE.out]), q, rfl⟩
  · have hE : Hid (¬ la = lb) := fun h => hne (by rw [← HNA.out, ← HNB.out, h])
    clear ha hb
    go_enter Try.func14, Try.ntmps14
    go_wp2
    go_ret
    exact ⟨ret_bool (by simp [hE.out]), 0, rfl⟩
end Go.Proofs.Ytaoagcnbdfklnaa
