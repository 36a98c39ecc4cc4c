/- HELPERS: the search in a class. -/
import Derived.Test.YtodpmmlfdkdemaaLx
namespace Go.Proofs.Ytodpmmlfdkdemaa
open Go.RowKit
set_option linter.unusedVariables false
set_option linter.unusedSimpArgs false
def cmpI (a b : Int) : Int := if a < b then -1 else if b < a then 1 else 0
set_option maxRecDepth 100000 in
theorem nan74 (a : Int) (W : World) : Calls Try.prog 89 #[.int .i64 a] W fun e w' => e = .returned (.bool false) ∧ w' = W := by
  go_enter Try.func89, Try.ntmps89
  go_wp2
  all_goals go_ret
  all_goals exact ⟨rfl, rfl⟩
set_option maxRecDepth 100000 in
set_option maxHeartbeats 1000000 in
theorem compare69 (a b : Int) (W : World) : Calls Try.prog 80 #[.int .i64 a, .int .i64 b] W fun e w' => e = .returned (.int .i64 (cmpI a b)) ∧ w' = W := by
  have H1 := fun W => nan74 a W
  have H2 := fun W => nan74 b W
  by_cases h1 : a < b
  · have e : cmpI a b = -1 := by unfold cmpI; rw [if_pos h1]
    rw [e]
    go_enter Try.func80, Try.ntmps80
    go_wp2_with (go_at_call 89; (first | (with_reducible refine (H1 _).mono ?_) | (with_reducible refine (H2 _).mono ?_)); rintro e w' ⟨rfl, rfl⟩)
    all_goals go_ret
    all_goals exact ⟨rfl, rfl⟩
  · by_cases h2 : b < a
    · have e : cmpI a b = 1 := by unfold cmpI; rw [if_neg h1, if_pos h2]
      rw [e]
      go_enter Try.func80, Try.ntmps80
      go_wp2_with (go_at_call 89; (first | (with_reducible refine (H1 _).mono ?_) | (with_reducible refine (H2 _).mono ?_)); rintro e w' ⟨rfl, rfl⟩)
      all_goals go_ret
      all_goals exact ⟨rfl, rfl⟩
    · have e : cmpI a b = 0 := by unfold cmpI; rw [if_neg h1, if_neg h2]
      rw [e]
      go_enter Try.func80, Try.ntmps80
      go_wp2_with (go_at_call 89; (first | (with_reducible refine (H1 _).mono ?_) | (with_reducible refine (H2 _).mono ?_)); rintro e w' ⟨rfl, rfl⟩)
      all_goals go_ret
      all_goals exact ⟨rfl, rfl⟩
set_option maxHeartbeats 1000000 in
theorem closure68 (lo hi r : Int) (W : World) : Calls Try.prog 86 #[.agg #[.int .i64 lo, .int .i64 hi], .int .i64 r] W fun e w' => e = .returned (.int .i64 (cmpI hi r)) ∧ Below W.heap.size W w' := by
  have hcon := fun W' => compare69 hi r W'
  generalize cmpI hi r = c at hcon ⊢
  go_enter Try.func86, Try.ntmps86
  go_wp2_with (go_at_call 80; refine (hcon _).mono ?_; rintro e w' ⟨rfl, rfl⟩)
  go_ret
  exact ⟨rfl, (Below.refl _ _).alloc (Nat.le_refl _) _⟩
theorem cmp_lt (a b : Int) : cmpI a b < 0 ↔ a < b := by
  unfold cmpI
  by_cases h1 : a < b
  · simp [h1]
  · by_cases h2 : b < a <;> simp [h1, h2]
set_option maxHeartbeats 3000000 in
set_option maxRecDepth 1000000 in
theorem bs67 (L : List (Int × Int)) (ad : Option Addr) (n cap : Nat) (r : Int) (w : World) (hn : Hid (n = L.length)) (hl : Hid (RowAt w.heap.size w (.slice ad n cap) L)) (hS : n ≤ 5000) :
    Calls Try.prog 78 #[.slice ad n cap, .int .i64 r, .func (.func 86) #[] #[]] w fun e w' => ∃ (i : Nat) (f : Bool), e = .returned (.tuple #[.int .i64 i, .bool f]) ∧ Below w.heap.size w w' ∧ i ≤ n ∧ (i = 0 ∨ (L.getD (i - 1) (0, 0)).2 < r) ∧ (i = n ∨ r ≤ (L.getD i (0, 0)).2) := by
  go_enter Try.func78, Try.ntmps78
  go_wp2
  go_loopw [9, 10] (fun a b wr => ∃ (i j : Nat), a = .int .i64 i ∧ b = .int .i64 j ∧ i ≤ j ∧ j ≤ n ∧ Below w.heap.size w wr ∧ Hid ((i = 0 ∨ (L.getD (i - 1) (0, 0)).2 < r) ∧ (j = n ∨ r ≤ (L.getD j (0, 0)).2)))
    (fun a b _ => (intOf b).toNat - (intOf a).toNat)
  case atStart => exact ⟨0, n, rfl, rfl, by omega, by omega, Below.refl _ _, by exact ⟨.inl rfl, .inl rfl⟩⟩
  case round =>
    obtain ⟨i, j, rfl, rfl, hij, hjn, hbw, HR⟩ := hrel
    have hsz := hbw.size
    by_cases hlt : i < j
    · obtain ⟨ad', cap', he, h | ⟨b, off, rfl, hbN, hc0, hc1⟩⟩ := hl.out
      · exact absurd h (by rw [← hn.out]; omega)
      · have hn' := hn.out
        simp only [Value.slice.injEq] at he
        obtain ⟨rfl, -, rfl⟩ := he
        have hm1 : i ≤ (i + j) / 2 := by omega
        have hm2 : (i + j) / 2 < j := by omega
        have d0 := (hbw.cell (p := ⟨b, off + (i + j) / 2 * 2, none⟩) hbN).trans (hc0 ((i + j) / 2) (by omega))
        have d1 := (hbw.cell (p := ⟨b, off + (i + j) / 2 * 2 + 1, none⟩) hbN).trans (hc1 ((i + j) / 2) (by omega))
        generalize hg : L.getD ((i + j) / 2) (0, 0) = g at d0 d1
        obtain ⟨lo, hi⟩ := g
        simp only at d0 d1
        have HG : Hid (L.getD ((i + j) / 2) (0, 0) = (lo, hi)) := hg
        clear hg hc0 hc1 hn'
        have hcl := closure68 lo hi r
        have hcmp := cmp_lt hi r
        generalize cmpI hi r = c at hcl hcmp
        by_cases hc : c < 0
        · have HX : Hid (hi < r) := hcmp.1 hc
          clear hcmp
          go_wp2_with (go_at_call 86; refine (hcl _).mono ?_; rintro e w2 ⟨rfl, hb2⟩)
          go_roundw
          case rel => exact ⟨(i + j) / 2 + 1, j, by go_num, rfl, by omega, by omega, hbw.trans (hb2.mono hsz), by exact ⟨.inr (by rw [Nat.add_sub_cancel, HG.out]; exact HX.out), HR.out.2⟩⟩
          case measure => simp [intOf]; omega
        · have HX : Hid (r ≤ hi) := by show r ≤ hi; have := mt hcmp.2 hc; omega
          clear hcmp
          go_wp2_with (go_at_call 86; refine (hcl _).mono ?_; rintro e w2 ⟨rfl, hb2⟩)
          go_roundw
          case rel => exact ⟨i, (i + j) / 2, rfl, by go_num, by omega, by omega, hbw.trans (hb2.mono hsz), by exact ⟨HR.out.1, .inr (by rw [HG.out]; exact HX.out)⟩⟩
          case measure => simp [intOf]; omega
    · obtain rfl : i = j := by omega
      by_cases hin : i < n
      · obtain ⟨ad', cap', he, h | ⟨b, off, rfl, hbN, hc0, hc1⟩⟩ := hl.out
        · exact absurd h (by rw [← hn.out]; omega)
        · have hn' := hn.out
          simp only [Value.slice.injEq] at he
          obtain ⟨rfl, -, rfl⟩ := he
          have d0 := (hbw.cell (p := ⟨b, off + i * 2, none⟩) hbN).trans (hc0 i (by omega))
          have d1 := (hbw.cell (p := ⟨b, off + i * 2 + 1, none⟩) hbN).trans (hc1 i (by omega))
          generalize L.getD i (0, 0) = g at d0 d1
          obtain ⟨lo, hi⟩ := g
          simp only at d0 d1
          clear hc0 hc1 hn'
          have hcl := closure68 lo hi r
          generalize cmpI hi r = c at hcl
          go_wp2_with (go_at_call 86; refine (hcl _).mono ?_; rintro e w2 ⟨rfl, hb2⟩)
          go_ret2
          exact ⟨i, _, rfl, hbw.trans (hb2.mono hsz), by omega, HR.out.1, HR.out.2⟩
      · go_wp2
        go_ret2
        exact ⟨i, _, rfl, hbw, by omega, HR.out.1, HR.out.2⟩
theorem right_rise (L : List (Int × Int)) : ∀ (ls : Int) (k : Nat), rightFrom ls L = true → k + 1 < L.length → (L.getD k (0, 0)).2 < (L.getD (k + 1) (0, 0)).1 ∧ (L.getD (k + 1) (0, 0)).1 ≤ (L.getD (k + 1) (0, 0)).2 := by
  induction L with
  | nil => intro ls k _ h; simp at h
  | cons a t ih =>
    intro ls k h hk
    simp only [rightFrom, Bool.and_eq_true] at h
    cases k with
    | zero =>
      cases t with
      | nil => simp at hk
      | cons b t =>
        have h2 := h.2
        simp only [rightFrom, okG, Bool.and_eq_true, decide_eq_true_eq] at h2
        have := h2.1.1.1.1.1
        have := h2.1.1.1.1.2
        simp
        omega
    | succ k => simpa using ih _ k h.2 (by simpa using hk)
theorem right_mono (L : List (Int × Int)) (ls : Int) (h : rightFrom ls L = true) : ∀ (d k : Nat), k + d < L.length → (L.getD k (0, 0)).2 ≤ (L.getD (k + d) (0, 0)).2 := by
  intro d
  induction d with
  | zero => intro k _; simp
  | succ d ih =>
    intro k hk
    have h1 := ih k (by omega)
    have h2 := right_rise L ls (k + d) h (by omega)
    have e : k + (d + 1) = k + d + 1 := by omega
    rw [e]
    omega
theorem right_lo (L : List (Int × Int)) (ls : Int) (h : rightFrom ls L = true) (a b : Nat) (hab : a < b) (hb : b < L.length) : (L.getD a (0, 0)).2 < (L.getD b (0, 0)).1 := by
  obtain ⟨d, rfl⟩ := Nat.exists_eq_add_of_le (show a + 1 ≤ b by omega)
  have h1 := right_mono L ls h d a (by omega)
  have h2 := right_rise L ls (a + d) h (by omega)
  have e : a + 1 + d = a + d + 1 := by omega
  rw [e]
  omega
theorem has_search (L : List (Int × Int)) (r : Int) (i : Nat) (h : rightB L = true) (hi : i ≤ L.length) (h0 : i = 0 ∨ (L.getD (i - 1) (0, 0)).2 < r) (h1 : i = L.length ∨ r ≤ (L.getD i (0, 0)).2) :
    inB L r = (decide (i < L.length) && decide ((L.getD i (0, 0)).1 ≤ r)) := by
  have hr : rightFrom 0 L = true := by unfold rightB at h; rw [Bool.and_eq_true] at h; exact h.2
  have hge : ∀ k (hk : k < L.length), L[k] = L.getD k (0, 0) := fun k hk => by simp [List.getD, hk]
  rw [Bool.eq_iff_iff]
  unfold inB
  rw [List.any_eq_true]
  simp only [Bool.and_eq_true, decide_eq_true_eq]
  constructor
  · rintro ⟨g, hg, ha, hb⟩
    obtain ⟨k, hk, rfl⟩ := List.getElem_of_mem hg
    rw [hge k hk] at ha hb
    have hki : ¬ k < i := fun hlt => by
      rcases h0 with h0 | h0
      · omega
      · have := right_mono L 0 hr (i - 1 - k) k (by omega)
        rw [show k + (i - 1 - k) = i - 1 by omega] at this
        omega
    have hik : ¬ i < k := fun hlt => by
      rcases h1 with h1 | h1
      · omega
      · have := right_lo L 0 hr i k hlt hk
        omega
    obtain rfl : k = i := by omega
    exact ⟨hk, ha⟩
  · rintro ⟨hk, ha⟩
    refine ⟨L[i], List.getElem_mem hk, ?_⟩
    rw [hge i hk]
    rcases h1 with h1 | h1
    · omega
    · exact ⟨ha, h1⟩
end Go.Proofs.Ytodpmmlfdkdemaa
