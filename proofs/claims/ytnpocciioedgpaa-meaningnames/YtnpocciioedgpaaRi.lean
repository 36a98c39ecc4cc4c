/- HELPERS: runes.Right and runes.Has. -/
import Derived.Test.YtnpocciioedgpaaOb
import Derived.Lib.Small
namespace Go.Proofs.Ytnpocciioedgpaa
open Go.RowKit Go.Lib
set_option linter.unusedVariables false
set_option linter.unusedSimpArgs false
def hasB (L : List (Int × Int)) (r : Int) : Bool := L.any fun g => decide (g.1 ≤ r) && decide (r ≤ g.2)
def dom (r : Int) : Bool := decide (0 ≤ r ∧ r < 55296 ∨ 57343 < r ∧ r ≤ 1114111)
theorem dom41 (r : Int) (w : World) : Calls Try.prog 100 #[.int .i64 r] w fun e w' => e = .returned (.bool (dom r)) ∧ w' = w := by
  go_enter Try.func100, Try.ntmps100
  go_wp2
  all_goals go_ret
  all_goals exact ⟨ret_bool (by rw [Bool.eq_iff_iff]; simp [dom]; omega), rfl⟩
/-- a slice value whose cells hold ranges, in a block below N -/
def RowAt (N : Nat) (w : World) (v : Value) (L : List (Int × Int)) : Prop := ∃ ad cap, v = .slice ad L.length cap ∧ (L.length = 0 ∨ ∃ b off, ad = some ⟨b, off, none⟩ ∧ b < N ∧
  (∀ k, k < L.length → w.cell? ⟨b, off + k * 2, none⟩ = some (.int .i64 (L.getD k (0, 0)).1)) ∧ (∀ k, k < L.length → w.cell? ⟨b, off + k * 2 + 1, none⟩ = some (.int .i64 (L.getD k (0, 0)).2)))
theorem RowAt.below {N N' B : Nat} {w w' : World} {v : Value} {L : List (Int × Int)} (h : RowAt N w v L) (hb : Below B w w') (hB : N ≤ B) (hN : N ≤ N') : RowAt N' w' v L := by
  obtain ⟨ad, cap, hv, h | ⟨b, off, ha, hbN, h0, h1⟩⟩ := h
  · exact ⟨ad, cap, hv, .inl h⟩
  · exact ⟨ad, cap, hv, .inr ⟨b, off, ha, by omega, fun k hk => (hb.cell (p := ⟨b, off + k * 2, none⟩) (by show b < B; omega)).trans (h0 k hk), fun k hk => (hb.cell (p := ⟨b, off + k * 2 + 1, none⟩) (by show b < B; omega)).trans (h1 k hk)⟩⟩
def gapB (g : Int × Int) : Bool := decide (g.1 < 55296 ∧ 57343 < g.2)
def okG (least : Int) (g : Int × Int) : Bool := decide (least ≤ g.1) && decide (g.1 ≤ g.2) && dom g.1 && dom g.2 && !gapB g
def rightFrom : Int → List (Int × Int) → Bool
  | _, [] => true
  | least, g :: t => okG least g && rightFrom (g.2 + 2) t
def rightB (L : List (Int × Int)) : Bool := decide (L.length ≤ 5000) && rightFrom 0 L
theorem drop_consR (L : List (Int × Int)) (k : Nat) (h : k < L.length) : L.drop k = L.getD k (0, 0) :: L.drop (k + 1) := by
  rw [List.drop_eq_getElem_cons h]; simp [h]
theorem gap46 (lo hi : Int) (w : World) : Calls Try.prog 101 #[.agg #[.int .i64 lo, .int .i64 hi]] w fun e w' => e = .returned (.bool (gapB (lo, hi))) ∧ w' = w.alloc (.cells #[.int .i64 lo, .int .i64 hi] 70) := by
  go_enter Try.func101, Try.ntmps101
  go_wp2
  all_goals go_ret
  all_goals exact ⟨ret_bool (by rw [Bool.eq_iff_iff]; simp [gapB]; omega), rfl⟩
set_option maxHeartbeats 2000000 in
set_option maxRecDepth 1000000 in
theorem right_short (L : List (Int × Int)) (ad : Option Addr) (n cap : Nat) (w : World) (hn : Hid (n = L.length)) (hS : n ≤ 5000) (hl : Hid (RowAt w.heap.size w (.slice ad n cap) L)) :
    Calls Try.prog 76 #[.slice ad n cap] w fun e w' => e = .returned (.bool (rightFrom 0 L)) ∧ Below w.heap.size w w' := by
  go_enter Try.func76, Try.ntmps76
  go_wp2
  go_loopw [3, 11] (fun lv i wr => ∃ (k : Nat) (ls : Int), k ≤ n ∧ 0 ≤ ls ∧ ls ≤ 1114113 ∧ lv = .int .i64 ls ∧ i = .int .i64 k ∧ Below w.heap.size w wr ∧ Hid (rightFrom 0 L = rightFrom ls (L.drop k)))
    (fun _ i _ => n - (intOf i).toNat)
  case atStart => exact ⟨0, 0, by omega, by omega, by omega, rfl, rfl, Below.refl _ _, by exact rfl⟩
  case round =>
    obtain ⟨k, ls, hk, hs0, hs1, rfl, rfl, hbw, HR⟩ := hrel
    have hsz := hbw.size
    by_cases hlt : k < n
    · obtain ⟨ad', cap', he, h | ⟨b, off, rfl, hbN, hc0, hc1⟩⟩ := hl.out
      · exact absurd h (by rw [← hn.out]; omega)
      · have hn' := hn.out
        simp only [Value.slice.injEq] at he
        obtain ⟨rfl, -, rfl⟩ := he
        have d0 := (hbw.cell (p := ⟨b, off + k * 2, none⟩) hbN).trans (hc0 k (by omega))
        have d1 := (hbw.cell (p := ⟨b, off + k * 2 + 1, none⟩) hbN).trans (hc1 k (by omega))
        have hdr := drop_consR L k (by omega)
        have hR := HR.out
        rw [hdr] at hR
        generalize L.getD k (0, 0) = g at d0 d1 hR
        obtain ⟨lo, hi⟩ := g
        simp only at d0 d1
        have HR2 : Hid (rightFrom 0 L = (okG ls (lo, hi) && rightFrom (hi + 2) (L.drop (k + 1)))) := hR
        clear hdr hR HR hc0 hc1 hn'
        have hd0 := dom41 lo
        have hd1 := dom41 hi
        have hgp := gap46 lo hi
        generalize ho : okG ls (lo, hi) = ok at HR2
        have hok : ok = (decide (ls ≤ lo) && decide (lo ≤ hi) && dom lo && dom hi && !gapB (lo, hi)) := ho.symm
        clear ho
        generalize h3 : dom lo = e3 at hd0 hok
        generalize h4 : dom hi = e4 at hd1 hok
        generalize h5 : gapB (lo, hi) = e5 at hgp hok
        have H4 : Hid (dom hi = e4) := h4
        clear h3 h4 h5
        have HOK : Hid (ok = (decide (ls ≤ lo) && decide (lo ≤ hi) && e3 && e4 && !e5)) := hok
        clear hok
        by_cases g1 : ls ≤ lo
        · by_cases g2 : lo ≤ hi
          · cases e3
            · have hE : Hid (rightFrom 0 L = false) := by show rightFrom 0 L = _; rw [HR2.out, HOK.out]; simp
              go_wp2_with (first | (go_at_call_of 41 (.int .i64 lo); refine (hd0 _).mono ?_; rintro e w' ⟨rfl, rfl⟩) | (go_at_call 100; refine (hd0 _).mono ?_; rintro e w' ⟨rfl, rfl⟩))
              go_ret
              exact ⟨ret_bool hE.out.symm, hbw.alloc hsz _⟩
            · cases e4
              · have hE : Hid (rightFrom 0 L = false) := by show rightFrom 0 L = _; rw [HR2.out, HOK.out]; simp
                go_wp2_with fail
                refine (hd0 _).mono ?_
                rintro e w' ⟨rfl, rfl⟩
                go_wp2_with fail
                refine (hd1 _).mono ?_
                rintro e w' ⟨rfl, rfl⟩
                go_wp2
                go_ret
                exact ⟨ret_bool hE.out.symm, hbw.alloc hsz _⟩
              · cases e5
                · have hE : Hid (rightFrom 0 L = rightFrom (hi + 2) (L.drop (k + 1))) := by show rightFrom 0 L = _; rw [HR2.out, HOK.out]; simp [g1, g2]
                  obtain ⟨hh0, hh1⟩ : 0 ≤ hi ∧ hi ≤ 1114111 := by have := H4.out; simp [dom] at this; omega
                  go_wp2_with fail
                  refine (hd0 _).mono ?_
                  rintro e w' ⟨rfl, rfl⟩
                  go_wp2_with fail
                  refine (hd1 _).mono ?_
                  rintro e w' ⟨rfl, rfl⟩
                  go_wp2_with fail
                  refine (hgp _).mono ?_
                  rintro e w' ⟨rfl, rfl⟩
                  go_wp2
                  go_roundw
                  case rel => exact ⟨k + 1, hi + 2, by omega, by omega, by omega, rfl, by go_num, (hbw.alloc hsz _).alloc (by simp; omega) _, hE⟩
                  case measure => simp [intOf]; omega
                · have hE : Hid (rightFrom 0 L = false) := by show rightFrom 0 L = _; rw [HR2.out, HOK.out]; simp
                  go_wp2_with fail
                  refine (hd0 _).mono ?_
                  rintro e w' ⟨rfl, rfl⟩
                  go_wp2_with fail
                  refine (hd1 _).mono ?_
                  rintro e w' ⟨rfl, rfl⟩
                  go_wp2_with fail
                  refine (hgp _).mono ?_
                  rintro e w' ⟨rfl, rfl⟩
                  go_wp2
                  go_ret
                  exact ⟨ret_bool hE.out.symm, (hbw.alloc hsz _).alloc (by simp; omega) _⟩
          · have hE : Hid (rightFrom 0 L = false) := by show rightFrom 0 L = _; rw [HR2.out, HOK.out]; simp [g2]
            clear hd0 hd1 hgp
            go_wp2
            go_ret
            exact ⟨ret_bool hE.out.symm, hbw.alloc hsz _⟩
        · have hE : Hid (rightFrom 0 L = false) := by show rightFrom 0 L = _; rw [HR2.out, HOK.out]; simp [g1]
          clear hd0 hd1 hgp
          go_wp2
          go_ret
          exact ⟨ret_bool hE.out.symm, hbw.alloc hsz _⟩
    · obtain rfl : k = n := by omega
      have hE : Hid (rightFrom 0 L = true) := by
        show rightFrom 0 L = _
        rw [HR.out, List.drop_of_length_le (by rw [← hn.out]; exact Nat.le_refl _)]; rfl
      clear HR
      go_wp2
      go_ret
      exact ⟨ret_bool hE.out.symm, hbw⟩
set_option maxHeartbeats 1000000 in
theorem right_long (L : List (Int × Int)) (ad : Option Addr) (n cap : Nat) (w : World) (hS : 5000 < n) (hS2 : n ≤ 17592186044416) :
    Calls Try.prog 76 #[.slice ad n cap] w fun e w' => e = .returned (.bool false) ∧ Below w.heap.size w w' := by
  go_enter Try.func76, Try.ntmps76
  go_wp2
  go_ret
  exact ⟨rfl, Below.refl _ _⟩
theorem right25 (L : List (Int × Int)) (ad : Option Addr) (n cap : Nat) (w : World) (hn : n = L.length) (hS2 : n ≤ 17592186044416) (hl : RowAt w.heap.size w (.slice ad n cap) L) :
    Calls Try.prog 76 #[.slice ad n cap] w fun e w' => e = .returned (.bool (rightB L)) ∧ Below w.heap.size w w' := by
  by_cases h : n ≤ 5000
  · have e : rightB L = rightFrom 0 L := by unfold rightB; rw [← hn]; simp [h]
    rw [e]
    exact right_short L ad n cap w hn h hl
  · have e : rightB L = false := by unfold rightB; rw [← hn]; simp [h]
    rw [e]
    exact right_long L ad n cap w (by omega) hS2
theorem rightB_len {L : List (Int × Int)} (h : rightB L = true) : L.length ≤ 5000 := by unfold rightB at h; rw [Bool.and_eq_true, decide_eq_true_eq] at h; exact h.1
theorem nan52 (a : Int) (w : World) : Calls Try.prog 111 #[.int .i64 a] w fun e w' => e = .returned (.bool false) ∧ w' = w := by
  go_enter Try.func111, Try.ntmps111
  go_wp2
  go_ret
  exact ⟨ret_bool (by simp), rfl⟩
theorem cmp51 (a b : Int) (w : World) : Calls Try.prog 108 #[.int .i64 a, .int .i64 b] w fun e w' => e = .returned (.int .i64 (Lib.compareInt a b)) ∧ w' = w := by
  go_enter Try.func108, Try.ntmps108
  go_wp2_with (go_at_call 111; (with_reducible refine (nan52 _ _).mono ?_); rintro e w' ⟨rfl, rfl⟩)
  all_goals go_ret
  all_goals exact ⟨ret_int (by unfold Lib.compareInt; (repeat' split) <;> omega), rfl⟩
set_option maxHeartbeats 1000000 in
theorem closure50 (lo hi r : Int) (W : World) : Calls Try.prog 107 #[.agg #[.int .i64 lo, .int .i64 hi], .int .i64 r] W fun e w' => e = .returned (.int .i64 (Lib.compareInt hi r)) ∧ Below W.heap.size W w' := by
  have hcon := fun W' => cmp51 hi r W'
  generalize Lib.compareInt hi r = c at hcon ⊢
  go_enter Try.func107, Try.ntmps107
  go_wp2_with (go_at_call 108; refine (hcon _).mono ?_; rintro e w' ⟨rfl, rfl⟩)
  go_ret
  exact ⟨rfl, (Below.refl _ _).alloc (Nat.le_refl _) _⟩
theorem cmp_lt (a b : Int) : Lib.compareInt a b < 0 ↔ a < b := by
  unfold Lib.compareInt
  by_cases h1 : a < b
  · simp [h1]
  · by_cases h2 : b < a <;> simp [h1, h2]
set_option maxHeartbeats 3000000 in
set_option maxRecDepth 1000000 in
theorem bs49 (L : List (Int × Int)) (ad : Option Addr) (n cap : Nat) (r : Int) (w : World) (hn : Hid (n = L.length)) (hl : Hid (RowAt w.heap.size w (.slice ad n cap) L)) (hS : n ≤ 5000) :
    Calls Try.prog 106 #[.slice ad n cap, .int .i64 r, .func (.func 107) #[] #[]] w fun e w' => ∃ (i : Nat) (f : Bool), e = .returned (.tuple #[.int .i64 i, .bool f]) ∧ Below w.heap.size w w' ∧ i ≤ n ∧ (i = 0 ∨ (L.getD (i - 1) (0, 0)).2 < r) ∧ (i = n ∨ r ≤ (L.getD i (0, 0)).2) := by
  go_enter Try.func106, Try.ntmps106
  go_wp2
  go_loopw [9, 10] (fun a b wr => ∃ (i j : Nat), a = .int .i64 i ∧ b = .int .i64 j ∧ i ≤ j ∧ j ≤ n ∧ Below w.heap.size w wr ∧ Hid ((i = 0 ∨ (L.getD (i - 1) (0, 0)).2 < r) ∧ (j = n ∨ r ≤ (L.getD j (0, 0)).2)))
    (fun a b _ => (intOf b).toNat - (intOf a).toNat)
  case atStart => exact ⟨0, n, rfl, rfl, by omega, by omega, Below.refl _ _, by exact ⟨.inl rfl, .inl rfl⟩⟩
  case round =>
    obtain ⟨i, j, rfl, rfl, hij, hjn, hbw, HR⟩ := hrel
    have hsz := hbw.size
    by_cases hlt : i < j
    · obtain ⟨ad', cap', he, h | ⟨b, off, rfl, hbN, hc0, hc1⟩⟩ := hl.out
      · exact absurd h (by rw [← hn.out]; omega)
      · have hn' := hn.out
        simp only [Value.slice.injEq] at he
        obtain ⟨rfl, -, rfl⟩ := he
        have hm1 : i ≤ (i + j) / 2 := by omega
        have hm2 : (i + j) / 2 < j := by omega
        have d0 := (hbw.cell (p := ⟨b, off + (i + j) / 2 * 2, none⟩) hbN).trans (hc0 ((i + j) / 2) (by omega))
        have d1 := (hbw.cell (p := ⟨b, off + (i + j) / 2 * 2 + 1, none⟩) hbN).trans (hc1 ((i + j) / 2) (by omega))
        generalize hg : L.getD ((i + j) / 2) (0, 0) = g at d0 d1
        obtain ⟨lo, hi⟩ := g
        simp only at d0 d1
        have HG : Hid (L.getD ((i + j) / 2) (0, 0) = (lo, hi)) := hg
        clear hg hc0 hc1 hn'
        have hcl := closure50 lo hi r
        have hcmp := cmp_lt hi r
        generalize Lib.compareInt hi r = c at hcl hcmp
        by_cases hc : c < 0
        · have HX : Hid (hi < r) := hcmp.1 hc
          clear hcmp
          go_wp2_with (go_at_call 107; refine (hcl _).mono ?_; rintro e w2 ⟨rfl, hb2⟩)
          go_roundw
          case rel => exact ⟨(i + j) / 2 + 1, j, by go_num, rfl, by omega, by omega, hbw.trans (hb2.mono hsz), by exact ⟨.inr (by rw [Nat.add_sub_cancel, HG.out]; exact HX.out), HR.out.2⟩⟩
          case measure => simp [intOf]; omega
        · have HX : Hid (r ≤ hi) := by show r ≤ hi; have := mt hcmp.2 hc; omega
          clear hcmp
          go_wp2_with (go_at_call 107; refine (hcl _).mono ?_; rintro e w2 ⟨rfl, hb2⟩)
          go_roundw
          case rel => exact ⟨i, (i + j) / 2, rfl, by go_num, by omega, by omega, hbw.trans (hb2.mono hsz), by exact ⟨HR.out.1, .inr (by rw [HG.out]; exact HX.out)⟩⟩
          case measure => simp [intOf]; omega
    · obtain rfl : i = j := by omega
      by_cases hin : i < n
      · obtain ⟨ad', cap', he, h | ⟨b, off, rfl, hbN, hc0, hc1⟩⟩ := hl.out
        · exact absurd h (by rw [← hn.out]; omega)
        · have hn' := hn.out
          simp only [Value.slice.injEq] at he
          obtain ⟨rfl, -, rfl⟩ := he
          have d0 := (hbw.cell (p := ⟨b, off + i * 2, none⟩) hbN).trans (hc0 i (by omega))
          have d1 := (hbw.cell (p := ⟨b, off + i * 2 + 1, none⟩) hbN).trans (hc1 i (by omega))
          generalize L.getD i (0, 0) = g at d0 d1
          obtain ⟨lo, hi⟩ := g
          simp only at d0 d1
          clear hc0 hc1 hn'
          have hcl := closure50 lo hi r
          generalize Lib.compareInt hi r = c at hcl
          go_wp2_with (go_at_call 107; refine (hcl _).mono ?_; rintro e w2 ⟨rfl, hb2⟩)
          go_ret2
          exact ⟨i, _, rfl, hbw.trans (hb2.mono hsz), by omega, HR.out.1, HR.out.2⟩
      · go_wp2
        go_ret2
        exact ⟨i, _, rfl, hbw, by omega, HR.out.1, HR.out.2⟩
theorem right_rise (L : List (Int × Int)) : ∀ (ls : Int) (k : Nat), rightFrom ls L = true → k + 1 < L.length → (L.getD k (0, 0)).2 < (L.getD (k + 1) (0, 0)).1 ∧ (L.getD (k + 1) (0, 0)).1 ≤ (L.getD (k + 1) (0, 0)).2 := by
  induction L with
  | nil => intro ls k _ h; simp at h
  | cons a t ih =>
    intro ls k h hk
    simp only [rightFrom, Bool.and_eq_true] at h
    cases k with
    | zero =>
      cases t with
      | nil => simp at hk
      | cons b t =>
        have h2 := h.2
        simp only [rightFrom, okG, Bool.and_eq_true, decide_eq_true_eq] at h2
        have := h2.1.1.1.1.1
        have := h2.1.1.1.1.2
        simp
        omega
    | succ k => simpa using ih _ k h.2 (by simpa using hk)
theorem right_mono (L : List (Int × Int)) (ls : Int) (h : rightFrom ls L = true) : ∀ (d k : Nat), k + d < L.length → (L.getD k (0, 0)).2 ≤ (L.getD (k + d) (0, 0)).2 := by
  intro d
  induction d with
  | zero => intro k _; simp
  | succ d ih =>
    intro k hk
    have h1 := ih k (by omega)
    have h2 := right_rise L ls (k + d) h (by omega)
    have e : k + (d + 1) = k + d + 1 := by omega
    rw [e]
    omega
theorem right_lo (L : List (Int × Int)) (ls : Int) (h : rightFrom ls L = true) (a b : Nat) (hab : a < b) (hb : b < L.length) : (L.getD a (0, 0)).2 < (L.getD b (0, 0)).1 := by
  obtain ⟨d, rfl⟩ := Nat.exists_eq_add_of_le (show a + 1 ≤ b by omega)
  have h1 := right_mono L ls h d a (by omega)
  have h2 := right_rise L ls (a + d) h (by omega)
  have e : a + 1 + d = a + d + 1 := by omega
  rw [e]
  omega
theorem has_search (L : List (Int × Int)) (r : Int) (i : Nat) (h : rightB L = true) (hi : i ≤ L.length) (h0 : i = 0 ∨ (L.getD (i - 1) (0, 0)).2 < r) (h1 : i = L.length ∨ r ≤ (L.getD i (0, 0)).2) :
    hasB L r = (decide (i < L.length) && decide ((L.getD i (0, 0)).1 ≤ r)) := by
  have hr : rightFrom 0 L = true := by unfold rightB at h; rw [Bool.and_eq_true] at h; exact h.2
  have hge : ∀ k (hk : k < L.length), L[k] = L.getD k (0, 0) := fun k hk => by simp [List.getD, hk]
  rw [Bool.eq_iff_iff]
  unfold hasB
  rw [List.any_eq_true]
  simp only [Bool.and_eq_true, decide_eq_true_eq]
  constructor
  · rintro ⟨g, hg, ha, hb⟩
    obtain ⟨k, hk, rfl⟩ := List.getElem_of_mem hg
    rw [hge k hk] at ha hb
    have hki : ¬ k < i := fun hlt => by
      rcases h0 with h0 | h0
      · omega
      · have := right_mono L 0 hr (i - 1 - k) k (by omega)
        rw [show k + (i - 1 - k) = i - 1 by omega] at this
        omega
    have hik : ¬ i < k := fun hlt => by
      rcases h1 with h1 | h1
      · omega
      · have := right_lo L 0 hr i k hlt hk
        omega
    obtain rfl : k = i := by omega
    exact ⟨hk, ha⟩
  · rintro ⟨hk, ha⟩
    refine ⟨L[i], List.getElem_mem hk, ?_⟩
    rw [hge i hk]
    rcases h1 with h1 | h1
    · omega
    · exact ⟨ha, h1⟩
set_option maxHeartbeats 2000000 in
set_option maxRecDepth 1000000 in
theorem has30 (L : List (Int × Int)) (ad : Option Addr) (n cap : Nat) (r : Int) (w : World) (hn : Hid (n = L.length)) (hS2 : n ≤ 17592186044416) (hl : Hid (RowAt w.heap.size w (.slice ad n cap) L)) :
    Calls Try.prog 90 #[.slice ad n cap, .int .i64 r] w fun e w' => e = .returned (.bool (rightB L && hasB L r)) ∧ Below w.heap.size w w' := by
  have hr1 := right25 L ad n cap w hn.out hS2 hl.out
  cases hr : rightB L
  · rw [hr] at hr1
    clear hr
    go_enter Try.func90, Try.ntmps90
    go_wp2_with (go_at_call 76; refine hr1.mono ?_; rintro e w1 ⟨rfl, hb1⟩)
    go_ret
    exact ⟨rfl, hb1⟩
  · rw [hr] at hr1
    have hlen := rightB_len hr
    rw [← hn.out] at hlen
    have HRB : Hid (rightB L = true) := hr
    clear hr
    go_enter Try.func90, Try.ntmps90
    go_wp2_with fail
    refine hr1.mono ?_
    rintro e w1 ⟨rfl, hb1⟩
    have hs1 := hb1.size
    have hb := bs49 L ad n cap r w1 hn (hl.out.below hb1 (Nat.le_refl _) hs1) hlen
    go_wp2_with fail
    refine hb.mono ?_
    rintro e w2 ⟨i, f, rfl, hb2, hin, h0, h1⟩
    have hbw := hb1.trans (hb2.mono hs1)
    have HE : Hid (hasB L r = (decide (i < n) && decide ((L.getD i (0, 0)).1 ≤ r))) := by
      show hasB L r = _
      have := has_search L r i HRB.out (by rw [← hn.out]; exact hin) h0 (by rw [← hn.out]; exact h1)
      rw [← hn.out] at this
      exact this
    clear h0 h1
    by_cases hlt : i < n
    · obtain ⟨ad', cap', he, h | ⟨b, off, rfl, hbN, hc0, hc1⟩⟩ := hl.out
      · exact absurd h (by rw [← hn.out]; omega)
      · have hn' := hn.out
        simp only [Value.slice.injEq] at he
        obtain ⟨rfl, -, rfl⟩ := he
        have d0 := (hbw.cell (p := ⟨b, off + i * 2, none⟩) hbN).trans (hc0 i (by omega))
        have d1 := (hbw.cell (p := ⟨b, off + i * 2 + 1, none⟩) hbN).trans (hc1 i (by omega))
        have hE := HE.out
        generalize L.getD i (0, 0) = g at d0 d1 hE
        obtain ⟨lo, hi⟩ := g
        simp only at d0 d1 hE
        have HE2 : Hid ((true && hasB L r) = decide (lo ≤ r)) := by show _ = _; rw [hE]; simp [hlt]
        clear hE HE hc0 hc1 hn'
        go_wp2
        go_ret
        exact ⟨ret_bool HE2.out.symm, hbw⟩
    · have HE2 : Hid ((true && hasB L r) = false) := by show _ = _; rw [HE.out]; simp [hlt]
      go_wp2
      go_ret
      exact ⟨ret_bool HE2.out.symm, hbw⟩
end Go.Proofs.Ytnpocciioedgpaa
