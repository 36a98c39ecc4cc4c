/- HELPERS: ways in order; a loop's next round. -/
import Derived.Test.YtnpocciioedgpaaWn
namespace Go.Proofs.Ytnpocciioedgpaa
open Go.RowKit
set_option linter.unusedVariables false
set_option linter.unusedSimpArgs false
set_option maxRecDepth 100000 in
set_option maxHeartbeats 2000000 in
theorem again110 (b : Nat) (v : Value) (p : Nat) (w : World) (hb : Bx w b 84 v) (R : World → Prop) (hQ : CallsV v p w fun e w2 => e = .returned (.tuple #[]) ∧ R w2) :
    Calls Try.prog 110 #[.int .i64 (p : Int), pt b] w fun e w2 => e = .returned (.tuple #[]) ∧ R w2 := by
  have c0 := bx0 hb
  clear hb
  obtain ⟨f, fi, ca, rfl, hcf, hC⟩ := hQ
  go_enter Try.func110, Try.ntmps110
  go_wp2_with ((with_reducible refine hC.mono ?_); rintro e w2 ⟨rfl, hR⟩)
  go_end0
  exact ⟨rfl, hR⟩
theorem Reps.len {g K : Nat} {L : List Nat} {w : World} {vs : List Value} {l : List Way} {F : List Nat} (h : Reps g K L w vs l F) : vs.length = l.length := by
  induction l generalizing vs F with
  | nil => cases h; rfl
  | cons d l ih => cases h with | cons h hs => simp [ih hs]
theorem Reps.get {g K : Nat} {L : List Nat} {w : World} : ∀ {l : List Way} {vs : List Value} {F : List Nat}, Reps g K L w vs l F → ∀ (i : Nat) (hi : i < l.length), ∃ v Fi, vs[i]? = some v ∧ Rep g K L w v (l[i]'hi) Fi ∧ ∀ k ∈ Fi, k ∈ F := by
  intro l
  induction l with
  | nil => intro vs F h i hi; simp at hi
  | cons d l ih =>
    intro vs F h i hi
    cases h with
    | @cons v vs _ _ F1 G1 h1 h2 =>
      cases i with
      | zero => exact ⟨v, F1, rfl, h1, fun k hk => List.mem_append_left _ hk⟩
      | succ i =>
        obtain ⟨u, Fi, q1, q2, q3⟩ := ih h2 i (by simpa using hi)
        exact ⟨u, Fi, by simpa using q1, q2, fun k hk => List.mem_append_right _ (q3 k hk)⟩
theorem row_cap2 {w : World} {base e n b cap : Nat} {xs : List Value} (h : w.ownsRow base e 1 (.slice (some ⟨b, 0, none⟩) n cap) n xs) : n ≤ cap := by
  rcases h.2 with ⟨h, _⟩ | ⟨g, cap', cur, he, hb, hgg, h1, h2, h3, h4⟩
  · cases h
  · simp only [Value.slice.injEq, Option.some.injEq, Addr.mk.injEq] at he
    obtain ⟨⟨rfl, _⟩, _, rfl⟩ := he
    omega
set_option maxRecDepth 100000 in
set_option maxHeartbeats 2000000 in
theorem inOrder109 (N N0 g : Nat) (C : Cx) (ss : Nat → Sg) (B : List Nat) (w : World) (hW : Hid (WS N w g C (ss 0) B)) (b1 n : Nat) (sv : Value) (vs : List Value) (p : Nat) (h1 : Bx w b1 124 sv) (hs : w.ownsRow N0 84 1 sv n vs)
    (hB1 : b1 ∉ B) (hBs : ∀ k, sv.ownBlock = some k → k ∉ B) (hvl : vs.length = n)
    (hQ : Hid (∀ i v w' B', i < n → vs[i]? = some v → WS N w' g C (ss i) B' → Chg w w' B B' → CallsV v p w' fun e w2 => e = .returned (.tuple #[]) ∧ ∃ B2, WS N w2 g C (ss (i + 1)) B2 ∧ Chg w' w2 B' B2)) :
    Calls Try.prog 109 #[.int .i64 (p : Int), pt b1] w fun e w2 => e = .returned (.tuple #[]) ∧ ∃ B', WS N w2 g C (ss n) B' ∧ Chg w w2 B B' := by
  have c0 := bx0 h1
  have kn : n ≤ 9223372036854775807 := by
    rcases hs.2 with ⟨_, h⟩ | ⟨g, cap, cur, he, h1, h2, h3, h4, h5, h6⟩
    · omega
    · unfold maxLen at h4
      omega
  obtain ⟨s1, s3, rfl⟩ : ∃ s1 s3, sv = .slice s1 n s3 := by
    rcases Joins.ownsRow_forms hs with ⟨rfl, h⟩ | ⟨b, cap, rfl⟩
    · exact ⟨none, 0, by rw [h]⟩
    · exact ⟨_, _, rfl⟩
  have HS := hid hs
  have HBs := hid hBs
  have HVL := hid hvl
  clear hs h1 hBs hvl
  go_enter Try.func109, Try.ntmps109
  go_wp2_with fail
  go_loopw [7] (fun x wq => ∃ i : Nat, x = .int .i64 (i : Int) ∧ i ≤ n ∧ Hid (∃ B', WS N wq g C (ss i) B' ∧ Chg w wq B B')) (fun x _ => n - (intOf x).toNat)
  case atStart => exact ⟨0, rfl, by omega, by exact ⟨B, hW.out, Chg.refl w B⟩⟩
  case round =>
    obtain ⟨i, rfl, hi, HI⟩ := hrel
    obtain ⟨B', hWi, hCi⟩ := HI.out
    clear HI
    by_cases hil : i < n
    · have b1 : decide ((i : Int) < (n : Int)) = true := by simp; omega
      have b2 : (i : Int) < (n : Int) := by omega
      obtain ⟨b, rfl⟩ : ∃ b, s1 = some ⟨b, 0, none⟩ := by
        rcases HS.out.2 with ⟨_, h⟩ | ⟨g, cap, cur, he, _⟩
        · omega
        · simp only [Value.slice.injEq] at he
          exact ⟨g, he.1⟩
      obtain ⟨v, hv⟩ : ∃ v, vs[i]? = some v := ⟨vs[i]'(by rw [HVL.out]; exact hil), List.getElem?_eq_getElem _⟩
      have hrow : wr.ownsRow N0 84 1 (.slice (some ⟨b, 0, none⟩) n s3) n vs := hCi.row HS.out HBs.out
      have hcap : n ≤ s3 := row_cap2 hrow
      have n0 : wr.cell? ⟨b, i, none⟩ = some v := (hrow.cellAt i (by omega)).trans hv
      obtain ⟨f, fi, ca, rfl, hcf, hC⟩ := hQ.out i v wr B' hil hv hWi hCi
      have ad1 : IntKind.i64.wrap ((i : Int) + 1) = (i : Int) + 1 := by simp [IntKind.wrap, IntKind.bits, IntKind.signed]; omega
      have HCi := hid hCi
      clear hrow hWi hCi hv
      go_wp2_with ((with_reducible refine hC.mono ?_); rintro e w2 ⟨rfl, B2, hW2, hC2⟩; have HW2 := hid hW2; have HC2 := hid hC2; clear hC hW2 hC2)
      refine ⟨⟨i + 1, by push_cast; rfl, by omega, by exact ⟨B2, HW2.out, HCi.out.trans HC2.out⟩⟩, ?_⟩
      simp [intOf]
      omega
    · have b1 : decide ((i : Int) < (n : Int)) = false := by simp; omega
      obtain rfl : i = n := by omega
      have HE : Hid (∃ B', WS N wr g C (ss i) B' ∧ Chg w wr B B') := ⟨B', hWi, hCi⟩
      clear hWi hCi
      go_wp2
      go_end0
      exact ⟨rfl, HE.out⟩
end Go.Proofs.Ytnpocciioedgpaa
