/- HELPERS: awake. -/
import Derived.Test.YtaoagcnbdfklnaaQc
namespace Go.Proofs.Ytaoagcnbdfklnaa
open Go.RowKit Go.Lk
set_option linter.unusedVariables false
set_option linter.unusedSimpArgs false
abbrev L4 : List In := [⟨3, 1, 0, 0, []⟩, ⟨1, 2, 0, 0, [(97, 97)]⟩, ⟨3, 3, 0, 1, []⟩, ⟨5, 0, 0, 0, []⟩]
theorem may4 : mayB L4 0 2 = true := by kernel_rfl
abbrev F4 (q1 : Option Addr) (q3 : Nat) : List Value := [.int .i64 3, .int .i64 1, .int .i64 0, .int .i64 0, .slice none 0 0, .int .i64 1, .int .i64 2, .int .i64 0, .int .i64 0, .slice q1 1 q3, .int .i64 3, .int .i64 3, .int .i64 0, .int .i64 1, .slice none 0 0, .int .i64 5, .int .i64 0, .int .i64 0, .int .i64 0, .slice none 0 0]
abbrev N4 (q1 : Option Addr) (q3 : Nat) : List Iv := [⟨3, 1, 0, 0, none, 0, 0⟩, ⟨1, 2, 0, 0, q1, 1, q3⟩, ⟨3, 3, 0, 1, none, 0, 0⟩, ⟨5, 0, 0, 0, none, 0, 0⟩]
theorem pi4 {w : World} {base : Nat} {z1 q1 : Option Addr} {c q3 : Nat} (h : w.ownsRow base 49 5 (.slice z1 4 c) 4 (F4 q1 q3)) (hq : RowAt w.heap.size w (.slice q1 1 q3) [(97, 97)]) : PI w w.heap.size z1 4 L4 := by
  refine ⟨rfl, fun _ => ?_⟩
  rcases h.2 with ⟨_, h0⟩ | ⟨b, cap, cur, e, _⟩
  · omega
  · simp only [Value.slice.injEq] at e
    have hb := (h.lt b (by rw [e.1]; rfl)).2
    rw [e.1] at h
    have hF : F4 q1 q3 = (N4 q1 q3).flatMap Iv.cs := by simp [F4, N4]
    refine ⟨b, 0, fun i => (N4 q1 q3).getD i default, e.1, hb, fun i hi => ⟨?_, ?_⟩⟩
    · have hi4 : i < (N4 q1 q3).length := by simpa using hi
      have f : ∀ k, k < 5 → w.cell? ⟨b, i * 5 + k, none⟩ = (Iv.cs (N4 q1 q3)[i])[k]? := fun k hk => by
        rw [h.cellAt (i * 5 + k) (by simp at hi; omega), hF, flat5 (N4 q1 q3) i k hi4 hk]
      have f0 := f 0 (by omega)
      rw [Nat.add_zero] at f0
      show I5 w b 0 i ((N4 q1 q3).getD i default)
      rw [show (N4 q1 q3).getD i default = (N4 q1 q3)[i] by simp only [List.getD_eq_getElem?_getD, List.getElem?_eq_getElem hi4, Option.getD_some]]
      unfold I5
      rw [Nat.zero_add]
      exact ⟨f0, f 1 (by omega), f 2 (by omega), f 3 (by omega), f 4 (by omega)⟩
    · have nil : ∀ a b c d : Int, IM w w.heap.size ⟨a, b, c, d, none, 0, 0⟩ ⟨a, b, c, d, []⟩ := fun a b c d => ⟨rfl, rfl, rfl, rfl, rfl, by show 0 * 16 ≤ _; omega, ⟨none, 0, rfl, .inl rfl⟩⟩
      match i, hi with
      | 0, _ => exact nil _ _ _ _
      | 1, _ => exact ⟨rfl, rfl, rfl, rfl, rfl, by show 1 * 16 ≤ _; omega, hq⟩
      | 2, _ => exact nil _ _ _ _
      | 3, _ => exact nil _ _ _ _
abbrev A4 (g : Nat) : Array Value := #[.int .i64 3, .int .i64 1, .int .i64 0, .int .i64 0, .slice none 0 0, .int .i64 1, .int .i64 2, .int .i64 0, .int .i64 0, .slice (some ⟨g, 0, none⟩) 1 1, .int .i64 3, .int .i64 3, .int .i64 0, .int .i64 1, .slice none 0 0, .int .i64 5, .int .i64 0, .int .i64 0, .int .i64 0, .slice none 0 0]
set_option maxRecDepth 100000 in
set_option maxHeartbeats 8000000 in
theorem letter20 (w : World) : Calls Try.prog 20 #[.int .i64 97] w fun e w' => ∃ g, e = .returned (pv (some ⟨g, 0, none⟩) 4 4 0 2) ∧ PI w' w'.heap.size (some ⟨g, 0, none⟩) 4 L4 ∧ Below w.heap.size w w' := by
  go_enter Try.func20, Try.ntmps20
  go_wp2
  obtain ⟨U, hU⟩ : ∃ U, U = (((w.alloc (.cells #[.slice (some ⟨w.heap.size + 1 + 1, 0, none⟩) 4 4, .int .i64 0, .int .i64 2] 27)).alloc (.cells #[.int .i64 97, .int .i64 97] 51)).alloc (.cells (A4 (w.heap.size + 1)) 49)) := ⟨_, rfl⟩
  rw [← hU]
  obtain ⟨h0, h1, h2, h3⟩ := three_new w (.cells #[.slice (some ⟨w.heap.size + 1 + 1, 0, none⟩) 4 4, .int .i64 0, .int .i64 2] 27) (.cells #[.int .i64 97, .int .i64 97] 51) (.cells (A4 (w.heap.size + 1)) 49)
  rw [← hU] at h0 h1 h2 h3
  refine bodyPost_ret (results_cell_row rfl _ _ w.heap.size 27 _ (0, 0) _ rfl h0 Try.underlying27 rfl (by kernel_rfl)) rfl ?_
  have hb : Below w.heap.size w U := ⟨by rw [hU]; rfl, by rw [hU]; rfl, by rw [hU]; rfl, by rw [hU]; simp; omega, h3⟩
  have hrow : U.ownsRow 0 49 5 (.slice (some ⟨w.heap.size + 1 + 1, 0, none⟩) 4 4) 4 (F4 (some ⟨w.heap.size + 1, 0, none⟩) 1) := by
    have h4 := World.ownsRow_lit (base := 0) (e := 49) (size := 5) ((w.alloc (.cells #[.slice (some ⟨w.heap.size + 1 + 1, 0, none⟩) 4 4, .int .i64 0, .int .i64 2] 27)).alloc (.cells #[.int .i64 97, .int .i64 97] 51)) (A4 (w.heap.size + 1)) 4 (Nat.zero_le _) (by unfold maxLen; omega) rfl
    rw [← hU] at h4
    rw [show ((w.alloc (.cells #[.slice (some ⟨w.heap.size + 1 + 1, 0, none⟩) 4 4, .int .i64 0, .int .i64 2] 27)).alloc (.cells #[.int .i64 97, .int .i64 97] 51)).heap.size = w.heap.size + 1 + 1 by simp] at h4
    exact h4
  have hlt : w.heap.size + 1 < U.heap.size := (Array.getElem?_eq_some_iff.1 h1).1
  have hr : RowAt U.heap.size U (.slice (some ⟨w.heap.size + 1, 0, none⟩) 1 1) [(97, 97)] :=
    ⟨some ⟨w.heap.size + 1, 0, none⟩, 1, rfl, .inr ⟨w.heap.size + 1, 0, rfl, hlt, fun k hk => by have : k = 0 := (by simpa using hk); subst this; exact Joins.cell_of_block h1 0, fun k hk => by have : k = 0 := (by simpa using hk); subst this; exact Joins.cell_of_block h1 1⟩⟩
  exact ⟨w.heap.size + 1 + 1, rfl, pi4 hrow hr, hb⟩
theorem lock4 : lockRun (prOf L4 [98, 97] 0 2) 2 0 false = (some (0, [1, 2]), 6) := by kernel_rfl
theorem awake_run {w2 : World} {g : Nat} (hp : PI w2 w2.heap.size (some ⟨g, 0, none⟩) 4 L4) : Calls Try.prog 10 #[pv (some ⟨g, 0, none⟩) 4 4 0 2, .slice (some ⟨w2.heap.size, 0, none⟩) 2 2, .int .i64 0, .bool false] (w2.alloc (.cells #[.int .i64 98, .int .i64 97] 3)) fun e w' => ∃ q, e = .returned (.tuple #[.agg #[.bool true, .slice (some ⟨q, 0, none⟩) 2 2, .int .i64 0, .int .i64 6], .int .i64 0]) ∧ w'.cell? ⟨q, 0, none⟩ = some (.int .i64 1) ∧ w'.cell? ⟨q, 1, none⟩ = some (.int .i64 2) ∧ q < w'.heap.size ∧ Below w2.heap.size w2 w' := by
  have hb := Joins.below_alloc1 w2 (.cells #[.int .i64 98, .int .i64 97] 3)
  have hn : (w2.alloc (.cells #[.int .i64 98, .int .i64 97] 3)).heap[w2.heap.size]? = some (.cells #[.int .i64 98, .int .i64 97] 3 (0, 0)) := heap_alloc_new w2 _
  have hT : TextAt (w2.alloc (.cells #[.int .i64 98, .int .i64 97] 3)).heap.size (w2.alloc (.cells #[.int .i64 98, .int .i64 97] 3)) (some ⟨w2.heap.size, 0, none⟩) 2 [98, 97] := ⟨rfl, by omega, .inr ⟨w2.heap.size, 0, rfl, (Array.getElem?_eq_some_iff.1 hn).1, fun k hk => by
    match k, hk with
    | 0, _ => exact Joins.cell_of_block hn 0
    | 1, _ => exact Joins.cell_of_block hn 1⟩⟩
  have hr := run10_ok (c := 4) (S := 0) (K := 2) (tc := 2) (a := 0) (anch := false) (hp.kept hb hb.size) may4 hT (by omega) (by omega)
  rw [show ([98, 97] : List Int).length = 2 from rfl, lock4] at hr
  refine hr.mono ?_
  rintro e w' ⟨h1, q, rfl, h2⟩
  refine ⟨q, rfl, ?_, ?_, (h2.lt q rfl).2, hb.trans (Joins.below_le h1 hb.size)⟩
  · exact h2.cellAt 0 (by omega)
  · exact h2.cellAt 1 (by omega)
set_option maxRecDepth 100000 in
set_option maxHeartbeats 8000000 in
theorem awake7 (w : World) : Calls Try.prog 7 #[] w fun e w' => e = .returned (.bool true) ∧ Below w.heap.size w w' := by
  have HL := letter20 w
  go_enter Try.func7, Try.ntmps7
  go_wp2_with (first | (go_at_call 20; (with_reducible refine HL.mono ?_); rintro e w2 ⟨g, rfl, hp, hb⟩; have HB := hid hb; have HR := awake_run hp; clear hp hb HL) | (go_at_call 10; (with_reducible refine HR.mono ?_); rintro e w3 ⟨q, rfl, q0, q1, hq, hb3⟩; have HB3 := hid hb3; clear hb3 HR))
  all_goals go_ret
  all_goals refine ⟨rfl, HB.out.trans (Joins.below_le ?_ HB.out.size)⟩
  all_goals exact HB3.out.trans (Joins.below_le (Joins.below_alloc1 w3 _) HB3.out.size)
theorem num8 (x : Int) (w : World) : Calls Try.prog 8 #[.int .i64 x] w fun e w' => e = .returned (.int .i64 x) ∧ w' = w := by
  go_enter Try.func8, Try.ntmps8
  go_wp2
  all_goals go_ret
  all_goals exact ⟨rfl, rfl⟩
set_option maxRecDepth 100000 in
set_option maxHeartbeats 4000000 in
theorem names3 (w : World) : Calls Try.prog 3 #[] w fun e w' => e = .returned (.bool true) ∧ Below w.heap.size w w' := by
  have HA := awake7 w
  have H1 := fun W => num8 1 W
  have H2 := fun W => num8 2 W
  have H3 := fun W => num8 90 W
  go_enter Try.func3, Try.ntmps3
  go_wp2_with (first | (go_at_call 7; (with_reducible refine HA.mono ?_); rintro e w2 ⟨rfl, hb⟩; have HB := hid hb; clear hb HA) | (go_at_call 8; (first | (with_reducible refine (H1 _).mono ?_) | (with_reducible refine (H2 _).mono ?_) | (with_reducible refine (H3 _).mono ?_)); rintro e w3 ⟨rfl, hw⟩; have hw' := hw.symm; clear hw; subst hw'))
  all_goals go_ret
  all_goals exact ⟨rfl, HB.out⟩
end Go.Proofs.Ytaoagcnbdfklnaa
