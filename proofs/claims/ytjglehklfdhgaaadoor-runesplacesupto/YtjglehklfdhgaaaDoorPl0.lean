/- HELPERS: the walk of RunesPlaces, no bytes. -/
import Derived.Test.YtjglehklfdhgaaaDoorPlL
namespace Go.Proofs.YtjglehklfdhgaaaDoor
open Go.RowKit Go.Mx
set_option linter.unusedVariables false
set_option linter.unusedSimpArgs false
theorem cut_nil (ad : Option Addr) (cap : Nat) (w : World) : Calls Tryd.prog 13 #[.slice ad 0 cap] w fun e w' => ∃ g2, w.heap.size < g2 ∧ e = .returned (.tuple #[.slice (some ⟨w.heap.size, 0, none⟩) 0 0, .slice (some ⟨g2, 0, none⟩) 1 1]) ∧ w'.cell? ⟨g2, 0, none⟩ = some (.int .i64 0) ∧ Below w.heap.size w w' := by
  refine (cut_zero ad cap w).mono ?_
  rintro e w' ⟨g2, hg, he, _, ho, hb⟩
  exact ⟨g2, hg, he, ho.cellAt 0 (by decide), hb⟩
theorem ints_nil (w : World) (ad : Option Addr) (c : Nat) : IntsC w (.slice ad 0 c) [] := ⟨ad, c, rfl, .inl rfl⟩
set_option maxHeartbeats 4000000 in
set_option maxRecDepth 1000000 in
theorem places_zero (ad : Option Addr) (cap : Nat) (at' : Int) (w : World) (hc2 : cap ≤ 1048576) (hT : Hid (Tabs w)) (h2 : 2 ≤ w.heap.size)
    (ha1 : -9223372036854775808 ≤ at') (ha2 : at' ≤ 9223372036854775807) :
    Calls Tryd.prog 8 #[.slice ad 0 cap, .int .i64 at'] w fun e w' => e = .returned (.bool true) ∧ Below w.heap.size w w' := by
  have haw := awake9 w hT h2
  go_enter Tryd.func8, Tryd.ntmps8
  go_wp2_with (go_at_call 9; refine haw.mono ?_; rintro e w1 ⟨rfl, hb1⟩)
  have hs1 := hb1.size
  refine (cut_nil _ _ _).mono ?_
  rintro e w2 ⟨g2, hg2, rfl, c2, hb2⟩
  have hbw2 := hb1.trans (hb2.mono hs1)
  have hs2 := hb2.size
  have hg2l := cell_lt c2
  clear haw hb1
  go_wp2
  refine wp_loop_rounds 1 ?_
  rw [rounds_succ]
  by_cases hat : at' < 0
  all_goals go_wp2_with fail
  all_goals refine (cut_nil _ _ _).mono ?_
  all_goals rintro e w3 ⟨g3, hg3, rfl, c3, hb3⟩
  all_goals have hbw3 := hbw2.trans (hb3.mono (by omega))
  all_goals have hs3 := hb3.size
  all_goals have c2' := (hb3.cell (p := ⟨g2, 0, none⟩) hg2l).trans c2
  all_goals by_cases hcz : cap = 0
  all_goals try subst hcz
  all_goals go_wp2_with fail
  all_goals refine (cut_nil _ _ _).mono ?_
  all_goals rintro e w4 ⟨g4, hg4, rfl, c4, hb4⟩
  all_goals have hbw4 := hbw3.trans (hb4.mono (by omega))
  all_goals have hs4 := hb4.size
  all_goals go_wp2_with fail
  all_goals refine (same_true [] _ _ w4 (ints_nil _ _ _) (ints_nil _ _ _) (by simp)).mono ?_
  all_goals rintro e w5 ⟨rfl, q5, rfl⟩
  all_goals go_wp2_with fail
  all_goals refine (same_true [] _ _ (w4.drewN q5) (ints_nil _ _ _) (ints_nil _ _ _) (by simp)).mono ?_
  all_goals rintro e w6 ⟨rfl, q6, rfl⟩
  all_goals have hT6 : Tabs (w4.drewN (q5 + q6)) := tabs_drewN (hT.out.below hbw4 h2) (q5 + q6)
  all_goals have hbw6 : Below w.heap.size w (w4.drewN (q5 + q6)) := below_drewN hbw4 (q5 + q6)
  all_goals have hsz6 : w2.heap.size ≤ (w4.drewN (q5 + q6)).heap.size := by simp; omega
  all_goals have henc := encode_ok [] _ (some ⟨w1.heap.size, 0, none⟩) 0 0 (w4.drewN (q5 + q6)) rfl rfl (by omega) ⟨_, 0, rfl, by simp, by omega, .inl rfl⟩ hT6 (by omega) rfl
  all_goals go_wp2_with fail
  all_goals refine henc.mono ?_
  all_goals rintro e w7 ⟨g6, cp6, rfl, hBA, hb7⟩
  all_goals have hbw7 := hbw6.trans (hb7.mono (by omega))
  all_goals have hs7 := hb7.size
  all_goals have hcb := cut_back [] g6 cp6 _ w7 rfl (by simp) rfl hBA (hT6.below hb7 (by omega)) (by omega)
  all_goals clear henc hBA
  all_goals go_wp2_with fail
  all_goals refine hcb.mono ?_
  all_goals rintro e w8 ⟨v1, v2, rfl, hI8, hb8⟩
  all_goals have hbw8 := hbw7.trans (hb8.mono (by omega))
  all_goals have hsm := same_true [] v1 (.slice (some ⟨w1.heap.size, 0, none⟩) 0 0) w8 hI8 (ints_nil _ _ _) (by simp)
  all_goals clear hcb hI8
  all_goals go_wp2_with fail
  all_goals refine hsm.mono ?_
  all_goals rintro e w9 ⟨rfl, q9, rfl⟩
  all_goals go_wp2
  all_goals go_ret
  all_goals exact ⟨rfl, below_drewN hbw8 _⟩
end Go.Proofs.YtjglehklfdhgaaaDoor
