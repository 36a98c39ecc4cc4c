/- HELPERS: the walk of LookBeside: one of its ways. -/
import Derived.Test.YtoicnhcajhgbeaaBsL
namespace Go.Proofs.Ytoicnhcajhgbeaa
open Go.RowKit Go.Lk
set_option linter.unusedVariables false
set_option linter.unusedSimpArgs false
set_option maxHeartbeats 4000000 in
set_option maxRecDepth 1000000 in
theorem beside_00 (l m : List Int) (ad ao : Option Addr) (n cap no co p : Nat) (w0 : World) (hT : Hid (TextAt w0.heap.size w0 ad n l)) (hO : Hid (TextAt w0.heap.size w0 ao no m)) (hn2 : Hid (ao = none → co = 0))
    (hm1 : n ≤ 1048576) (hm2 : no ≤ 1048576) (hp1 : p = 0) (hp2 : p = n) :
    Calls Try.prog 5 #[.slice ad n cap, .int .i64 p, .slice ao no co] w0 fun e w' => e = .returned (.bool true) ∧ Below w0.heap.size w0 w' := by
  have HN : Hid (n = l.length) := hT.out.1
  have HM : Hid (no = m.length) := hO.out.1
  have haw := awake8 w0
  have hbeg : begB p = true := by unfold begB; simp; try omega
  have hend : endB l p = true := by unfold endB; rw [← HN.out]; simp; omega
  have hbl : blB l p = true := by unfold blB; simp [hp1]
  have hel : elB l p = true := by unfold elB; rw [← HN.out]; simp [hp2]
  have hat := fun w' (hT : TextAt w'.heap.size w' ad n l) => at10 l ad n cap p w' hT
  rw [atN_of l p (by rw [← HN.out]; omega)] at hat
  obtain ⟨s1, s2, s3, s4, s5, s6⟩ := has_sum (begB p) (endB l p) (blB l p) (elB l p) (edgeB l p)
  have hAe : sumB (begB p) (endB l p) (blB l p) (elB l p) (edgeB l p) 6 = atP l p := rfl
  rw [hAe] at s1 s2 s3 s4 s5 s6
  rw [hbeg] at s1
  rw [hend] at s2
  rw [hbl] at s3
  clear hbl
  rw [hel] at s4
  clear hel
  clear hAe hbeg hend
  have HE : Hid (atP l p = atP ([] ++ []) ([] : List Int).length) := by
    show _ = _
    have hnl := HN.out
    refine beside_eq l [] [] p (by omega) (by simp; try omega) (by simp; try omega) ?_ ?_
    · intro h
      omega
    · intro h
      omega
  generalize atP l p = A at hat HE s1 s2 s3 s4 s5 s6
  generalize edgeB l p = b5 at s5 s6
  have f0 := fun w => holdS 0 (by omega) A 1 rfl _ s1 w
  have f1 := fun w => holdS 1 (by omega) A 2 rfl _ s2 w
  have f2 := fun w => holdS 2 (by omega) A 4 rfl _ s3 w
  have f3 := fun w => holdS 3 (by omega) A 8 rfl _ s4 w
  have f4 := fun w => holdS 4 (by omega) A 16 rfl _ s5 w
  have f5 := fun w => holdS 5 (by omega) A 32 rfl _ s6 w
  clear s1 s2 s3 s4 s5 s6
  have hbb : (b5 == !b5) = false := by cases b5 <;> rfl
  have g1 : ¬ (p : Int) < 0 := by omega
  have g2 : ¬ (n : Int) < (p : Int) := by omega
  have g3 : ((p : Int) == 0) = true := by simp; omega
  have g4 : ((p : Int) == (n : Int)) = true := by simp; omega
  have g5 : ¬ 1 < (p : Int) := by omega
  have g6 : ¬ 0 < (p : Int) := by omega
  have g7 : ¬ (p : Int) < (n : Int) := by omega
  have g8 : ¬ (p : Int) + 1 < (n : Int) := by omega
  have HP1 : Hid (p ≤ n) := by show _ ≤ _; omega
  clear hp1 hp2
  go_enter Try.func5, Try.ntmps5
  go_wp2_with fail
  refine haw.mono ?_
  rintro e w ⟨rfl, hb0⟩
  go_wp2_with fail
  refine (hat w ((hT.out.below hb0).mono hb0.size)).mono ?_
  rintro e w1 ⟨rfl, hb1⟩
  have hB1 : Below w0.heap.size w0 w1 := hb0.trans (hb1.mono hb0.size)
  have hs1 := hB1.size
  have HT1 : Hid (TextAt w0.heap.size w1 ad n l) := hT.out.below hB1
  have HO1 : Hid (TextAt w0.heap.size w1 ao no m) := hO.out.below hB1
  clear hb0 hb1 haw hat hT hO
  go_wp2_with fail
  refine (f4 _).mono ?_
  rintro e w' ⟨rfl, rfl⟩
  go_wp2_with fail
  refine (f5 _).mono ?_
  rintro e w1 ⟨rfl, rfl⟩
  go_wp2_with fail
  refine (f0 _).mono ?_
  rintro e w' ⟨rfl, rfl⟩
  go_wp2_with fail
  refine (f2 _).mono ?_
  rintro e w1 ⟨rfl, rfl⟩
  go_wp2_with fail
  refine (f1 _).mono ?_
  rintro e w' ⟨rfl, rfl⟩
  go_wp2_with fail
  refine (f3 _).mono ?_
  rintro e w1 ⟨rfl, rfl⟩
  clear f0 f1 f2 f3 f4 f5
  have hfin := at10 [] none 0 0 0 w1 ⟨rfl, by omega, .inl rfl⟩
  have hE := HE.out
  simp only [List.append_nil, List.length_nil] at hE
  have e0 : atN [] 0 = atP [] 0 := atN_of [] 0 (by simp)
  rw [e0, ← hE] at hfin
  clear hE e0
  go_wp2_with fail
  refine hfin.mono ?_
  rintro e w9 ⟨rfl, hb9⟩
  go_wp2
  go_ret
  exact ⟨by first | rfl | simp, hB1.trans (hb9.mono hs1)⟩
end Go.Proofs.Ytoicnhcajhgbeaa
