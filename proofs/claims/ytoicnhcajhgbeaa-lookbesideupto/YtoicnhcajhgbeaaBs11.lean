/- HELPERS: the walk of LookBeside: one of its ways. -/
import Derived.Test.YtoicnhcajhgbeaaBsL
namespace Go.Proofs.Ytoicnhcajhgbeaa
open Go.RowKit Go.Lk
set_option linter.unusedVariables false
set_option linter.unusedSimpArgs false
set_option maxHeartbeats 4000000 in
set_option maxRecDepth 1000000 in
theorem beside_11 (l m : List Int) (ad ao : Option Addr) (n cap no co p : Nat) (w0 : World) (hT : Hid (TextAt w0.heap.size w0 ad n l)) (hO : Hid (TextAt w0.heap.size w0 ao no m)) (hn2 : Hid (ao = none → co = 0))
    (hm1 : n ≤ 1048576) (hm2 : no ≤ 1048576) (hp1 : p = 1) (hp2 : p + 1 = n) :
    Calls Try.prog 5 #[.slice ad n cap, .int .i64 p, .slice ao no co] w0 fun e w' => e = .returned (.bool true) ∧ Below w0.heap.size w0 w' := by
  have HN : Hid (n = l.length) := hT.out.1
  have HM : Hid (no = m.length) := hO.out.1
  have haw := awake8 w0
  have hbeg : begB p = false := by unfold begB; simp; try omega
  have hend : endB l p = false := by unfold endB; rw [← HN.out]; simp; omega
  have hat := fun w' (hT : TextAt w'.heap.size w' ad n l) => at10 l ad n cap p w' hT
  rw [atN_of l p (by rw [← HN.out]; omega)] at hat
  obtain ⟨s1, s2, s3, s4, s5, s6⟩ := has_sum (begB p) (endB l p) (blB l p) (elB l p) (edgeB l p)
  have hAe : sumB (begB p) (endB l p) (blB l p) (elB l p) (edgeB l p) 6 = atP l p := rfl
  rw [hAe] at s1 s2 s3 s4 s5 s6
  rw [hbeg] at s1
  rw [hend] at s2
  clear hAe hbeg hend
  obtain ⟨x, hx⟩ : ∃ x, x = l.getD (p - 1) 0 := ⟨_, rfl⟩
  have HX : Hid (l.getD (p - 1) 0 = x) := hx.symm
  clear hx
  obtain ⟨y, hy⟩ : ∃ y, y = l.getD p 0 := ⟨_, rfl⟩
  have HY : Hid (l.getD p 0 = y) := hy.symm
  clear hy
  have HE : Hid (atP l p = atP ([x] ++ [y]) ([x] : List Int).length) := by
    show _ = _
    have hnl := HN.out
    refine beside_eq l [x] [y] p (by omega) (by simp; try omega) (by simp; try omega) ?_ ?_
    · intro h
      rw [HX.out]; simp
    · intro h
      rw [HY.out]; rfl
  generalize atP l p = A at hat HE s1 s2 s3 s4 s5 s6
  generalize blB l p = b3 at s3
  generalize elB l p = b4 at s4
  generalize edgeB l p = b5 at s5 s6
  have f0 := fun w => holdS 0 (by omega) A 1 rfl _ s1 w
  have f1 := fun w => holdS 1 (by omega) A 2 rfl _ s2 w
  have f2 := fun w => holdS 2 (by omega) A 4 rfl _ s3 w
  have f3 := fun w => holdS 3 (by omega) A 8 rfl _ s4 w
  have f4 := fun w => holdS 4 (by omega) A 16 rfl _ s5 w
  have f5 := fun w => holdS 5 (by omega) A 32 rfl _ s6 w
  clear s1 s2 s3 s4 s5 s6
  have hbb : (b5 == !b5) = false := by cases b5 <;> rfl
  have g1 : ¬ (p : Int) < 0 := by omega
  have g2 : ¬ (n : Int) < (p : Int) := by omega
  have g3 : ((p : Int) == 0) = false := by simp; omega
  have g4 : ((p : Int) == (n : Int)) = false := by simp; omega
  have g5 : ¬ 1 < (p : Int) := by omega
  have g6 : 0 < (p : Int) := by omega
  have g7 : (p : Int) < (n : Int) := by omega
  have g8 : ¬ (p : Int) + 1 < (n : Int) := by omega
  have HP1 : Hid (p ≤ n) := by show _ ≤ _; omega
  clear hp1 hp2
  go_enter Try.func5, Try.ntmps5
  go_wp2_with fail
  refine haw.mono ?_
  rintro e w ⟨rfl, hb0⟩
  go_wp2_with fail
  refine (hat w ((hT.out.below hb0).mono hb0.size)).mono ?_
  rintro e w1 ⟨rfl, hb1⟩
  have hB1 : Below w0.heap.size w0 w1 := hb0.trans (hb1.mono hb0.size)
  have hs1 := hB1.size
  have HT1 : Hid (TextAt w0.heap.size w1 ad n l) := hT.out.below hB1
  have HO1 : Hid (TextAt w0.heap.size w1 ao no m) := hO.out.below hB1
  clear hb0 hb1 haw hat hT hO
  go_wp2_with fail
  refine (f4 _).mono ?_
  rintro e w' ⟨rfl, rfl⟩
  go_wp2_with fail
  refine (f5 _).mono ?_
  rintro e w1 ⟨rfl, rfl⟩
  go_wp2_with fail
  refine (f0 _).mono ?_
  rintro e w' ⟨rfl, rfl⟩
  go_wp2_with fail
  refine (f2 _).mono ?_
  rintro e w1 ⟨rfl, rfl⟩
  go_wp2_with fail
  refine (f1 _).mono ?_
  rintro e w' ⟨rfl, rfl⟩
  go_wp2_with fail
  refine (f3 _).mono ?_
  rintro e w1 ⟨rfl, rfl⟩
  clear f0 f1 f2 f3 f4 f5
  obtain ⟨hn'2, hm'2, hcc2⟩ := HT1.out
  obtain ⟨b2, off2, hadd2, hbN2, hc2⟩ := hcc2.resolve_left (by omega)
  have d2 : w1.cell? ⟨b2, off2 + (p - 1), none⟩ = some (.int .i64 x) := by
    rw [← HX.out]
    exact hc2 ((p - 1)) (by omega)
  clear hn'2 hm'2 hc2 hcc2
  subst hadd2
  go_wp2_with (refine wpList_append_one rfl (.tmp 90) (.tmp 96) rfl w1.heap.size _ (0) [] rfl (World.ownsRow_nil _ _ _ _) x rfl (by omega) (Nat.le_refl _) w1 (Below.refl _ _) ?_)
  intro v2 w2 ho2 hBx2
  have hs2 := hBx2.size
  have HO2x : Hid (w2.ownsRow w1.heap.size 3 1 v2 (1) (I64 [x])) := by
    show w2.ownsRow w1.heap.size 3 1 v2 (1) (I64 [x])
    have := ho2.out
    simpa [I64] using this
  clear ho2
  have hlen2 : Hid (1 = ([x] : List Int).length) := by show _ = _; simp <;> (have := HM.out; omega)
  obtain ⟨ad2, cap2, hv2, -⟩ := text_own hlen2.out (by omega) HO2x.out
  subst hv2
  obtain ⟨hn'3, hm'3, hcc3⟩ := HT1.out
  obtain ⟨b3, off3, hadd3, hbN3, hc3⟩ := hcc3.resolve_left (by omega)
  have d3 : w2.cell? ⟨b3, off3 + p, none⟩ = some (.int .i64 y) := by
    rw [← HY.out]
    exact (hBx2.cell (p := ⟨b3, off3 + p, none⟩) (by show b3 < w1.heap.size; omega)).trans (hc3 (p) (by omega))
  clear hn'3 hm'3 hc3 hcc3
  simp only [Option.some.injEq, Addr.mk.injEq, and_true] at hadd3
  obtain ⟨rfl, rfl⟩ := hadd3
  go_wp2_with (refine wpList_append_one rfl (.tmp 104) (.tmp 109) rfl w1.heap.size _ (1) [x] rfl HO2x.out y rfl (by omega) hs2 w1 hBx2 ?_)
  intro v3 w3 ho3 hBx3
  have hs3 := hBx3.size
  have HO3x : Hid (w3.ownsRow w1.heap.size 3 1 v3 (1 + 1) (I64 ([x] ++ [y]))) := by
    show w3.ownsRow w1.heap.size 3 1 v3 (1 + 1) (I64 ([x] ++ [y]))
    have := ho3.out
    simpa [I64] using this
  clear ho3
  have hlen3 : Hid (1 + 1 = (([x] ++ [y]) : List Int).length) := by show _ = _; simp <;> (have := HM.out; omega)
  obtain ⟨ad3, cap3, hv3, hTx⟩ := text_own hlen3.out (by omega) HO3x.out
  subst hv3
  have hfin := at10 ([x] ++ [y]) ad3 (1 + 1) cap3 ((1 : Nat) : Int) w3 hTx
  have hE := HE.out
  have hEe : [x] ++ [y] = ([x] ++ [y]) := by simp
  have hEl : ([x] : List Int).length = 1 := by simp <;> (have := HM.out; omega)
  rw [hEe, hEl] at hE
  rw [atN_of ([x] ++ [y]) (1) (by rw [← hlen3.out]; omega), ← hE] at hfin
  clear hE hEe hEl HE
  have HFB : Hid (Below w0.heap.size w0 w3) := hB1.trans (hBx3.mono hs1)
  rw [show (((1 : Nat)) : Int) = 1 by first | rfl | omega] at hfin
  go_wp2_with fail
  refine hfin.mono ?_
  rintro e w9 ⟨rfl, hb9⟩
  go_wp2
  go_ret
  exact ⟨by first | rfl | simp, HFB.out.trans (hb9.mono HFB.out.size)⟩
end Go.Proofs.Ytoicnhcajhgbeaa
