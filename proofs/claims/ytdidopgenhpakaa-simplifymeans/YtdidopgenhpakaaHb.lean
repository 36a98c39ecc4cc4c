/- HELPERS: awake. -/
import Derived.Test.YtdidopgenhpakaaHa
import Derived.Test.YtdidopgenhpakaaSq
namespace Go.Proofs.Ytdidopgenhpakaa
open Go.RowKit
set_option linter.unusedVariables false
set_option linter.unusedSimpArgs false
theorem ok0 : I64ok 0 := by decide
theorem ok2 : I64ok 2 := by decide
theorem ok4 : I64ok 4 := by decide
theorem ok6 : I64ok 6 := by decide
abbrev clsT (c : Int) : Tn := .mk 2 [(c, c)] 0 [] 0 0 false 0 ⟨#[]⟩
abbrev clsN (b : Nat) : Nv := ⟨2, some ⟨b, 0, none⟩, 1, 1, 0, none, 0, 0, 0, 0, false, 0, ⟨#[]⟩⟩
theorem cls_ti {w : World} {B b : Nat} {c : Int} (hc : I64ok c) (h : w.heap[b]? = some (.cells #[.int .i64 c, .int .i64 c] 63 (0, 0))) (hb : b < B) : TI w B (clsN b) (clsT c) := by
  have hm : (1 : Nat) ≤ maxLen := by unfold maxLen; omega
  refine .mk (N := clsN b) (R := [(c, c)]) (ts := []) (ND := fun _ => default) ⟨ok2, ok0, ok0, ok0, ok0, Nat.zero_le _, ⟨Nat.le_refl _, hm⟩, ⟨Nat.le_refl _, Nat.zero_le _⟩⟩ rfl (fun _ => ⟨b, 0, rfl, hb, fun i hi => ?_⟩) (by simpa using hc) rfl (fun h => by simp at h) (fun i hi => by simp at hi)
  have e : i = 0 := by simpa using hi
  subst e
  exact ⟨Joins.cell_of_block h 0, Joins.cell_of_block h 1⟩
abbrev oneN (b : Nat) (mn mx : Int) : Nv := ⟨6, none, 0, 0, 0, some ⟨b, 0, none⟩, 1, 1, mn, mx, false, 0, ⟨#[]⟩⟩
theorem one_ti {w : World} {B b : Nat} {M : Nv} {s : Tn} {mn mx : Int} (hM : TI w B M s) (h : BN w b M) (hb : b < B) (h1 : I64ok mn) (h2 : I64ok mx) : TI w B (oneN b mn mx) (.mk 6 [] 0 [s] mn mx false 0 ⟨#[]⟩) := by
  have hm : (1 : Nat) ≤ maxLen := by unfold maxLen; omega
  refine .mk (N := oneN b mn mx) (R := []) (ts := [s]) (ND := fun _ => M) ⟨ok6, ok0, h1, h2, ok0, Nat.zero_le _, ⟨Nat.le_refl _, Nat.zero_le _⟩, ⟨Nat.le_refl _, hm⟩⟩ rfl (fun h => absurd rfl h) (by simp) rfl (fun _ => ⟨b, 0, rfl, hb, fun i hi => ?_⟩) (fun i hi => ?_)
  · have e : i = 0 := by simpa using hi
    subst e
    obtain ⟨q0, q1, q2, q3, q4, q5, q6, q7, q8⟩ := nine' h
    exact ⟨q0, q1, q2, q3, q4, q5, q6, q7, q8⟩
  · have e : i = 0 := by simpa using hi
    subst e
    exact hM
abbrev twoN (b : Nat) : Nv := ⟨4, none, 0, 0, 0, some ⟨b, 0, none⟩, 2, 2, 0, 0, false, 0, ⟨#[]⟩⟩
theorem two_ti {w : World} {B b : Nat} {M M' : Nv} {s s' : Tn} (hM : TI w B M s) (hM' : TI w B M' s') (h : w.heap[b]? = some (.cells (M.cs ++ M'.cs).toArray 25 (0, 0))) (hb : b < B) : TI w B (twoN b) (.mk 4 [] 0 [s, s'] 0 0 false 0 ⟨#[]⟩) := by
  have hm : (2 : Nat) ≤ maxLen := by unfold maxLen; omega
  refine .mk (N := twoN b) (R := []) (ts := [s, s']) (ND := fun i => if i = 0 then M else M') ⟨ok4, ok0, ok0, ok0, ok0, Nat.zero_le _, ⟨Nat.le_refl _, Nat.zero_le _⟩, ⟨Nat.le_refl _, hm⟩⟩ rfl (fun h => absurd rfl h) (by simp) rfl (fun _ => ⟨b, 0, rfl, hb, fun i hi => ?_⟩) (fun i hi => ?_)
  · have e : i = 0 ∨ i = 1 := by simp at hi; omega
    rcases e with rfl | rfl
    · exact ⟨Joins.cell_of_block h 0, Joins.cell_of_block h 1, Joins.cell_of_block h 2, Joins.cell_of_block h 3, Joins.cell_of_block h 4, Joins.cell_of_block h 5, Joins.cell_of_block h 6, Joins.cell_of_block h 7, Joins.cell_of_block h 8⟩
    · exact ⟨Joins.cell_of_block h 9, Joins.cell_of_block h 10, Joins.cell_of_block h 11, Joins.cell_of_block h 12, Joins.cell_of_block h 13, Joins.cell_of_block h 14, Joins.cell_of_block h 15, Joins.cell_of_block h 16, Joins.cell_of_block h 17⟩
  · have e : i = 0 ∨ i = 1 := by simp at hi; omega
    rcases e with rfl | rfl
    · exact hM
    · exact hM'
abbrev aT : Tn := .mk 6 [] 0 [clsT 97] 1 2 false 0 ⟨#[]⟩
abbrev bT : Tn := .mk 4 [] 0 [clsT 97, .mk 6 [] 0 [clsT 97] 0 1 false 0 ⟨#[]⟩] 0 0 false 0 ⟨#[]⟩
theorem a_sound : aT.sound = true := by decide +kernel
theorem a_S : aT.S = bT := by rfl
theorem a_big : aT.bigS = false := by decide +kernel
theorem a_err : errS aT = 0 := by unfold errS; rw [a_sound, a_big]; rfl
theorem a_sim : simT aT = bT := by unfold simT; rw [a_err]; exact a_S
theorem a_size : sizeT aT = 4 := by unfold sizeT; rw [a_sound]; decide +kernel
theorem z_err : errS zeroT = 50 := by unfold errS; rw [show zeroT.sound = false by decide +kernel]; rfl
theorem z_ti (w : World) : TI w w.heap.size Zn zeroT := .mk (N := Zn) (R := []) (ts := []) (ND := fun _ => default) zn_ok rfl (fun h => absurd rfl h) (by simp) rfl (fun h => by simp at h) (fun i hi => by simp at hi)
set_option maxRecDepth 100000 in
set_option maxHeartbeats 4000000 in
theorem letter29 (w : World) : Calls Try.prog 29 #[.int .i64 97] w fun e w' => ∃ b, e = .returned (clsN b).v ∧ w'.heap[b]? = some (.cells #[.int .i64 97, .int .i64 97] 63 (0, 0)) ∧ w.heap.size ≤ b ∧ Below w.heap.size w w' := by
  go_enter Try.func29, Try.ntmps29
  go_wp2
  all_goals
    refine bodyPost_ret (results_cell_row rfl _ _ w.heap.size 25 _ (0, 0) _ rfl ((heap_alloc_old _ _ (by simp)).trans (heap_alloc_new w _)) Try.underlying25 rfl (by kernel_rfl)) rfl ?_
    exact ⟨w.heap.size + 1, rfl, two_new w _ _ _, by omega, below_two' w _ _⟩
set_option maxRecDepth 100000 in
set_option maxHeartbeats 8000000 in
theorem awake9 (w : World) : Calls Try.prog 9 #[] w fun e w' => e = .returned (.bool true) ∧ Below w.heap.size w w' := by
  have HC := letter29 w
  go_enter Try.func9, Try.ntmps9
  go_upto_region 2 with (first | (go_at_call 29; (with_reducible refine HC.mono ?_); rintro e w1 ⟨l1, rfl, hl1, hg1, hb1⟩; have HL1 := hid hl1; have HG1 := hid hg1; have HB1 := hid hb1; clear hl1 hg1 hb1 HC))
  obtain ⟨V1, hV1⟩ : ∃ V1, V1 = (w1.alloc (.cells #[.int .i64 2, .slice (some ⟨l1, 0, none⟩) 1 1, .int .i64 0, .slice none 0 0, .int .i64 0, .int .i64 0, .bool false, .int .i64 0, .string ⟨#[]⟩] 25)).alloc (.cells #[.int .i64 6, .slice none 0 0, .int .i64 0, .slice (some ⟨w1.heap.size, 0, none⟩) 1 1, .int .i64 1, .int .i64 2, .bool false, .int .i64 0, .string ⟨#[]⟩] 25) := ⟨_, rfl⟩
  rw [← hV1]
  have hVb : Below w1.heap.size w1 V1 := by rw [hV1]; exact below_two' w1 _ _
  have hVs : V1.heap.size = w1.heap.size + 2 := by rw [hV1]; simp
  have hn0 : BN V1 w1.heap.size (clsN l1) := by rw [hV1]; exact (heap_alloc_old _ _ (by simp)).trans (heap_alloc_new w1 _)
  have hn1 : BN V1 (w1.heap.size + 1) (oneN w1.heap.size 1 2) := by rw [hV1]; exact two_new w1 _ _ _
  have hl1 : l1 < w1.heap.size := (Array.getElem?_eq_some_iff.1 HL1.out).1
  have hT1 : TI V1 V1.heap.size (oneN w1.heap.size 1 2) aT := one_ti (cls_ti (by decide) ((hVb.block l1 hl1).trans HL1.out) (by omega)) hn0 (by omega) (by decide) (by decide)
  obtain ⟨x1, hx1⟩ : ∃ x1, x1 = w1.heap.size := ⟨_, rfl⟩
  rw [← hx1] at hn0 hn1 hT1 hVs ⊢
  have HC2 := letter29 V1
  have HT1 := hid hT1
  have HN1 := hid hn1
  have HVS := hid hVs
  have hbV1 : Below w.heap.size w V1 := HB1.out.trans (Joins.below_le hVb HB1.out.size)
  have HBV1 := hid hbV1
  clear hV1 hVb hVs hn0 hn1 hT1 hx1 hbV1 HL1 HG1 HB1 hl1
  go_upto_region 3 with (first | (go_at_call 29; (with_reducible refine HC2.mono ?_); rintro e w2 ⟨l2, rfl, hl2, hg2, hb2⟩; have HL2 := hid hl2; have HG2 := hid hg2; have HB2 := hid hb2; clear hl2 hg2 hb2 HC2))
  obtain ⟨V2, hV2⟩ : ∃ V2, V2 = (w2.alloc (.cells #[.int .i64 2, .slice (some ⟨l2, 0, none⟩) 1 1, .int .i64 0, .slice none 0 0, .int .i64 0, .int .i64 0, .bool false, .int .i64 0, .string ⟨#[]⟩] 25)).alloc (.cells #[.int .i64 6, .slice none 0 0, .int .i64 0, .slice (some ⟨w2.heap.size, 0, none⟩) 1 1, .int .i64 0, .int .i64 1, .bool false, .int .i64 0, .string ⟨#[]⟩] 25) := ⟨_, rfl⟩
  rw [← hV2]
  have hVb : Below w2.heap.size w2 V2 := by rw [hV2]; exact below_two' w2 _ _
  have hVs2 : V2.heap.size = w2.heap.size + 2 := by rw [hV2]; simp
  have hn0 : BN V2 w2.heap.size (clsN l2) := by rw [hV2]; exact (heap_alloc_old _ _ (by simp)).trans (heap_alloc_new w2 _)
  have hn1 : BN V2 (w2.heap.size + 1) (oneN w2.heap.size 0 1) := by rw [hV2]; exact two_new w2 _ _ _
  have hl2 : l2 < w2.heap.size := (Array.getElem?_eq_some_iff.1 HL2.out).1
  have hT2 : TI V2 V2.heap.size (oneN w2.heap.size 0 1) (.mk 6 [] 0 [clsT 97] 0 1 false 0 ⟨#[]⟩) := one_ti (cls_ti (by decide) ((hVb.block l2 hl2).trans HL2.out) (by omega)) hn0 (by omega) (by decide) (by decide)
  obtain ⟨x2, hx2⟩ : ∃ x2, x2 = w2.heap.size := ⟨_, rfl⟩
  rw [← hx2] at hn0 hn1 hT2 hVs2 ⊢
  have hb12 : Below V1.heap.size V1 V2 := HB2.out.trans (Joins.below_le hVb HB2.out.size)
  have hxx : V1.heap.size ≤ x2 := by rw [hx2]; exact HB2.out.size
  have hx1V : x1 + 1 < V1.heap.size := by have := HVS.out; omega
  have HT2 := hid hT2
  have HN2 := hid hn1
  have HVS2 := hid hVs2
  have HBV2 := hid (HBV1.out.trans (Joins.below_le hb12 HBV1.out.size))
  have HT1V := hid ((HT1.out.kept hb12.block).le hb12.size)
  have HN1V := hid ((hb12.block (x1 + 1) hx1V).trans HN1.out)
  have HC3 := simplify11 HT1V.out
  rw [a_err, a_sim] at HC3
  obtain ⟨q0, q1, q2, q3, q4, q5, q6, q7, q8⟩ := nine' HN1V.out
  clear hV2 hVb hVs2 hn0 hn1 hT2 hx2 hb12 HL2 HG2 HB2 hl2 HT1 HN1 HBV1
  go_upto_region 4 with (first | (go_at_call 11; (with_reducible refine HC3.mono ?_); rintro e w3 ⟨M, rfl, AA, hM, hAA, hb3⟩; have HM := hid hM; have HAA := hid hAA; have HB3 := hid hb3; clear hM hAA hb3 HC3))
  obtain ⟨V3, hV3⟩ : ∃ V3, V3 = w3.alloc (.cells #[.int .i64 M.k, .slice M.r1 M.r2 M.r3, .int .i64 M.a2, .slice M.s1 M.s2 M.s3, .int .i64 M.a4, .int .i64 M.a5, .bool M.a6, .int .i64 M.a7, .string M.a8] 25) := ⟨_, rfl⟩
  rw [← hV3]
  have hb33 : Below w3.heap.size w3 V3 := by rw [hV3]; exact Joins.below_alloc1 w3 _
  have hs3 : V3.heap.size = w3.heap.size + 1 := by rw [hV3]; simp
  have hn3 : BN V3 w3.heap.size M := by rw [hV3]; exact heap_alloc_new w3 _
  have hb23 : Below V2.heap.size V2 V3 := HB3.out.trans (Joins.below_le hb33 HB3.out.size)
  obtain ⟨x3, hx3⟩ : ∃ x3, x3 = w3.heap.size := ⟨_, rfl⟩
  rw [← hx3] at hn3 hs3 ⊢
  have hx23 : V2.heap.size ≤ x3 := by rw [hx3]; exact HB3.out.size
  have HM3 := hid (HM.out.ti.kept hb33.block)
  rw [← hx3] at HM3
  have HC4 := size12 ((HT1V.out.kept hb23.block).le hb23.size)
  rw [a_size] at HC4
  have HN3 := hid hn3
  have HBV3 := hid (HBV2.out.trans (Joins.below_le hb23 HBV2.out.size))
  have HT2V := hid ((HT2.out.kept hb23.block).le hb23.size)
  have hx12 : x1 + 1 < V2.heap.size := by have := HVS2.out; omega
  have hx22 : x2 + 1 < V2.heap.size := by have := HVS2.out; omega
  have HN2V := hid ((hb23.block (x2 + 1) hx22).trans HN2.out)
  have HN1W := hid ((hb23.block (x1 + 1) hx12).trans HN1V.out)
  have HS3 := hid hs3
  clear q0 q1 q2 q3 q4 q5 q6 q7 q8
  obtain ⟨q0, q1, q2, q3, q4, q5, q6, q7, q8⟩ := nine' HN1W.out
  clear hV3 hb33 hs3 hn3 hb23 hx3 HB3 HM HT2 HN2 HBV2 HT1V HN1V
  go_upto_region 5 with (first | (go_at_call 12; (with_reducible refine HC4.mono ?_); rintro e w4 ⟨rfl, hb4⟩; have HB4 := hid hb4; clear hb4 HC4))
  have HC5 := simplify11 (z_ti w4)
  rw [z_err] at HC5
  have hs4 : V3.heap.size ≤ w4.heap.size := HB4.out.size
  clear q0 q1 q2 q3 q4 q5 q6 q7 q8
  go_upto_region 6 with (first | (go_at_call 11; (with_reducible refine HC5.mono ?_); rintro e w5 ⟨Z, rfl, AZ, hZ, hAZ, hb5⟩; have HB5 := hid hb5; clear hZ hAZ hb5 HC5))
  obtain ⟨V5, hV5⟩ : ∃ V5, V5 = w5.alloc (.cells #[.int .i64 Z.k, .slice Z.r1 Z.r2 Z.r3, .int .i64 Z.a2, .slice Z.s1 Z.s2 Z.s3, .int .i64 Z.a4, .int .i64 Z.a5, .bool Z.a6, .int .i64 Z.a7, .string Z.a8] 25) := ⟨_, rfl⟩
  rw [← hV5]
  have hb55 : Below w5.heap.size w5 V5 := by rw [hV5]; exact Joins.below_alloc1 w5 _
  have hb35 : Below V3.heap.size V3 V5 := (HB4.out.trans (Joins.below_le HB5.out hs4)).trans (Joins.below_le hb55 (Nat.le_trans hs4 HB5.out.size))
  have HB35 := hid hb35
  clear hV5 hb55 hb35
  have hS : ∀ W6, Below V5.heap.size V5 W6 → W6.cell? ⟨x3, 0, none⟩ = some (.int .i64 M.k) ∧ W6.cell? ⟨x3, 1, none⟩ = some (.slice M.r1 M.r2 M.r3) ∧ W6.cell? ⟨x3, 2, none⟩ = some (.int .i64 M.a2) ∧ W6.cell? ⟨x3, 3, none⟩ = some (.slice M.s1 M.s2 M.s3) ∧ W6.cell? ⟨x3, 4, none⟩ = some (.int .i64 M.a4) ∧ W6.cell? ⟨x3, 5, none⟩ = some (.int .i64 M.a5) ∧ W6.cell? ⟨x3, 6, none⟩ = some (.bool M.a6) ∧ W6.cell? ⟨x3, 7, none⟩ = some (.int .i64 M.a7) ∧ W6.cell? ⟨x3, 8, none⟩ = some (.string M.a8) ∧ W6.cell? ⟨x2 + 1, 0, none⟩ = some (.int .i64 6) ∧ W6.cell? ⟨x2 + 1, 1, none⟩ = some (.slice none 0 0) ∧ W6.cell? ⟨x2 + 1, 2, none⟩ = some (.int .i64 0) ∧ W6.cell? ⟨x2 + 1, 3, none⟩ = some (.slice (some ⟨x2, 0, none⟩) 1 1) ∧ W6.cell? ⟨x2 + 1, 4, none⟩ = some (.int .i64 0) ∧ W6.cell? ⟨x2 + 1, 5, none⟩ = some (.int .i64 1) ∧ W6.cell? ⟨x2 + 1, 6, none⟩ = some (.bool false) ∧ W6.cell? ⟨x2 + 1, 7, none⟩ = some (.int .i64 0) ∧ W6.cell? ⟨x2 + 1, 8, none⟩ = some (.string ⟨#[]⟩) := fun W6 h6 => by
    have hb36 := HB35.out.trans (Joins.below_le h6 HB35.out.size)
    obtain ⟨q0, q1, q2, q3, q4, q5, q6, q7, q8⟩ := nine' ((hb36.block x3 (by have := HS3.out; omega)).trans HN3.out)
    obtain ⟨o0, o1, o2, o3, o4, o5, o6, o7, o8⟩ := nine' ((hb36.block (x2 + 1) (by have := HS3.out; omega)).trans HN2V.out)
    exact ⟨q0, q1, q2, q3, q4, q5, q6, q7, q8, o0, o1, o2, o3, o4, o5, o6, o7, o8⟩
  have HSS := hid hS
  have HC6 := letter29 V5.drew
  have HD := hid (below_drew V5)
  clear hS
  go_region_held2 (fun W6 => W6.cell? ⟨x3, 0, none⟩ = some (.int .i64 M.k) ∧ W6.cell? ⟨x3, 1, none⟩ = some (.slice M.r1 M.r2 M.r3) ∧ W6.cell? ⟨x3, 2, none⟩ = some (.int .i64 M.a2) ∧ W6.cell? ⟨x3, 3, none⟩ = some (.slice M.s1 M.s2 M.s3) ∧ W6.cell? ⟨x3, 4, none⟩ = some (.int .i64 M.a4) ∧ W6.cell? ⟨x3, 5, none⟩ = some (.int .i64 M.a5) ∧ W6.cell? ⟨x3, 6, none⟩ = some (.bool M.a6) ∧ W6.cell? ⟨x3, 7, none⟩ = some (.int .i64 M.a7) ∧ W6.cell? ⟨x3, 8, none⟩ = some (.string M.a8) ∧ W6.cell? ⟨x2 + 1, 0, none⟩ = some (.int .i64 6) ∧ W6.cell? ⟨x2 + 1, 1, none⟩ = some (.slice none 0 0) ∧ W6.cell? ⟨x2 + 1, 2, none⟩ = some (.int .i64 0) ∧ W6.cell? ⟨x2 + 1, 3, none⟩ = some (.slice (some ⟨x2, 0, none⟩) 1 1) ∧ W6.cell? ⟨x2 + 1, 4, none⟩ = some (.int .i64 0) ∧ W6.cell? ⟨x2 + 1, 5, none⟩ = some (.int .i64 1) ∧ W6.cell? ⟨x2 + 1, 6, none⟩ = some (.bool false) ∧ W6.cell? ⟨x2 + 1, 7, none⟩ = some (.int .i64 0) ∧ W6.cell? ⟨x2 + 1, 8, none⟩ = some (.string ⟨#[]⟩))
    (first | exact HSS.out _ HD.out | exact HSS.out _ HB6.out | (rw [← HV6.out]; exact HSS.out _ HB66.out) | exact HSS.out _ (HB66.out.trans (Joins.below_le HB7.out HB66.out.size)))
    (first | (go_at_call 29; (with_reducible refine HC6.mono ?_); rintro e w6 ⟨l6, rfl, hl6, hg6, hb6⟩; have hbb6 : Below V5.heap.size V5 w6 := HD.out.trans (Joins.below_le hb6 HD.out.size); have HB6 := hid hbb6; obtain ⟨V6, hV6⟩ : ∃ V6, V6 = w6.alloc (.cells #[.int .i64 2, .slice (some ⟨l6, 0, none⟩) 1 1, .int .i64 0, .slice none 0 0, .int .i64 0, .int .i64 0, .bool false, .int .i64 0, .string ⟨#[]⟩, .int .i64 6, .slice none 0 0, .int .i64 0, .slice (some ⟨x2, 0, none⟩) 1 1, .int .i64 0, .int .i64 1, .bool false, .int .i64 0, .string ⟨#[]⟩] 25) := ⟨_, rfl⟩; have hb66 : Below w6.heap.size w6 V6 := (by rw [hV6]; exact Joins.below_alloc1 w6 _); have hs66 : V6.heap.size = w6.heap.size + 1 := (by rw [hV6]; simp); have hn6 : V6.heap[w6.heap.size]? = some (.cells ((clsN l6).cs ++ (oneN x2 0 1).cs).toArray 25 (0, 0)) := (by rw [hV6]; exact heap_alloc_new w6 _); have hl6' : l6 < w6.heap.size := (Array.getElem?_eq_some_iff.1 hl6).1; have hb56 : Below V5.heap.size V5 V6 := hbb6.trans (Joins.below_le hb66 hbb6.size); have hb36 : Below V3.heap.size V3 V6 := HB35.out.trans (Joins.below_le hb56 HB35.out.size); have HC7 := same13 ((HM3.out.kept fun b hb => hb36.block b (by have := HS3.out; omega)).le (by have := HS3.out; have := hb36.size; omega)) (two_ti (cls_ti (by decide) ((hb66.block l6 hl6').trans hl6) (by omega)) ((HT2V.out.kept hb36.block).le hb36.size) hn6 (by omega)); have HB66 := hid hb56; have HV6 := hid hV6; clear hl6 hg6 hb6 hbb6 hV6 hb66 hs66 hn6 hl6' hb56 hb36 HC6) | (go_at_call 15; rw [← HV6.out]; (with_reducible refine HC7.mono ?_); rintro e w7 ⟨rfl, hb7⟩; have HB7 := hid hb7; clear hb7 HC7))
  all_goals
    go_wp2
    all_goals go_ret
    all_goals exact ⟨rfl, (HBV3.out.trans (Joins.below_le HB35.out HBV3.out.size)).trans (Joins.below_le (HB66.out.trans (Joins.below_le HB7.out HB66.out.size)) (Nat.le_trans HBV3.out.size HB35.out.size))⟩
end Go.Proofs.Ytdidopgenhpakaa
