/- HELPERS: the form of a tree. -/
import Derived.Test.YtdidopgenhpakaaFf
namespace Go.Proofs.Ytdidopgenhpakaa
open Go.RowKit
set_option linter.unusedVariables false
set_option linter.unusedSimpArgs false
theorem R2.rp {w : World} {B : Nat} {ad : Option Addr} {R : List (Int × Int)} (h : R2 w B ad R) : RP w (fun b => b < B) ad R := h
/-- the runs of a row of forms, once each -/
theorem ones_runs {w : World} {A : Nat → Prop} {us : Nat → Tn} {K : List Rn} {ts : List Tn} (hl : K.length = ts.length) (hK : ∀ i (hi : i < K.length), K[i].2 = (us i, 1) ∧ FA w A K[i].1 (us i)) (hu : ∀ i (hi : i < ts.length), us i = ts[i].S) : K.map (·.2) = ones (SL ts) := by
  rw [SL_map]
  apply List.ext_getElem (by simp [hl])
  intro i h1 h2
  simp only [List.length_map] at h1
  simp only [List.getElem_map]
  rw [(hK i h1).1, hu i (by omega)]
set_option maxRecDepth 100000 in
set_option maxHeartbeats 8000000 in
theorem formOf31 {w0 : World} {B : Nat} {N : Nv} {t : Tn} (h : TI w0 B N t) : t.fine = true → t.depth ≤ 10000 → t.nodes ≤ 200000 → ∀ (w : World), B ≤ w.heap.size → (∀ b, b < B → w.heap[b]? = w0.heap[b]?) →
    Calls Try.prog 31 #[N.v] w fun e w' => ∃ f, e = .returned (pt f) ∧ FA w' (New (fun b => b < B) w w') f t.S ∧ Below w.heap.size w w' := by
  induction h with
  | @mk N R ts ND ok hr hR hRk hs hS hk ih =>
  intro hf hdp hnd w hB hw
  have hdS : (Tn.mk N.k R N.a2 ts N.a4 N.a5 N.a6 N.a7 N.a8).depth = 1 + depthL ts := by simp only [Tn.depth]
  have hnS : (Tn.mk N.k R N.a2 ts N.a4 N.a5 N.a6 N.a7 N.a8).nodes = 1 + nodesL ts := by simp only [Tn.nodes]
  rw [hdS] at hdp
  rw [hnS] at hnd
  have hnl := nodes_ge ts
  simp only [Tn.fine, Bool.and_eq_true] at hf
  have hfk := fine_kind hf.1
  have ihS : ∀ i (hi : i < ts.length), ∀ w1 : World, B ≤ w1.heap.size → (∀ b, b < B → w1.heap[b]? = w0.heap[b]?) → Calls Try.prog 31 #[(ND i).v] w1 fun e w' => ∃ f, e = .returned (pt f) ∧ FA w' (New (fun b => b < B) w1 w') f (ts[i]).S ∧ Below w1.heap.size w1 w' := fun i hi =>
    ih i hi (fineL_get hf.2 i hi) (by have := depthL_mem (List.getElem_mem hi); omega) (by have := nodes_get ts i hi; omega)
  have hSd : ∀ i (hi : i < ts.length), (ts[i]).S.depth ≤ 1000000000 := fun i hi => by
    have := S_depth ts[i] (fineL_get hf.2 i hi)
    have := depthL_mem (List.getElem_mem hi)
    omega
  have hBW : Below w.heap.size w (w.alloc (.cells #[.int .i64 N.k, .slice N.r1 N.r2 N.r3, .int .i64 N.a2, .slice N.s1 N.s2 N.s3, .int .i64 N.a4, .int .i64 N.a5, .bool N.a6, .int .i64 N.a7, .string N.a8] 25)) := Joins.below_alloc1 w _
  have hBN : BN (w.alloc (.cells #[.int .i64 N.k, .slice N.r1 N.r2 N.r3, .int .i64 N.a2, .slice N.s1 N.s2 N.s3, .int .i64 N.a4, .int .i64 N.a5, .bool N.a6, .int .i64 N.a7, .string N.a8] 25)) w.heap.size N := heap_alloc_new w _
  have hRw : RP w (fun b => b < B) N.r1 R := (R2.rp hR).kept (fun b hb => hw b hb) (fun _ h => h)
  obtain ⟨k, r1, r2, r3, a2, s1, s2, s3, a4, a5, a6, a7, a8⟩ := N
  dsimp only at hs hS hfk hBW hBN hRw hr ⊢
  obtain ⟨W, hW⟩ : ∃ W, W = w.alloc (.cells #[.int .i64 k, .slice r1 r2 r3, .int .i64 a2, .slice s1 s2 s3, .int .i64 a4, .int .i64 a5, .bool a6, .int .i64 a7, .string a8] 25) := ⟨_, rfl⟩
  have hSW : W.heap.size = w.heap.size + 1 := by rw [hW]; simp
  rw [← hW] at hBN hBW
  obtain ⟨z, hz⟩ : ∃ z, z = w.heap.size := ⟨_, rfl⟩
  rw [← hz] at hBN hSW
  have hwW : ∀ b, b < B → W.heap[b]? = w0.heap[b]? := fun b hb => (hBW.block b (by omega)).trans (hw b hb)
  obtain ⟨q0, q1, q2, q3, q4, q5, q6, q7, q8⟩ := nine' hBN
  have hA : ∀ b, b < B → b < W.heap.size := fun b hb => by omega
  have hsub : 0 < s2 → ∃ b o, s1 = some ⟨b, o, none⟩ ∧ b < W.heap.size ∧ ∀ i, i < s2 → N9 W b o i (ND i) := fun hp => by
    obtain ⟨b, o, h1, h2, h3⟩ := hS (by omega)
    exact ⟨b, o, h1, by omega, fun i hi => (h3 i (by omega)).kept (hwW b h2)⟩
  have HBN := hid hBN
  have HBW := hid hBW
  have HSW := hid hSW
  have HZ := hid hz
  have HA := hid hA
  have HWW := hid hwW
  have HIS := hid ihS
  have HSD := hid hSd
  have HSUB := hid hsub
  have HOK := hid ok
  have HRW := hid hRw
  have HRR := hid hr
  have HL := hid hs
  have HBB := hid hB
  have hs2 : s2 ≤ 200000 := by omega
  have HFK := hid hfk
  clear hBN hBW hSW hA hwW ihS hSd hsub ok hRw hr hs hR hS hk ih hf hdp hnd hw hdS hnS hnl hfk hB
  by_cases k4 : k = 4
  · subst k4
    have hSS : (Tn.mk 4 R a2 ts a4 a5 a6 a7 a8).S = joinT (ones (SL ts)) := by simp [Tn.S]
    have HSS := hid hSS
    have HC := onceEach44 (fun b => b < B) s2 ND (fun i => (ts.getD i default).S) s1 s3 W HA.out hs2 HSUB.out (fun i hi w1 h1 h2 => by
      have hlt : i < ts.length := by have := HL.out; omega
      have := HIS.out i hlt w1 (by have := HBB.out; have := HSW.out; have := HZ.out; omega) (fun b hb => (h2 b (HA.out b hb)).trans (HWW.out b hb))
      rw [List.getD_eq_getElem?_getD, List.getElem?_eq_getElem hlt]
      exact this)
    clear hSS
    go_enter Try.func31, Try.ntmps31
    go_upto_region 1 with fail
    rw [← hz, ← hW]
    clear hW hz
    go_wp2_with (first | (go_at_call 44; (with_reducible refine HC.mono ?_); rintro e w1 ⟨v, K, rfl, hKl, hKo, hKF, hb1⟩; obtain ⟨ka, kc, rfl, hkc, hkm⟩ := row_shape hKo; have hrv := rv_of (A := New (fun b => b < B) W w1) hKo (fun b h1 h2 => .inr ⟨h1, h2⟩); have hl1 : K.map (·.2) = ones (SL ts) := ones_runs (by have := HL.out; omega) hKF (fun i hi => by simp [List.getD_eq_getElem?_getD, List.getElem?_eq_getElem hi]); have HC2 := join43 (New (fun b => b < B) W w1) ka kc _ (K.map (·.2)) w1 (New.low HA.out hb1.size) hrv (by intro x hx; rw [hl1] at hx; obtain ⟨u, hu, rfl⟩ := List.mem_map.1 hx; simp) (by simp; omega) (fun j hj => by simp only [List.length_map] at hj; have := (hKF j hj).2; rw [List.getElem_map, (hKF j hj).1]; simpa [List.getD_eq_getElem?_getD, List.getElem?_eq_getElem hj] using this) (by intro x hx; rw [hl1] at hx; obtain ⟨u, hu, rfl⟩ := List.mem_map.1 hx; rw [SL_map] at hu; obtain ⟨u', hu', rfl⟩ := List.mem_map.1 hu; obtain ⟨j, hj, rfl⟩ := List.getElem_of_mem hu'; have := HSD.out j hj; simp only; omega); rw [hl1] at HC2; have hsl : (ones (SL ts)).length = K.length := (by rw [← hl1]; simp); rw [hsl] at HC2; have HB1 := hid hb1; clear hKF hrv hl1 hsl hkc hkm hKo hb1 HC hKl) | (go_at_call 43; (with_reducible refine HC2.mono ?_); rintro e w4 ⟨f4, rfl, hf4, hb4⟩; have HF4 := hid hf4; have HB4 := hid hb4; clear hf4 hb4 HC2))
    all_goals go_ret
    all_goals
      have hz := HZ.out
      have hsw := HSW.out
      have hz1 := HB1.out.size
      have hz4 : w1.heap.size ≤ w4.heap.size := HB4.out.size
      refine ⟨f4, rfl, ?_, ?_⟩
      · rw [HSS.out]
        exact HF4.out.kept (fun _ _ => rfl) (fun b hb => (New.trans (v' := w1) hb (by omega) (by omega)).more (by omega) (Nat.le_refl _))
      · exact (HBW.out.trans (Joins.below_le HB1.out (by omega))).trans (Joins.below_le HB4.out (by omega))
  · have g4 : (k == 4) = false := by simp [k4]
    by_cases k5 : k = 5
    · subst k5
      have hSS : (Tn.mk 5 R a2 ts a4 a5 a6 a7 a8).S = rowT 5 (ones (SL ts)) := by simp [Tn.S]
      have HSS := hid hSS
      have HC := onceEach44 (fun b => b < B) s2 ND (fun i => (ts.getD i default).S) s1 s3 W HA.out hs2 HSUB.out (fun i hi w1 h1 h2 => by
        have hlt : i < ts.length := by have := HL.out; omega
        have := HIS.out i hlt w1 (by have := HBB.out; have := HSW.out; have := HZ.out; omega) (fun b hb => (h2 b (HA.out b hb)).trans (HWW.out b hb))
        rw [List.getD_eq_getElem?_getD, List.getElem?_eq_getElem hlt]
        exact this)
      clear hSS
      go_enter Try.func31, Try.ntmps31
      go_upto_region 1 with fail
      rw [← hz, ← hW]
      clear hW hz
      go_wp2_with (first | (go_at_call 44; (with_reducible refine HC.mono ?_); rintro e w1 ⟨v, K, rfl, hKl, hKo, hKF, hb1⟩; obtain ⟨ka, kc, rfl, hkc, hkm⟩ := row_shape hKo; have hrv := rv_of (A := New (fun b => b < B) W w1) hKo (fun b h1 h2 => .inr ⟨h1, h2⟩); have hl1 : K.map (·.2) = ones (SL ts) := ones_runs (by have := HL.out; omega) hKF (fun i hi => by simp [List.getD_eq_getElem?_getD, List.getElem?_eq_getElem hi]); have HC2 := row45 (New (fun b => b < B) W w1) 5 ka kc _ (K.map (·.2)) w1 (.inr rfl) (New.low HA.out hb1.size) hrv (by intro x hx; rw [hl1] at hx; obtain ⟨u, hu, rfl⟩ := List.mem_map.1 hx; simp) (by simp; omega) (by simp only [List.length_map]; have := HFK.out; have := HL.out; omega) (fun j hj => by simp only [List.length_map] at hj; have := (hKF j hj).2; rw [List.getElem_map, (hKF j hj).1]; simpa [List.getD_eq_getElem?_getD, List.getElem?_eq_getElem hj] using this) (by intro x hx; rw [hl1] at hx; obtain ⟨u, hu, rfl⟩ := List.mem_map.1 hx; rw [SL_map] at hu; obtain ⟨u', hu', rfl⟩ := List.mem_map.1 hu; obtain ⟨j, hj, rfl⟩ := List.getElem_of_mem hu'; have := HSD.out j hj; simp only; omega); rw [hl1] at HC2; have hsl : (ones (SL ts)).length = K.length := (by rw [← hl1]; simp); rw [hsl] at HC2; have HB1 := hid hb1; clear hKF hrv hl1 hsl hkc hkm hKo hb1 HC hKl) | (go_at_call 45; (with_reducible refine HC2.mono ?_); rintro e w4 ⟨f4, rfl, hf4, hb4⟩; have HF4 := hid hf4; have HB4 := hid hb4; clear hf4 hb4 HC2))
      all_goals go_ret
      all_goals
        have hz := HZ.out
        have hsw := HSW.out
        have hz1 := HB1.out.size
        have hz4 : w1.heap.size ≤ w4.heap.size := HB4.out.size
        refine ⟨f4, rfl, ?_, ?_⟩
        · rw [HSS.out]
          exact HF4.out.kept (fun _ _ => rfl) (fun b hb => (New.trans (v' := w1) hb (by omega) (by omega)).more (by omega) (Nat.le_refl _))
        · exact (HBW.out.trans (Joins.below_le HB1.out (by omega))).trans (Joins.below_le HB4.out (by omega))
    · have g5 : (k == 5) = false := by simp [k5]
      by_cases k6 : k = 6
      · subst k6
        have hlt : 0 < ts.length := by have := HFK.out; have := HL.out; omega
        have hSS : (Tn.mk 6 R a2 ts a4 a5 a6 a7 a8).S = repT (ts[0]'hlt).S a4 a5 a6 := by simp only [Tn.S]; rw [if_neg (by decide), if_neg (by decide), if_pos trivial, SL_head hlt]
        have HSS := hid hSS
        have hfk : s2 = 1 ∧ 0 ≤ a4 ∧ a4 ≤ 1000 ∧ (a5 = -1 ∨ a4 ≤ a5 ∧ a5 ≤ 1000) := by have := HFK.out; have := HL.out; omega
        obtain ⟨b, o, hs1, hbl, h9⟩ := HSUB.out (by omega)
        have HC := repeat46 (fun b => b < B) ⟨6, r1, r2, r3, a2, s1, s2, s3, a4, a5, a6, a7, a8⟩ (ND 0) (ts[0]'hlt).S b o W HA.out hs1 hfk.1 hbl (h9 0 (by omega)) (HSD.out 0 hlt) hfk.2.1 hfk.2.2.1 hfk.2.2.2 (fun w1 h1 h2 => HIS.out 0 hlt w1 (by have := HBB.out; have := HSW.out; have := HZ.out; omega) (fun b hb => (h2 b (HA.out b hb)).trans (HWW.out b hb)))
        dsimp only at HC
        clear hSS h9 hs1 hfk
        go_enter Try.func31, Try.ntmps31
        go_upto_region 1 with fail
        rw [← hz, ← hW]
        clear hW hz
        go_wp2_with (first | (go_at_call 46; (with_reducible refine HC.mono ?_); rintro e w4 ⟨f4, rfl, hf4, hb4⟩; have HF4 := hid hf4; have HB4 := hid hb4; clear hf4 hb4 HC))
        all_goals go_ret
        all_goals
          have hz := HZ.out
          have hsw := HSW.out
          refine ⟨f4, rfl, ?_, ?_⟩
          · rw [HSS.out]
            exact HF4.out.kept (fun _ _ => rfl) (fun b hb => hb.more (by omega) (Nat.le_refl _))
          · exact HBW.out.trans (Joins.below_le HB4.out (by omega))
      · have g6 : (k == 6) = false := by simp [k6]
        by_cases k7 : k = 7
        · subst k7
          have hlt : 0 < ts.length := by have := HFK.out; have := HL.out; omega
          have hSS : (Tn.mk 7 R a2 ts a4 a5 a6 a7 a8).S = .mk 7 [] 0 [(ts[0]'hlt).S] 0 0 false a7 a8 := by simp only [Tn.S]; rw [if_neg (by decide), if_neg (by decide), if_neg (by decide), if_pos trivial, SL_head hlt]
          have HSS := hid hSS
          have hfk : s2 = 1 := by have := HFK.out; have := HL.out; omega
          obtain ⟨b, o, hs1, hbl, h9⟩ := HSUB.out (by omega)
          subst hs1 hfk
          have hM := h9 0 (by omega)
          have HC := HIS.out 0 hlt W.drew (by show B ≤ W.heap.size; have := HBB.out; have := HSW.out; have := HZ.out; omega) (fun b hb => HWW.out b hb)
          obtain ⟨M, hMe⟩ : ∃ M, M = ND 0 := ⟨_, rfl⟩
          rw [← hMe] at HC hM
          have hS : ∀ w3, Below W.heap.size W w3 → w3.cell? ⟨z, 3, none⟩ = some (.slice (some ⟨b, o, none⟩) 1 s3) ∧ w3.cell? ⟨z, 7, none⟩ = some (.int .i64 a7) ∧ w3.cell? ⟨z, 8, none⟩ = some (.string a8) ∧ w3.cell? ⟨b, o, none⟩ = some (.int .i64 M.k) ∧ w3.cell? ⟨b, o + 1, none⟩ = some (.slice M.r1 M.r2 M.r3) ∧ w3.cell? ⟨b, o + 2, none⟩ = some (.int .i64 M.a2) ∧ w3.cell? ⟨b, o + 3, none⟩ = some (.slice M.s1 M.s2 M.s3) ∧ w3.cell? ⟨b, o + 4, none⟩ = some (.int .i64 M.a4) ∧ w3.cell? ⟨b, o + 5, none⟩ = some (.int .i64 M.a5) ∧ w3.cell? ⟨b, o + 6, none⟩ = some (.bool M.a6) ∧ w3.cell? ⟨b, o + 7, none⟩ = some (.int .i64 M.a7) ∧ w3.cell? ⟨b, o + 8, none⟩ = some (.string M.a8) := fun w3 h3 => by
            have hq3 := (h3.block z (by have := HSW.out; omega)).trans HBN.out
            obtain ⟨q0, q1, q2, q3, q4, q5, q6, q7, q8⟩ := nine' hq3
            obtain ⟨n0, n1, n2, n3, n4, n5, n6, n7, n8⟩ := hM.kept (h3.block b hbl)
            simp only [Nat.zero_mul, Nat.add_zero] at n0 n1 n2 n3 n4 n5 n6 n7 n8
            exact ⟨q3, q7, q8, n0, n1, n2, n3, n4, n5, n6, n7, n8⟩
          have HS3 := hid hS
          have HD := hid (below_drew W)
          have hok7 : I64ok a7 ∧ a8.size ≤ maxLen := ⟨HOK.out.a7, HOK.out.a8⟩
          clear hSS h9 hMe hM hS
          go_enter Try.func31, Try.ntmps31
          go_upto_region 1 with fail
          rw [← hz, ← hW]
          clear hW hz
          go_upto_region 9 with fail
          go_region_held2 (fun w3 => w3.cell? ⟨z, 3, none⟩ = some (.slice (some ⟨b, o, none⟩) 1 s3) ∧ w3.cell? ⟨z, 7, none⟩ = some (.int .i64 a7) ∧ w3.cell? ⟨z, 8, none⟩ = some (.string a8) ∧ w3.cell? ⟨b, o, none⟩ = some (.int .i64 M.k) ∧ w3.cell? ⟨b, o + 1, none⟩ = some (.slice M.r1 M.r2 M.r3) ∧ w3.cell? ⟨b, o + 2, none⟩ = some (.int .i64 M.a2) ∧ w3.cell? ⟨b, o + 3, none⟩ = some (.slice M.s1 M.s2 M.s3) ∧ w3.cell? ⟨b, o + 4, none⟩ = some (.int .i64 M.a4) ∧ w3.cell? ⟨b, o + 5, none⟩ = some (.int .i64 M.a5) ∧ w3.cell? ⟨b, o + 6, none⟩ = some (.bool M.a6) ∧ w3.cell? ⟨b, o + 7, none⟩ = some (.int .i64 M.a7) ∧ w3.cell? ⟨b, o + 8, none⟩ = some (.string M.a8))
            (first | exact HS3.out _ HD.out | exact HS3.out _ (HD.out.trans (Joins.below_le HB1.out HD.out.size)) | exact HS3.out _ ((HD.out.trans (Joins.below_le HB1.out HD.out.size)).trans (Joins.below_le HB4.out HZ1.out)))
            (first | (go_at_call 31; (with_reducible refine HC.mono ?_); rintro e w1 ⟨g, rfl, hg, hb1⟩; have hz1 : W.heap.size ≤ w1.heap.size := hb1.size; have HC2 := over47 (New (fun b => b < B) W w1) 7 0 0 false a7 a8 g _ w1 (ok_NO 7 0 0 false a7 a8 (by decide) (by decide) (by decide) hok7.1 hok7.2) (New.low HA.out hz1) hg (by have := HSD.out 0 hlt; omega); have HB1 := hid hb1; have HZ1 := hid hz1; clear hg hb1 hz1 HC) | (go_at_call 47; (with_reducible refine HC2.mono ?_); rintro e w4 ⟨f4, rfl, hf4, hb4⟩; have HF4 := hid hf4; have HB4 := hid hb4; clear hf4 hb4 HC2))
          all_goals
            go_wp2
            go_ret
            have hz := HZ.out
            have hsw := HSW.out
            have hz1 := HZ1.out
            have hz4 : w1.heap.size ≤ w4.heap.size := HB4.out.size
            refine ⟨f4, rfl, ?_, ?_⟩
            · rw [HSS.out]
              exact HF4.out.kept (fun _ _ => rfl) (fun b hb => (New.trans (v' := w1) hb (by omega) (by omega)).more (by omega) (Nat.le_refl _))
            · exact (HBW.out.trans (Joins.below_le (HD.out.trans (Joins.below_le HB1.out HD.out.size)) (by omega))).trans (Joins.below_le HB4.out (by omega))
        · have g7 : (k == 7) = false := by simp [k7]
          have hSS : (Tn.mk k R a2 ts a4 a5 a6 a7 a8).S = .mk k R a2 [] a4 a5 a6 a7 a8 := by simp [Tn.S, k4, k5, k6, k7]
          have HSS := hid hSS
          have h5 : R.length ≤ 5000 := by have := HFK.out; omega
          have HC := leaf48 (fun b => b < B) ⟨k, r1, r2, r3, a2, s1, s2, s3, a4, a5, a6, a7, a8⟩ R W HOK.out HRR.out HA.out (HRW.out.kept (fun b hb => HBW.out.block b (by have := HBB.out; omega)) (fun _ h => h)) hRk h5
          dsimp only at HC
          clear hSS
          go_enter Try.func31, Try.ntmps31
          go_upto_region 1 with fail
          rw [← hz, ← hW]
          clear hW hz
          go_wp2_with (first | (go_at_call 48; (with_reducible refine HC.mono ?_); rintro e w4 ⟨f4, rfl, hf4, hb4⟩; have HF4 := hid hf4; have HB4 := hid hb4; clear hf4 hb4 HC))
          all_goals go_ret
          all_goals
            have hz := HZ.out
            have hsw := HSW.out
            refine ⟨f4, rfl, ?_, ?_⟩
            · rw [HSS.out]
              exact HF4.out.kept (fun _ _ => rfl) (fun b hb => hb.more (by omega) (Nat.le_refl _))
            · exact HBW.out.trans (Joins.below_le HB4.out (by omega))
end Go.Proofs.Ytdidopgenhpakaa
