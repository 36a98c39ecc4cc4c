/- HELPERS: the form of a repeat. -/
import Derived.Test.YtdidopgenhpakaaFe
namespace Go.Proofs.Ytdidopgenhpakaa
open Go.RowKit
set_option linter.unusedVariables false
set_option linter.unusedSimpArgs false
set_option maxRecDepth 100000 in
set_option maxHeartbeats 8000000 in
theorem repeat46 (A : Nat → Prop) (N M : Nv) (y : Tn) (b o : Nat) (w : World) (hA : ∀ b, A b → b < w.heap.size) (hs1 : N.s1 = some ⟨b, o, none⟩) (hs2 : N.s2 = 1) (hb : b < w.heap.size) (hM : N9 w b o 0 M) (hd : y.depth ≤ 1000000000)
    (h1 : 0 ≤ N.a4) (h2 : N.a4 ≤ 1000) (h3 : N.a5 = -1 ∨ N.a4 ≤ N.a5 ∧ N.a5 ≤ 1000)
    (IH : Hid (∀ w1 : World, w.heap.size ≤ w1.heap.size → (∀ b, b < w.heap.size → w1.heap[b]? = w.heap[b]?) → Calls Try.prog 31 #[M.v] w1 fun e w' => ∃ f, e = .returned (pt f) ∧ FA w' (New A w1 w') f y ∧ Below w1.heap.size w1 w')) :
    Calls Try.prog 46 #[N.v] w fun e w' => ∃ f, e = .returned (pt f) ∧ FA w' (New A w w') f (repT y N.a4 N.a5 N.a6) ∧ Below w.heap.size w w' := by
  obtain ⟨k, r1, r2, r3, a2, s1, s2, s3, a4, mx, lz, a7, a8⟩ := N
  dsimp only at hs1 hs2 h1 h2 h3 ⊢
  subst hs1 hs2
  obtain ⟨p, rfl⟩ : ∃ p : Nat, a4 = (p : Int) := ⟨a4.toNat, by omega⟩
  have hBN : BN (w.alloc (.cells #[.int .i64 k, .slice r1 r2 r3, .int .i64 a2, .slice (some ⟨b, o, none⟩) 1 s3, .int .i64 (p : Int), .int .i64 mx, .bool lz, .int .i64 a7, .string a8] 25)) w.heap.size ⟨k, r1, r2, r3, a2, some ⟨b, o, none⟩, 1, s3, (p : Int), mx, lz, a7, a8⟩ := heap_alloc_new w _
  obtain ⟨W, hW⟩ : ∃ W, W = w.alloc (.cells #[.int .i64 k, .slice r1 r2 r3, .int .i64 a2, .slice (some ⟨b, o, none⟩) 1 s3, .int .i64 (p : Int), .int .i64 mx, .bool lz, .int .i64 a7, .string a8] 25) := ⟨_, rfl⟩
  have hBW : Below w.heap.size w W := by rw [hW]; exact Joins.below_alloc1 w _
  have hSW : W.heap.size = w.heap.size + 1 := by rw [hW]; simp
  rw [← hW] at hBN
  obtain ⟨z, hz⟩ : ∃ z, z = w.heap.size := ⟨_, rfl⟩
  have HC := IH.out W (by omega) (fun b hb => hBW.block b hb)
  rw [← hz] at hBN hSW
  obtain ⟨n0, n1, n2, n3, n4, n5, n6, n7, n8⟩ := hM.kept (hBW.block b hb)
  simp only [Nat.zero_mul, Nat.add_zero] at n0 n1 n2 n3 n4 n5 n6 n7 n8
  obtain ⟨q0, q1, q2, q3, q4, q5, q6, q7, q8⟩ := nine' hBN
  have HBN := hid hBN
  have HBW := hid hBW
  have HSW := hid hSW
  have HZ := hid hz
  have HAA := hid hA
  clear hBN hBW hSW hA hM IH
  go_enter Try.func46, Try.ntmps46
  go_upto_region 1 with fail
  rw [← hz, ← hW]
  clear hW hz
  go_upto_region 2 with (first | (go_at_call 31; (with_reducible refine HC.mono ?_); rintro e w1 ⟨g, rfl, hg, hb1⟩; have hB1 := (hb1.block z (by have := HSW.out; omega)).trans HBN.out; clear q0 q1 q2 q3 q4 q5 q6 q7 q8; obtain ⟨q0, q1, q2, q3, q4, q5, q6, q7, q8⟩ := nine' hB1; have HG := hid hg; have HB1 := hid hb1; have HBN1 := hid hB1; clear hg hb1 HC hB1))
  have hs1 : W.heap.size ≤ w1.heap.size := HB1.out.size
  have hAW : ∀ b, A b → b < W.heap.size := fun b hb => by have := HAA.out b hb; have := HSW.out; have := HZ.out; omega
  have hA1 : ∀ b, New A W w1 b → b < w1.heap.size := New.low hAW hs1
  have HA1 := hid hA1
  have HAW := hid hAW
  clear n0 n1 n2 n3 n4 n5 n6 n7 n8 hAW hA1
  have hS : ∀ w3, Below w1.heap.size w1 w3 → w3.cell? ⟨z, 4, none⟩ = some (.int .i64 (p : Int)) ∧ w3.cell? ⟨z, 5, none⟩ = some (.int .i64 mx) ∧ w3.cell? ⟨z, 6, none⟩ = some (.bool lz) := fun w3 h3 => by
    have hq3 := (h3.block z (by have := HSW.out; omega)).trans HBN1.out
    obtain ⟨q0, q1, q2, q3, q4, q5, q6, q7, q8⟩ := nine' hq3
    exact ⟨q4, q5, q6⟩
  have HSS := hid hS
  have HD1 := hid (below_drew w1)
  clear hS
  by_cases hmx : mx = -1
  · subst hmx
    by_cases hp : p = 0
    · have b2 : ((p : Int) == 0) = true := by simp [hp]
      have hrT : repT y (p : Int) (-1) lz = loopT 0 (-1) lz y := by unfold repT; simp [hp]
      have HRT := hid hrT
      have HC1 := loop66 0 (-1) lz w1
      have HC2 := fun (W' : World) (hb : Below w1.heap.size w1 W') => over47 (New A W w1) 6 0 (-1) lz 0 ⟨#[]⟩ g y W' (ok_NO 6 0 (-1) lz 0 ⟨#[]⟩ (by decide) (by decide) (by decide) (by decide) (Nat.zero_le _)) (fun b h => by have := HA1.out b h; have := hb.size; omega) (HG.out.up HA1.out hb (fun _ h => h)) (by omega)
      clear hrT hp
      go_wp2_with (first | (go_at_call 66; (with_reducible refine HC1.mono ?_); rintro e w2 ⟨rfl, hb2⟩; have HC3 := HC2 w2 hb2; have HB2 := hid hb2; clear hb2 HC1 HC2) | (go_at_call 47; (with_reducible refine HC3.mono ?_); rintro e w4 ⟨f4, rfl, hf4, hb4⟩; have HF4 := hid hf4; have HB4 := hid hb4; clear hf4 hb4 HC3))
      all_goals go_ret
      all_goals
        have hz := HZ.out
        have hsw := HSW.out
        have hz2 := HB2.out.size
        have hz4 : w2.heap.size ≤ w4.heap.size := HB4.out.size
        refine ⟨f4, rfl, ?_, ?_⟩
        · rw [HRT.out]
          exact HF4.out.kept (fun _ _ => rfl) (fun b hb => (New.trans (v' := w2) hb (by omega) (by omega)).more (by omega) (Nat.le_refl _))
        · exact ((HBW.out.trans (Joins.below_le HB1.out (by omega))).trans (Joins.below_le HB2.out (by omega))).trans (Joins.below_le HB4.out (by omega))
    · have b2 : ((p : Int) == 0) = false := by simp; omega
      obtain ⟨p1, hp1⟩ : ∃ p1 : Nat, (p : Int) - 1 = (p1 : Int) := ⟨p - 1, by omega⟩
      have hw : IntKind.i64.wrap ((p : Int) - 1) = (p : Int) - 1 := by simp [IntKind.wrap, IntKind.bits, IntKind.signed]; omega
      have hrT : repT y (p : Int) (-1) lz = joinT [(y, p1), (loopT 1 (-1) lz y, 1)] := by
        unfold repT
        rw [if_neg (by simp), if_neg (by omega), hp1]
        simp
      have HRT := hid hrT
      have HP1 := hid hp1
      have hp1b : p1 ≤ 1000 := by omega
      have HC1 := loop66 1 (-1) lz w1.drew
      have HC2 := fun (W' : World) (hb : Below w1.heap.size w1 W') => over47 (New A W w1) 6 1 (-1) lz 0 ⟨#[]⟩ g y W' (ok_NO 6 1 (-1) lz 0 ⟨#[]⟩ (by decide) (by decide) (by decide) (by decide) (Nat.zero_le _)) (fun b h => by have := HA1.out b h; have := hb.size; omega) (HG.out.up HA1.out hb (fun _ h => h)) (by omega)
      clear hrT hp hp1
      go_upto_region 6 with fail
      go_region_held2 (fun w3 => w3.cell? ⟨z, 4, none⟩ = some (.int .i64 (p : Int)) ∧ w3.cell? ⟨z, 5, none⟩ = some (.int .i64 (-1)) ∧ w3.cell? ⟨z, 6, none⟩ = some (.bool lz))
        (first | exact HSS.out _ HD1.out | exact HSS.out _ HB2.out | exact HSS.out _ (HB2.out.trans (Joins.below_le HB5.out HB2.out.size)) | (rw [← HV2.out]; exact HSS.out _ HV2B.out) | exact HSS.out _ (HV2B.out.trans (Joins.below_le HB4.out HV2B.out.size)))
        (first | (go_at_call 66; (with_reducible refine HC1.mono ?_); rintro e w2 ⟨rfl, hb2⟩; have hbb := HD1.out.trans (Joins.below_le hb2 HD1.out.size); have HC3 := HC2 w2 hbb; have HB2 := hid hbb; clear hb2 hbb HC1 HC2) | (go_at_call 47; (with_reducible refine HC3.mono ?_); rintro e w5 ⟨f2, rfl, hf2, hb5⟩; have HF2 := hid hf2; have HB5 := hid hb5; have hz25 : w2.heap.size ≤ w5.heap.size := hb5.size; have hz12 : w1.heap.size ≤ w2.heap.size := HB2.out.size; clear hf2 hb5 HC3; obtain ⟨V2, hV2⟩ : ∃ V2, V2 = w5.alloc (.cells #[pt g, .int .i64 ((p : Int) - 1), pt f2, .int .i64 1] 92) := ⟨_, rfl⟩; have hV2n : V2.heap[w5.heap.size]? = some (.cells #[pt g, .int .i64 (p1 : Int), pt f2, .int .i64 1] 92 (0, 0)) := (by rw [hV2, HP1.out]; exact heap_alloc_new w5 _); have hV2b : Below w5.heap.size w5 V2 := (by rw [hV2]; exact Joins.below_alloc1 w5 _); have hV2s : V2.heap.size = w5.heap.size + 1 := (by rw [hV2]; simp); have hb15 : Below w1.heap.size w1 w5 := HB2.out.trans (Joins.below_le HB5.out HB2.out.size); have hb12 : Below w1.heap.size w1 V2 := hb15.trans (Joins.below_le hV2b (by omega)); have HC4 := join_pair (A := New A W V2) hV2n (by omega) (New.low HAW.out (by omega)) (.inr ⟨by omega, by omega⟩) (HG.out.up HA1.out hb12 (fun b hb => hb.more (Nat.le_refl _) (by omega))) (HF2.out.up (New.low (fun b h => by have := HA1.out b h; omega) hz25) hV2b (fun b hb => (New.trans (v' := w2) hb (by omega) (by omega)).more (Nat.le_refl _) (by omega))) (by omega) (by rw [loopT_depth]; omega); have HV2B := hid hb12; have HV2 := hid hV2; have HV2S := hid hV2s; clear hV2 hV2n hV2b hV2s hb12 hb15) | (go_at_call 43; rw [← HV2.out]; (with_reducible refine HC4.mono ?_); rintro e w4 ⟨f4, rfl, hf4, hb4⟩; have HF4 := hid hf4; have HB4 := hid hb4; clear hf4 hb4 HC4))
      all_goals
        go_wp2
        go_ret
        have hz := HZ.out
        have hsw := HSW.out
        have hv2 := HV2S.out
        have hz4 : V2.heap.size ≤ w4.heap.size := HB4.out.size
        refine ⟨f4, rfl, ?_, ?_⟩
        · rw [HRT.out]
          exact HF4.out.kept (fun _ _ => rfl) (fun b hb => (New.trans (v' := V2) hb (by omega) (by omega)).more (by omega) (Nat.le_refl _))
        · exact ((HBW.out.trans (Joins.below_le HB1.out (by omega))).trans (Joins.below_le HV2B.out (by omega))).trans (Joins.below_le HB4.out (by omega))
  · have b1 : (mx != -1) = true := by simp [hmx]
    obtain ⟨q, hq⟩ : ∃ q : Nat, mx - (p : Int) = (q : Int) := ⟨(mx - p).toNat, by omega⟩
    have hw : IntKind.i64.wrap (mx - (p : Int)) = mx - (p : Int) := by simp [IntKind.wrap, IntKind.bits, IntKind.signed]; omega
    have hrT : repT y (p : Int) mx lz = joinT [(y, p), (optT y lz q, 1)] := by
      unfold repT
      rw [if_pos hmx, hq]
      simp
    have HC1 := opt65 (New A W w1) g y q lz w1.drew HA1.out (HG.out.kept (fun _ _ => rfl) (fun _ h => h)) (by omega) hd
    rw [← hq] at HC1
    have hdo := optT_dle y lz q
    have HRT := hid hrT
    have hq2 : q ≤ 1000 := by omega
    clear hrT hq
    go_upto_region 3 with fail
    go_region_held2 (fun w3 => w3.cell? ⟨z, 4, none⟩ = some (.int .i64 (p : Int)) ∧ w3.cell? ⟨z, 5, none⟩ = some (.int .i64 mx) ∧ w3.cell? ⟨z, 6, none⟩ = some (.bool lz))
      (first | exact HSS.out _ HD1.out | exact HSS.out _ (HD1.out.trans (Joins.below_le HB2.out HD1.out.size)) | (rw [← HV2.out]; exact HSS.out _ HV2B.out) | exact HSS.out _ (HV2B.out.trans (Joins.below_le HB4.out HV2B.out.size)))
      (first | (go_at_call 65; (with_reducible refine HC1.mono ?_); rintro e w2 ⟨f2, rfl, hf2, hb2⟩; have HF2 := hid hf2; have HB2 := hid hb2; have hz12 : w1.heap.size ≤ w2.heap.size := hb2.size; clear hf2 hb2 HC1; obtain ⟨V2, hV2⟩ : ∃ V2, V2 = w2.alloc (.cells #[pt g, .int .i64 (p : Int), pt f2, .int .i64 1] 92) := ⟨_, rfl⟩; have hV2n : V2.heap[w2.heap.size]? = some (.cells #[pt g, .int .i64 (p : Int), pt f2, .int .i64 1] 92 (0, 0)) := (by rw [hV2]; exact heap_alloc_new w2 _); have hV2b : Below w2.heap.size w2 V2 := (by rw [hV2]; exact Joins.below_alloc1 w2 _); have hV2s : V2.heap.size = w2.heap.size + 1 := (by rw [hV2]; simp); have hb12 : Below w1.heap.size w1 V2 := (HD1.out.trans (Joins.below_le HB2.out HD1.out.size)).trans (Joins.below_le hV2b hz12); have HC2 := join_pair (A := New A W V2) hV2n (by omega) (New.low HAW.out (by omega)) (.inr ⟨by omega, by omega⟩) (HG.out.up HA1.out hb12 (fun b hb => hb.more (Nat.le_refl _) (by omega))) (HF2.out.up (New.low HA1.out hz12) hV2b (fun b hb => (New.trans (v' := w1) hb (by omega) (by omega)).more (Nat.le_refl _) (by omega))) (by omega) (by omega); have HV2B := hid hb12; have HV2 := hid hV2; have HV2S := hid hV2s; clear hV2 hV2n hV2b hV2s hb12) | (go_at_call 43; rw [← HV2.out]; (with_reducible refine HC2.mono ?_); rintro e w4 ⟨f4, rfl, hf4, hb4⟩; have HF4 := hid hf4; have HB4 := hid hb4; clear hf4 hb4 HC2))
    all_goals
      go_wp2
      go_ret
      have hz := HZ.out
      have hsw := HSW.out
      have hv2 := HV2S.out
      have hz4 : V2.heap.size ≤ w4.heap.size := HB4.out.size
      refine ⟨f4, rfl, ?_, ?_⟩
      · rw [HRT.out]
        exact HF4.out.kept (fun _ _ => rfl) (fun b hb => (New.trans (v' := V2) hb (by omega) (by omega)).more (by omega) (Nat.le_refl _))
      · exact ((HBW.out.trans (Joins.below_le HB1.out (by omega))).trans (Joins.below_le HV2B.out (by omega))).trans (Joins.below_le HB4.out (by omega))
end Go.Proofs.Ytdidopgenhpakaa
