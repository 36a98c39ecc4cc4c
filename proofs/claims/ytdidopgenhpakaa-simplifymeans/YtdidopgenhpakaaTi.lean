/- HELPERS: is a tree sound? both answers. -/
import Derived.Test.YtdidopgenhpakaaTh
import Derived.Test.YtdidopgenhpakaaTj
namespace Go.Proofs.Ytdidopgenhpakaa
open Go.RowKit
set_option linter.unusedVariables false
set_option linter.unusedSimpArgs false
set_option maxRecDepth 100000 in
set_option maxHeartbeats 8000000 in
theorem count47 {w0 : World} {B : Nat} {N : Nv} {t : Tn} (h : TI w0 B N t) : ∀ (l d : Int) (w : World), 0 ≤ l ∧ l ≤ 4194304 → 0 ≤ d ∧ d ≤ 10001 → B ≤ w.heap.size → (∀ b, b < B → w.heap[b]? = w0.heap[b]?) →
    Calls Try.prog 36 #[N.v, .int .i64 l, .int .i64 d] w fun e w' => e = .returned (.int .i64 (t.ct l d)) ∧ Below w.heap.size w w' := by
  induction h with
  | @mk N R ts ND ok hr hR hRk hs hS hk ih =>
  intro l d w hl hd hB hw
  have HN := node60 N R (w.alloc (.cells #[.int .i64 N.k, .slice N.r1 N.r2 N.r3, .int .i64 N.a2, .slice N.s1 N.s2 N.s3, .int .i64 N.a4, .int .i64 N.a5, .bool N.a6, .int .i64 N.a7, .string N.a8] 25)) ok hr ((hR.kept (fun b hb => (heap_alloc_old w _ (by omega)).trans (hw b hb))).le (by simp; omega))
  have hmax := ok.s
  obtain ⟨k, r1, r2, r3, a2, s1, s2, s3, a4, a5, a6, a7, a8⟩ := N
  dsimp only at hs hS hmax HN
  simp only [Tn.ct]
  rw [show nodeB k R a2 s2 a4 a5 a6 a7 a8 = nodeB k R a2 ts.length a4 a5 a6 a7 a8 by rw [hs]] at HN
  have ad0 : IntKind.i64.wrap (l - 1) = l - 1 := by simp [IntKind.wrap, IntKind.bits, IntKind.signed]; omega
  have adD : IntKind.i64.wrap (d + 1) = d + 1 := by simp [IntKind.wrap, IntKind.bits, IntKind.signed]; omega
  generalize nodeB k R a2 ts.length a4 a5 a6 a7 a8 = nb at HN ⊢
  have HW := hid' hw
  have HS := hid' hS
  have IH := hid' ih
  have hm2 : s2 ≤ 9223372036854775807 := by have : maxLen = 9223372036854775807 := rfl; omega
  have HL := hid' hs
  clear ok hr hR hRk hk hS hw ih hmax hs
  have HAL := hid' (Joins.below_alloc1 w (.cells #[.int .i64 k, .slice r1 r2 r3, .int .i64 a2, .slice s1 s2 s3, .int .i64 a4, .int .i64 a5, .bool a6, .int .i64 a7, .string a8] 25))
  have HNB := hid' (heap_alloc_new w (.cells #[.int .i64 k, .slice r1 r2 r3, .int .i64 a2, .slice s1 s2 s3, .int .i64 a4, .int .i64 a5, .bool a6, .int .i64 a7, .string a8] 25))
  cases nb
  · simp only [Bool.false_eq_true, false_and, if_false]
    go_enter Try.func36, Try.ntmps36
    go_wp2_with (first | (go_at_call 52; (with_reducible refine HN.mono ?_); rintro e w1 ⟨rfl, hb1⟩; have HB1 := hid' hb1; clear hb1 HN))
    go_ret
    exact ⟨rfl, HAL.out.trans (Joins.below_le HB1.out (by simp))⟩
  by_cases hdd : d ≤ 10000
  · have c1 : decide (d > 10000) = false := by simp; omega
    have c1' : decide (10000 < d) = false := by simp; omega
    rw [if_pos ⟨rfl, hdd⟩]
    obtain ⟨r, hrr⟩ : ∃ r, r = ctL ts (l - 1) (d + 1) := ⟨_, rfl⟩
    rw [← hrr]
    have HR := hid' hrr
    clear hrr
    go_enter Try.func36, Try.ntmps36
    go_wp2_with (first | (go_at_call 52; (with_reducible refine HN.mono ?_); rintro e w1 ⟨rfl, hb1⟩; obtain ⟨z0, z1, z2, z3, z4, z5, z6, z7, z8⟩ := nine' ((hb1.block w.heap.size (by simp)).trans HNB.out); have HB1 := hid' hb1; clear hb1 HN))
    have HF1 := hid' (HAL.out.trans (Joins.below_le HB1.out (by simp)))
    have HX1 := hid' ((HB1.out.block w.heap.size (by simp)).trans HNB.out)
    clear HAL HNB HB1 z0 z1 z2 z3 z4 z5 z6 z7 z8
    go_loopw [1, 8] (fun u y wq => ∃ i : Nat, y = .int .i64 (i : Int) ∧ i ≤ s2 ∧ (∃ q, u = .int .i64 q ∧ (-1 ≤ q ∧ q ≤ 4194304) ∧ Hid (ctL (ts.drop i) q (d + 1) = r)) ∧ Hid (Below w.heap.size w wq) ∧ Hid (wq.heap[w.heap.size]? = some (.cells #[.int .i64 k, .slice r1 r2 r3, .int .i64 a2, .slice s1 s2 s3, .int .i64 a4, .int .i64 a5, .bool a6, .int .i64 a7, .string a8] 25 (0, 0)))) (fun _ y _ => s2 - (intOf y).toNat)
    case atStart => exact ⟨0, rfl, by omega, ⟨l - 1, rfl, by omega, HR.out.symm⟩, HF1.out, HX1.out⟩
    case round =>
      obtain ⟨i, rfl, hi, ⟨q, rfl, hq, HQ⟩, BK, BX⟩ := hrel
      obtain ⟨o0, o1, o2, o3, o4, o5, o6, o7, o8⟩ := nine' BX.out
      by_cases hil : i < s2
      · have b1 : decide ((i : Int) < (s2 : Int)) = true := by simp; omega
        have b2 : (i : Int) < (s2 : Int) := by omega
        by_cases hq0 : 0 ≤ q
        · have b3 : decide (q ≥ 0) = true := by simp; omega
          have b3' : decide (0 ≤ q) = true := by simp; omega
          have hlt : i < ts.length := by rw [← HL.out]; exact hil
          obtain ⟨b, o, hs1, hb, hc⟩ := HS.out (by omega)
          subst hs1
          have hwk : ∀ b, b < B → wr.heap[b]? = w0.heap[b]? := fun b hb => (BK.out.block b (by omega)).trans (HW.out b hb)
          obtain ⟨n0, n1, n2, n3, n4, n5, n6, n7, n8⟩ := (hc i hlt).kept (hwk b hb)
          have HC := IH.out i hlt q (d + 1) wr ⟨hq0, hq.2⟩ (by omega) (by have := BK.out.size; omega) hwk
          have hsp := Tn.ct_spec ts[i] q (d + 1) hq0 (by omega)
          rw [ctL_drop ts i hlt q (d + 1) hq0] at HQ
          obtain ⟨g, hg⟩ : ∃ g, g = ts[i].ct q (d + 1) := ⟨_, rfl⟩
          rw [← hg] at HC HQ hsp
          have hg2 : -1 ≤ g ∧ g ≤ 4194304 := by omega
          obtain ⟨M, hM⟩ : ∃ M, M = ND i := ⟨_, rfl⟩
          rw [← hM] at HC n0 n1 n2 n3 n4 n5 n6 n7 n8
          have ad1 : IntKind.i64.wrap ((i : Int) + 1) = (i : Int) + 1 := by simp [IntKind.wrap, IntKind.bits, IntKind.signed]; omega
          clear hM hg hwk hc hsp hlt
          go_wp2_with (first | (go_at_call 36; (with_reducible refine HC.mono ?_); rintro e w2 ⟨rfl, hb2⟩; have HB2 := hid' hb2; clear hb2 HC))
          refine ⟨⟨i + 1, by push_cast; rfl, by omega, ⟨_, rfl, hg2, HQ.out⟩, ?_, ?_⟩, ?_⟩
          · exact BK.out.trans (Joins.below_le HB2.out BK.out.size)
          · exact (HB2.out.block _ (Array.getElem?_eq_some_iff.1 BX.out).1).trans BX.out
          · simp [intOf]
            omega
        · have b3 : decide (q ≥ 0) = false := by simp; omega
          have b3' : decide (0 ≤ q) = false := by simp; omega
          have e := HQ.out
          rw [ctL_neg _ _ _ (by omega)] at e
          go_wp2
          go_ret
          exact ⟨by first | rfl | exact ret_int e, BK.out⟩
      · have b1 : decide ((i : Int) < (s2 : Int)) = false := by simp; omega
        obtain rfl : i = s2 := by omega
        have e := HQ.out
        rw [HL.out, List.drop_length] at e
        simp only [ctL] at e
        go_wp2
        go_ret
        exact ⟨by first | rfl | exact ret_int e, BK.out⟩
  · have c1 : decide (d > 10000) = true := by simp; omega
    have c1' : decide (10000 < d) = true := by simp; omega
    rw [if_neg (fun h => hdd h.2)]
    go_enter Try.func36, Try.ntmps36
    go_wp2_with (first | (go_at_call 52; (with_reducible refine HN.mono ?_); rintro e w1 ⟨rfl, hb1⟩; have HB1 := hid' hb1; clear hb1 HN))
    go_ret
    exact ⟨rfl, HAL.out.trans (Joins.below_le HB1.out (by simp))⟩
theorem sound25 {w : World} {N : Nv} {t : Tn} (h : TI w w.heap.size N t) : Calls Try.prog 22 #[N.v] w fun e w' => e = .returned (.int .i64 (if t.sound then 0 else 50)) ∧ Below w.heap.size w w' := by
  have HC := count47 h 200000 1 (w.alloc (.cells (Array.mk N.cs) 25)) (by omega) (by omega) (by simp) (fun b hb => heap_alloc_old w _ hb)
  have HS := sound_ct t
  obtain ⟨k, r1, r2, r3, a2, s1, s2, s3, a4, a5, a6, a7, a8⟩ := N
  obtain ⟨g, hg⟩ : ∃ g, g = t.ct 200000 1 := ⟨_, rfl⟩
  rw [← hg] at HC HS
  rw [← HS]
  clear hg HS
  by_cases h0 : 0 ≤ g
  · have e1 : decide (g < 0) = false := by simp; omega
    rw [decide_eq_true h0]
    go_enter Try.func22, Try.ntmps22
    go_wp2_with (first | (go_at_call 36; (with_reducible refine HC.mono ?_); rintro e w2 ⟨rfl, hb2⟩; have HB2 := hid' hb2; clear hb2 HC))
    go_ret
    exact ⟨rfl, (Joins.below_alloc1 w _).trans (Joins.below_le HB2.out (by simp))⟩
  · have e1 : decide (g < 0) = true := by simp; omega
    rw [decide_eq_false h0]
    go_enter Try.func22, Try.ntmps22
    go_wp2_with (first | (go_at_call 36; (with_reducible refine HC.mono ?_); rintro e w2 ⟨rfl, hb2⟩; have HB2 := hid' hb2; clear hb2 HC))
    go_ret
    exact ⟨rfl, (Joins.below_alloc1 w _).trans (Joins.below_le HB2.out (by simp))⟩
end Go.Proofs.Ytdidopgenhpakaa
