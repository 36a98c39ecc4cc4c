/- HELPERS: is a tree too great, too deep? -/
import Derived.Test.YtdidopgenhpakaaTb
import Derived.Test.YtdidopgenhpakaaOb
namespace Go.Proofs.Ytdidopgenhpakaa
open Go.RowKit
set_option linter.unusedVariables false
set_option linter.unusedSimpArgs false
theorem hid' {p : Prop} (h : p) : Hid p := h
theorem nine' {w : World} {b : Nat} {t : TypeId} {a0 a1 a2 a3 a4 a5 a6 a7 a8 : Value} (h : w.heap[b]? = some (.cells #[a0, a1, a2, a3, a4, a5, a6, a7, a8] t (0, 0))) :
    w.cell? ⟨b, 0, none⟩ = some a0 ∧ w.cell? ⟨b, 1, none⟩ = some a1 ∧ w.cell? ⟨b, 2, none⟩ = some a2 ∧ w.cell? ⟨b, 3, none⟩ = some a3 ∧ w.cell? ⟨b, 4, none⟩ = some a4 ∧ w.cell? ⟨b, 5, none⟩ = some a5 ∧ w.cell? ⟨b, 6, none⟩ = some a6 ∧ w.cell? ⟨b, 7, none⟩ = some a7 ∧ w.cell? ⟨b, 8, none⟩ = some a8 :=
  ⟨Joins.cell_of_block h 0, Joins.cell_of_block h 1, Joins.cell_of_block h 2, Joins.cell_of_block h 3, Joins.cell_of_block h 4, Joins.cell_of_block h 5, Joins.cell_of_block h 6, Joins.cell_of_block h 7, Joins.cell_of_block h 8⟩
set_option maxRecDepth 100000 in
set_option maxHeartbeats 4000000 in
theorem great27 {w0 : World} {B : Nat} {N : Nv} {t : Tn} (h : TI w0 B N t) : ∀ (l : Int) (w : World), 0 ≤ l ∧ l ≤ 4194304 → B ≤ w.heap.size → (∀ b, b < B → w.heap[b]? = w0.heap[b]?) →
    Calls Try.prog 27 #[N.v, .int .i64 l] w fun e w' => e = .returned (.int .i64 (t.gr l)) ∧ Below w.heap.size w w' := by
  induction h with
  | @mk N R ts ND ok hr hR hRk hs hS hk ih =>
  intro l w hl hB hw
  have hmax := ok.s
  obtain ⟨k, r1, r2, r3, a2, s1, s2, s3, a4, a5, a6, a7, a8⟩ := N
  simp only at hs hS hmax
  simp only [Tn.gr]
  have HG := grL_spec ts (l - 1) (by omega)
  have ad0 : IntKind.i64.wrap (l - 1) = l - 1 := by simp [IntKind.wrap, IntKind.bits, IntKind.signed]; omega
  obtain ⟨r, hrr⟩ : ∃ r, r = grL ts (l - 1) := ⟨_, rfl⟩
  rw [← hrr]
  have HR := hid' hrr
  have HW := hid' hw
  have HS := hid' hS
  have IH := hid' ih
  have hm2 : s2 ≤ 9223372036854775807 := by have : maxLen = 9223372036854775807 := rfl; omega
  have HL := hid' hs
  have HHL := hid' hl
  clear ok hr hR hRk hk hS hw hrr ih hmax HG hs
  go_enter Try.func27, Try.ntmps27
  go_wp2_with fail
  go_loopw [1, 5] (fun u y wq => ∃ i : Nat, y = .int .i64 (i : Int) ∧ i ≤ s2 ∧ (∃ q, u = .int .i64 q ∧ (-1 ≤ q ∧ q ≤ 4194304) ∧ Hid (grL (ts.drop i) q = r)) ∧ Hid (Below w.heap.size w wq) ∧ Hid (wq.heap[w.heap.size]? = some (.cells #[.int .i64 k, .slice r1 r2 r3, .int .i64 a2, .slice s1 s2 s3, .int .i64 a4, .int .i64 a5, .bool a6, .int .i64 a7, .string a8] 25 (0, 0)))) (fun _ y _ => s2 - (intOf y).toNat)
  case atStart => exact ⟨0, rfl, by omega, ⟨l - 1, rfl, by omega, HR.out.symm⟩, Joins.below_alloc1 w _, heap_alloc_new w _⟩
  case round =>
    obtain ⟨i, rfl, hi, ⟨q, rfl, hq, HQ⟩, BK, BX⟩ := hrel
    obtain ⟨o0, o1, o2, o3, o4, o5, o6, o7, o8⟩ := nine' BX.out
    by_cases hil : i < s2
    · have b1 : decide ((i : Int) < (s2 : Int)) = true := by simp; omega
      have b2 : (i : Int) < (s2 : Int) := by omega
      by_cases hq0 : 0 ≤ q
      · have b3 : decide (q ≥ 0) = true := by simp; omega
        have b3' : decide (0 ≤ q) = true := by simp; omega
        have hlt : i < ts.length := by rw [← HL.out]; exact hil
        obtain ⟨b, o, hs1, hb, hc⟩ := HS.out (by omega)
        subst hs1
        have hwk : ∀ b, b < B → wr.heap[b]? = w0.heap[b]? := fun b hb => (BK.out.block b (by omega)).trans (HW.out b hb)
        obtain ⟨n0, n1, n2, n3, n4, n5, n6, n7, n8⟩ := (hc i hlt).kept (hwk b hb)
        have HC := IH.out i hlt q wr ⟨hq0, hq.2⟩ (by have := BK.out.size; omega) hwk
        have hsp := Tn.gr_spec ts[i] q hq0
        rw [grL_drop ts i hlt q hq0] at HQ
        obtain ⟨g, hg⟩ : ∃ g, g = ts[i].gr q := ⟨_, rfl⟩
        rw [← hg] at HC HQ hsp
        have hg2 : -1 ≤ g ∧ g ≤ 4194304 := by omega
        obtain ⟨M, hM⟩ : ∃ M, M = ND i := ⟨_, rfl⟩
        rw [← hM] at HC n0 n1 n2 n3 n4 n5 n6 n7 n8
        have ad1 : IntKind.i64.wrap ((i : Int) + 1) = (i : Int) + 1 := by simp [IntKind.wrap, IntKind.bits, IntKind.signed]; omega
        clear hM hg hwk hc hsp hlt
        go_wp2_with (first | (go_at_call 27; (with_reducible refine HC.mono ?_); rintro e w2 ⟨rfl, hb2⟩; have HB2 := hid' hb2; clear hb2 HC))
        refine ⟨⟨i + 1, by push_cast; rfl, by omega, ⟨_, rfl, hg2, HQ.out⟩, ?_, ?_⟩, ?_⟩
        · exact BK.out.trans (Joins.below_le HB2.out BK.out.size)
        · exact (HB2.out.block _ (Array.getElem?_eq_some_iff.1 BX.out).1).trans BX.out
        · simp [intOf]
          omega
      · have b3 : decide (q ≥ 0) = false := by simp; omega
        have b3' : decide (0 ≤ q) = false := by simp; omega
        have e := HQ.out
        rw [grL_neg _ _ (by omega)] at e
        go_wp2
        go_ret
        exact ⟨by first | rfl | exact ret_int e, BK.out⟩
    · have b1 : decide ((i : Int) < (s2 : Int)) = false := by simp; omega
      obtain rfl : i = s2 := by omega
      have e := HQ.out
      rw [HL.out, List.drop_length] at e
      simp only [grL] at e
      go_wp2
      go_ret
      exact ⟨by first | rfl | exact ret_int e, BK.out⟩
theorem deep10 {w : World} {N : Nv} {t : Tn} (h : TI w w.heap.size N t) : Calls Try.prog 7 #[N.v] w fun e w' => e = .returned (.bool (decide (4194304 < t.nodes))) ∧ Below w.heap.size w w' := by
  have HC := great27 h 4194304 (w.alloc (.cells (Array.mk N.cs) 25)) (by omega) (by simp) (fun b hb => heap_alloc_old w _ hb)
  have HS := Tn.gr_spec t 4194304 (by omega)
  obtain ⟨k, r1, r2, r3, a2, s1, s2, s3, a4, a5, a6, a7, a8⟩ := N
  obtain ⟨g, hg⟩ : ∃ g, g = t.gr 4194304 := ⟨_, rfl⟩
  rw [← hg] at HC HS
  have e1 : decide (g < 0) = decide (4194304 < t.nodes) := by rw [Bool.eq_iff_iff]; simp; omega
  clear hg HS
  go_enter Try.func7, Try.ntmps7
  go_wp2_with (first | (go_at_call 27; (with_reducible refine HC.mono ?_); rintro e w2 ⟨rfl, hb2⟩; have HB2 := hid' hb2; clear hb2 HC))
  go_ret
  exact ⟨by first | rfl | exact ret_bool e1, (Joins.below_alloc1 w _).trans (Joins.below_le HB2.out (by simp))⟩
theorem great14 {w : World} {N : Nv} {t : Tn} (h : TI w w.heap.size N t) : Calls Try.prog 10 #[N.v] w fun e w' => e = .returned (.bool (decide (200000 < t.nodes))) ∧ Below w.heap.size w w' := by
  have HC := great27 h 200000 (w.alloc (.cells (Array.mk N.cs) 25)) (by omega) (by simp) (fun b hb => heap_alloc_old w _ hb)
  have HS := Tn.gr_spec t 200000 (by omega)
  obtain ⟨k, r1, r2, r3, a2, s1, s2, s3, a4, a5, a6, a7, a8⟩ := N
  obtain ⟨g, hg⟩ : ∃ g, g = t.gr 200000 := ⟨_, rfl⟩
  rw [← hg] at HC HS
  have e1 : decide (g < 0) = decide (200000 < t.nodes) := by rw [Bool.eq_iff_iff]; simp; omega
  clear hg HS
  go_enter Try.func10, Try.ntmps10
  go_wp2_with (first | (go_at_call 27; (with_reducible refine HC.mono ?_); rintro e w2 ⟨rfl, hb2⟩; have HB2 := hid' hb2; clear hb2 HC))
  go_ret
  exact ⟨by first | rfl | exact ret_bool e1, (Joins.below_alloc1 w _).trans (Joins.below_le HB2.out (by simp))⟩
end Go.Proofs.Ytdidopgenhpakaa
