/- HELPERS: is a tree heavy? -/
import Derived.Test.YtdidopgenhpakaaGg
namespace Go.Proofs.Ytdidopgenhpakaa
open Go.RowKit
set_option linter.unusedVariables false
set_option linter.unusedSimpArgs false
mutual
/-- no list of ranges beyond the form's bound -/
def Tn.small : Tn → Bool
  | .mk _ R _ s _ _ _ _ _ => decide (R.length * 16 ≤ 140737488351232) && smallL s
def smallL : List Tn → Bool
  | [] => true
  | t :: ts => t.small && smallL ts
end
theorem smallL_get {ts : List Tn} (h : smallL ts = true) : ∀ (i : Nat) (hi : i < ts.length), ts[i].small = true := by
  induction ts with
  | nil => intro i hi; simp at hi
  | cons t ts ih =>
    simp only [smallL, Bool.and_eq_true] at h
    intro i hi
    cases i with
    | zero => exact h.1
    | succ i => exact ih h.2 i (by simpa using hi)
theorem wt_mul (T : Int) (n : Nat) (h1 : 1 ≤ T) (h2 : T ≤ 1099511627776 / (n : Int)) (hn : 1 ≤ n) : ∃ v : Nat, wrap64 (T * (n : Int)) = (v : Int) ∧ v ≤ 1099511627776 := by
  obtain ⟨m, rfl⟩ : ∃ m : Nat, T = (m : Int) := ⟨T.toNat, by omega⟩
  have h3 : (m : Int) * (n : Int) ≤ 1099511627776 := by
    have := Int.mul_le_of_le_ediv (by omega : (0 : Int) < (n : Int)) h2
    exact this
  have e : (m : Int) * (n : Int) = ((m * n : Nat) : Int) := by push_cast; rfl
  rw [e] at h3 ⊢
  refine ⟨m * n, ?_, by omega⟩
  unfold wrap64
  omega
set_option maxRecDepth 100000 in
set_option maxHeartbeats 8000000 in
theorem weight28 {w0 : World} {B : Nat} {N : Nv} {t : Tn} (h : TI w0 B N t) : t.small = true → ∀ (w : World), B ≤ w.heap.size → (∀ b, b < B → w.heap[b]? = w0.heap[b]?) →
    Calls Try.prog 28 #[N.v] w fun e w' => ∃ v : Nat, e = .returned (.int .i64 (v : Int)) ∧ v ≤ 1099511627776 ∧ Below w.heap.size w w' := by
  induction h with
  | @mk N R ts ND ok hr hR hRk hs hS hk ih =>
  intro hsm w hB hw
  simp only [Tn.small, Bool.and_eq_true, decide_eq_true_eq] at hsm
  have ihS : ∀ i (hi : i < ts.length), ∀ w1 : World, B ≤ w1.heap.size → (∀ b, b < B → w1.heap[b]? = w0.heap[b]?) → Calls Try.prog 28 #[(ND i).v] w1 fun e w' => ∃ v : Nat, e = .returned (.int .i64 (v : Int)) ∧ v ≤ 1099511627776 ∧ Below w1.heap.size w1 w' := fun i hi => ih i hi (smallL_get hsm.2 i hi)
  have hBW : Below w.heap.size w (w.alloc (.cells #[.int .i64 N.k, .slice N.r1 N.r2 N.r3, .int .i64 N.a2, .slice N.s1 N.s2 N.s3, .int .i64 N.a4, .int .i64 N.a5, .bool N.a6, .int .i64 N.a7, .string N.a8] 25)) := Joins.below_alloc1 w _
  have hBN : BN (w.alloc (.cells #[.int .i64 N.k, .slice N.r1 N.r2 N.r3, .int .i64 N.a2, .slice N.s1 N.s2 N.s3, .int .i64 N.a4, .int .i64 N.a5, .bool N.a6, .int .i64 N.a7, .string N.a8] 25)) w.heap.size N := heap_alloc_new w _
  have hmax := ok.s
  have hok4 := ok.a4
  have hok5 := ok.a5
  obtain ⟨k, r1, r2, r3, a2, s1, s2, s3, a4, a5, a6, a7, a8⟩ := N
  dsimp only at hs hS hr hBN hBW hmax hok4 hok5
  have hm2 : s2 ≤ 9223372036854775807 := by have : maxLen = 9223372036854775807 := rfl; omega
  have hr2 : r2 ≤ 8796093021952 := by omega
  have ad0 : IntKind.i64.wrap (1 + (r2 : Int)) = 1 + (r2 : Int) := by simp [IntKind.wrap, IntKind.bits, IntKind.signed]; omega
  obtain ⟨q0, q1, q2, q3, q4, q5, q6, q7, q8⟩ := nine' hBN
  obtain ⟨W, hW⟩ : ∃ W, W = w.alloc (.cells #[.int .i64 k, .slice r1 r2 r3, .int .i64 a2, .slice s1 s2 s3, .int .i64 a4, .int .i64 a5, .bool a6, .int .i64 a7, .string a8] 25) := ⟨_, rfl⟩
  rw [← hW] at hBN hBW q0 q1 q2 q3 q4 q5 q6 q7 q8
  obtain ⟨z, hz⟩ : ∃ z, z = w.heap.size := ⟨_, rfl⟩
  rw [← hz] at hBN hBW q0 q1 q2 q3 q4 q5 q6 q7 q8
  have HBN := hid hBN
  have HBW := hid hBW
  have HZ := hid hz
  have HSS := hid hS
  have HIH := hid ihS
  have HL := hid hs
  have HW := hid hw
  clear hBN hBW hS ihS ih hk ok hr hR hRk hs hw hsm hmax
  go_enter Try.func28, Try.ntmps28
  go_upto_region 1 with fail
  rw [← hz, ← hW]
  clear hW hz
  go_wp2_with fail
  go_loopw [3, 4] (fun u y wq => ∃ i : Nat, y = .int .i64 (i : Int) ∧ i ≤ s2 ∧ (∃ n : Nat, u = .int .i64 (n : Int) ∧ 1 ≤ n ∧ n ≤ 8796093021953) ∧ Hid (Below z w wq) ∧ Hid (BN wq z ⟨k, r1, r2, r3, a2, s1, s2, s3, a4, a5, a6, a7, a8⟩)) (fun _ y _ => s2 - (intOf y).toNat)
  case atStart => exact ⟨0, rfl, by omega, ⟨1 + r2, by push_cast; rfl, by omega, by omega⟩, HBW.out, HBN.out⟩
  case round =>
    obtain ⟨i, rfl, hi, ⟨n, rfl, hn1, hn2⟩, BK, BX⟩ := hrel
    clear q0 q1 q2 q3 q4 q5 q6 q7 q8
    obtain ⟨q0, q1, q2, q3, q4, q5, q6, q7, q8⟩ := nine' BX.out
    by_cases hil : i < s2
    · have b1 : decide ((i : Int) < (s2 : Int)) = true := by simp; omega
      have b2 : (i : Int) < (s2 : Int) := by omega
      have ad1 : IntKind.i64.wrap ((i : Int) + 1) = (i : Int) + 1 := by simp [IntKind.wrap, IntKind.bits, IntKind.signed]; omega
      have hlt : i < ts.length := by have := HL.out; omega
      obtain ⟨b, o, rfl, hbl, h9⟩ := HSS.out (by omega)
      have hbw : wr.heap[b]? = w.heap[b]? := BK.out.block b (by have := HZ.out; omega)
      obtain ⟨n0, n1, n2, n3, n4, n5, n6, n7, n8⟩ := (h9 i hlt).kept (hbw.trans (HW.out b hbl))
      have HC := HIH.out i hlt wr (by have := BK.out.size; have := HZ.out; omega) (fun b hb => (BK.out.block b (by have := HZ.out; omega)).trans (HW.out b hb))
      have hzl := (Array.getElem?_eq_some_iff.1 BX.out).1
      obtain ⟨M, hM⟩ : ∃ M, M = ND i := ⟨_, rfl⟩
      rw [← hM] at HC n0 n1 n2 n3 n4 n5 n6 n7 n8
      clear h9 hbw hM
      go_wp2_with (first | (go_at_call 28; (with_reducible refine HC.mono ?_); rintro e w2 ⟨v, rfl, hv, hb2⟩; have ad2 : IntKind.i64.wrap ((n : Int) + (v : Int)) = (n : Int) + (v : Int) := (by simp [IntKind.wrap, IntKind.bits, IntKind.signed]; omega); have hB2 := (hb2.block z hzl).trans BX.out; clear q0 q1 q2 q3 q4 q5 q6 q7 q8; obtain ⟨q0, q1, q2, q3, q4, q5, q6, q7, q8⟩ := nine' hB2; have HB2 := hid hb2; have HX2 := hid hB2; clear hb2 hB2 HC))
      have hz := HZ.out
      refine ⟨⟨i + 1, by push_cast; rfl, by omega, ⟨min 1099511627776 (n + v), by congr 1; omega, by omega, by omega⟩, BK.out.trans (Joins.below_le HB2.out (by have := BK.out.size; omega)), HX2.out⟩, by simp [intOf]; omega⟩
    · have b1 : decide ((i : Int) < (s2 : Int)) = false := by simp; omega
      have hn0 : ((n : Int) == 0) = false := by simp; omega
      have hn0' : (n : Int) ≠ 0 := by omega
      by_cases hk : k = 6
      · have g6 : (k == 6) = true := by simpa using hk
        go_wp2
        all_goals go_ret
        all_goals first | exact ⟨1099511627776, rfl, by omega, by rw [← HZ.out]; exact BK.out⟩ | (obtain ⟨v, hv, hv2⟩ := wt_mul a5 n (by omega) (by omega) hn1; exact ⟨v, congrArg (fun x : Int => Ending.returned (Value.int .i64 x)) hv, hv2, by rw [← HZ.out]; exact BK.out⟩) | (obtain ⟨v, hv, hv2⟩ := wt_mul a4 n (by omega) (by omega) hn1; exact ⟨v, congrArg (fun x : Int => Ending.returned (Value.int .i64 x)) hv, hv2, by rw [← HZ.out]; exact BK.out⟩) | (obtain ⟨v, hv, hv2⟩ := wt_mul 1 n (by omega) (by omega) hn1; exact ⟨v, congrArg (fun x : Int => Ending.returned (Value.int .i64 x)) hv, hv2, by rw [← HZ.out]; exact BK.out⟩) | (obtain ⟨v, hv, hv2⟩ := wt_mul 1 n (by omega) (by omega) hn1; rw [Int.one_mul] at hv; exact ⟨v, congrArg (fun x : Int => Ending.returned (Value.int .i64 x)) hv, hv2, by rw [← HZ.out]; exact BK.out⟩)
      · have g6 : (k == 6) = false := by simpa using hk
        go_wp2
        all_goals go_ret
        all_goals first | exact ⟨1099511627776, rfl, by omega, by rw [← HZ.out]; exact BK.out⟩ | (obtain ⟨v, hv, hv2⟩ := wt_mul 1 n (by omega) (by omega) hn1; exact ⟨v, congrArg (fun x : Int => Ending.returned (Value.int .i64 x)) hv, hv2, by rw [← HZ.out]; exact BK.out⟩) | (obtain ⟨v, hv, hv2⟩ := wt_mul 1 n (by omega) (by omega) hn1; rw [Int.one_mul] at hv; exact ⟨v, congrArg (fun x : Int => Ending.returned (Value.int .i64 x)) hv, hv2, by rw [← HZ.out]; exact BK.out⟩) | (obtain ⟨v, hv, hv2⟩ := wt_mul 1 n (by omega) (by omega) hn1; rw [Int.one_mul, IntWalk.wrap64_in _ (by omega)] at hv; exact ⟨n, rfl, by omega, by rw [← HZ.out]; exact BK.out⟩)
set_option maxRecDepth 100000 in
set_option maxHeartbeats 4000000 in
theorem heavy8 {w : World} {N : Nv} {t : Tn} (h : TI w w.heap.size N t) (hs : t.small = true) : Calls Try.prog 8 #[N.v] w fun e w' => ∃ b, e = .returned (.bool b) ∧ Below w.heap.size w w' := by
  have HC := weight28 h hs (w.alloc (.cells #[.int .i64 N.k, .slice N.r1 N.r2 N.r3, .int .i64 N.a2, .slice N.s1 N.s2 N.s3, .int .i64 N.a4, .int .i64 N.a5, .bool N.a6, .int .i64 N.a7, .string N.a8] 25)) (by simp) (fun b hb => heap_alloc_old w _ hb)
  have HB := hid (Joins.below_alloc1 w (.cells #[.int .i64 N.k, .slice N.r1 N.r2 N.r3, .int .i64 N.a2, .slice N.s1 N.s2 N.s3, .int .i64 N.a4, .int .i64 N.a5, .bool N.a6, .int .i64 N.a7, .string N.a8] 25))
  obtain ⟨k, r1, r2, r3, a2, s1, s2, s3, a4, a5, a6, a7, a8⟩ := N
  dsimp only at HC HB
  clear h
  go_enter Try.func8, Try.ntmps8
  go_wp2_with (first | (go_at_call 28; (with_reducible refine HC.mono ?_); rintro e w2 ⟨v, rfl, hv, hb2⟩; have HB2 := hid hb2; clear hb2 HC))
  all_goals go_ret
  all_goals exact ⟨_, rfl, HB.out.trans (Joins.below_le HB2.out HB.out.size)⟩
end Go.Proofs.Ytdidopgenhpakaa
