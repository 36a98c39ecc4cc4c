/- HELPERS: a tree's greatest index, its size, its census, by those of the nodes below. -/
import Derived.Test.YtnpocciioedgpaaBc
namespace Go.Proofs.Ytnpocciioedgpaa
open Go.RowKit
set_option linter.unusedVariables false
set_option linter.unusedSimpArgs false
/-- the nodes below a node -/
structure Kids (w : World) (N : Nd) (m sb : Nat) (ND : Nat → Nd) (KD : Nat → Int) : Prop where
  len : N.s2 = m
  few : m ≤ 1000000
  ad : 0 < m → N.s1 = some ⟨sb, 0, none⟩ ∧ m ≤ N.s3 ∧ sb < w.heap.size
  cells : ∀ i, i < m → C9 w sb i (ND i) (KD i)
theorem nine {w : World} {b : Nat} {a0 a1 a2 a3 a4 a5 a6 a7 a8 : Value} (h : w.heap[b]? = some (.cells #[a0, a1, a2, a3, a4, a5, a6, a7, a8] 28 (0, 0))) :
    w.cell? ⟨b, 0, none⟩ = some a0 ∧ w.cell? ⟨b, 1, none⟩ = some a1 ∧ w.cell? ⟨b, 2, none⟩ = some a2 ∧ w.cell? ⟨b, 3, none⟩ = some a3 ∧ w.cell? ⟨b, 4, none⟩ = some a4 ∧ w.cell? ⟨b, 5, none⟩ = some a5 ∧ w.cell? ⟨b, 6, none⟩ = some a6 ∧ w.cell? ⟨b, 7, none⟩ = some a7 ∧ w.cell? ⟨b, 8, none⟩ = some a8 :=
  ⟨Joins.cell_of_block h 0, Joins.cell_of_block h 1, Joins.cell_of_block h 2, Joins.cell_of_block h 3, Joins.cell_of_block h 4, Joins.cell_of_block h 5, Joins.cell_of_block h 6, Joins.cell_of_block h 7, Joins.cell_of_block h 8⟩
theorem node_box (w : World) (N : Nd) (k : Int) : (w.alloc (N.o k)).heap[w.heap.size]? = some (.cells #[.int .i64 k, .slice N.r1 N.r2 N.r3, .int .i64 N.a2, .slice N.s1 N.s2 N.s3, .int .i64 N.a4, .int .i64 N.a5, .bool N.a6, .int .i64 N.a7, .string N.a8] 28 (0, 0)) := heap_alloc_new w _
set_option maxRecDepth 100000 in
set_option maxHeartbeats 4000000 in
theorem greatest52 (N : Nd) (k : Int) (m sb : Nat) (ND : Nat → Nd) (KD : Nat → Int) (gs gi : Nat → Int) (w : World) (hK : Hid (Kids w N m sb ND KD)) (h0 : gi 0 = N.a7) (hg : Hid (∀ i, i < m → gi (i + 1) = max (gi i) (gs i)))
    (HB : Hid (∀ i, i < m → ∀ w', Below w.heap.size w w' → Calls Try.prog 52 #[(ND i).v (KD i)] w' fun e w'' => e = .returned (.int .i64 (gs i)) ∧ Below w'.heap.size w' w'')) :
    Calls Try.prog 52 #[N.v k] w fun e w' => e = .returned (.int .i64 (gi m)) ∧ Below w.heap.size w w' := by
  obtain ⟨r1, r2, r3, a2, s1, s2, s3, a4, a5, a6, a7, a8⟩ := N
  have hlen := hK.out.len
  have few := hK.out.few
  simp only at hlen h0
  subst hlen
  obtain ⟨x, hx⟩ : ∃ x, x = gi 0 := ⟨_, rfl⟩
  rw [← h0]
  clear h0
  rw [← hx]
  have HX := hid hx
  clear hx
  go_enter Try.func52, Try.ntmps52
  go_wp2_with fail
  go_loopw [3, 11] (fun u y wq => ∃ i : Nat, y = .int .i64 (i : Int) ∧ i ≤ s2 ∧ (∃ q, u = .int .i64 q ∧ Hid (q = gi i)) ∧ Hid (Below w.heap.size w wq)) (fun _ y _ => s2 - (intOf y).toNat)
  case atStart => exact ⟨0, rfl, by omega, ⟨x, rfl, HX.out⟩, Joins.below_alloc1 w _⟩
  case round =>
    obtain ⟨i, rfl, hi, ⟨q, rfl, HQ⟩, BK⟩ := hrel
    by_cases hil : i < s2
    · have b1 : decide ((i : Int) < (s2 : Int)) = true := by simp; omega
      have b2 : (i : Int) < (s2 : Int) := by omega
      obtain ⟨hs1, hcap, hsb⟩ := hK.out.ad (by omega)
      simp only at hs1 hcap
      subst hs1
      obtain ⟨n0, n1, n2, n3, n4, n5, n6, n7, n8⟩ := (hK.out.cells i hil).kept (BK.out.block sb hsb)
      have HC := HB.out i hil (wr.alloc ((ND i).o (KD i))) (BK.out.trans (Joins.below_le (Joins.below_alloc1 wr _) BK.out.size))
      have hge := hg.out i hil
      obtain ⟨N, hN⟩ : ∃ N, N = ND i := ⟨_, rfl⟩
      obtain ⟨k', hk⟩ : ∃ k', k' = KD i := ⟨_, rfl⟩
      obtain ⟨t, ht⟩ : ∃ t, t = gs i := ⟨_, rfl⟩
      rw [← hN] at HC n1 n2 n3 n4 n5 n6 n7 n8
      rw [← hk] at HC n0
      rw [← ht] at HC hge
      rw [← HQ.out] at hge
      have HGE := hid hge
      have ad1 : IntKind.i64.wrap ((i : Int) + 1) = (i : Int) + 1 := by simp [IntKind.wrap, IntKind.bits, IntKind.signed]; omega
      clear hN hk ht hge
      go_wp2_with (first | (go_at_call 52; (with_reducible refine HC.mono ?_); rintro e w2 ⟨rfl, hb2⟩; have HB2 := hid hb2; clear hb2 HC))
      refine ⟨⟨i + 1, by push_cast; rfl, by omega, ⟨_, rfl, HGE.out.symm⟩, ?_⟩, ?_⟩
      · exact BK.out.trans (Joins.below_le ((Joins.below_alloc1 wr _).trans (Joins.below_le HB2.out (by simp))) BK.out.size)
      · simp [intOf]
        omega
    · have b1 : decide ((i : Int) < (s2 : Int)) = false := by simp; omega
      obtain rfl : i = s2 := by omega
      go_wp2
      go_ret
      exact ⟨ret_int HQ.out, BK.out⟩
set_option maxRecDepth 100000 in
set_option maxHeartbeats 4000000 in
theorem sizeRep49 (N : Nd) (one : Int) (w : World) (h4 : N.a4 = 1) (h5 : N.a5 = -1) (ho : 0 ≤ one ∧ one ≤ 1000000000) : Calls Try.prog 49 #[N.v 6, .int .i64 one] w fun e w' => e = .returned (.int .i64 (one + 1)) ∧ Below w.heap.size w w' := by
  obtain ⟨r1, r2, r3, a2, s1, s2, s3, a4, a5, a6, a7, a8⟩ := N
  simp only at h4 h5
  subst h4 h5
  have w1 : IntKind.i64.wrap one = one := by simp [IntKind.wrap, IntKind.bits, IntKind.signed]; omega
  have w2 : IntKind.i64.wrap (one + 1) = one + 1 := by simp [IntKind.wrap, IntKind.bits, IntKind.signed]; omega
  go_enter Try.func49, Try.ntmps49
  go_wp2
  go_ret
  exact ⟨ret_int (by simp [w1, w2]), Joins.below_alloc1 w _⟩
set_option maxRecDepth 100000 in
set_option maxHeartbeats 4000000 in
theorem size30 (N : Nd) (k : Int) (m sb : Nat) (ND : Nat → Nd) (KD : Nat → Int) (zs bs : Nat → Int) (r : Int) (w : World) (hK : Hid (Kids w N m sb ND KD)) (h0 : bs 0 = 0) (hg : Hid (∀ i, i < m → bs (i + 1) = bs i + zs i)) (hbd : Hid (∀ i, i ≤ m → 0 ≤ bs i ∧ bs i ≤ 1000000))
    (hk : k ≠ 6 ∧ r = min (1 + bs m) 2001 ∨ k = 6 ∧ N.a4 = 1 ∧ N.a5 = -1 ∧ r = min (bs m + 1) 2001)
    (HB : Hid (∀ i, i < m → ∀ w', Below w.heap.size w w' → Calls Try.prog 30 #[(ND i).v (KD i)] w' fun e w'' => e = .returned (.int .i64 (zs i)) ∧ Below w'.heap.size w' w'')) :
    Calls Try.prog 30 #[N.v k] w fun e w' => e = .returned (.int .i64 r) ∧ Below w.heap.size w w' := by
  have hlen := hK.out.len
  have few := hK.out.few
  obtain ⟨r1, r2, r3, a2, s1, s2, s3, a4, a5, a6, a7, a8⟩ := N
  simp only at hlen
  subst hlen
  have HK := hid hk
  have HX := hid h0
  clear hk h0
  go_enter Try.func30, Try.ntmps30
  go_wp2_with fail
  go_loopw [3, 10] (fun u y wq => ∃ i : Nat, y = .int .i64 (i : Int) ∧ i ≤ s2 ∧ (∃ q, u = .int .i64 q ∧ Hid (q = bs i)) ∧ Hid (Below w.heap.size w wq) ∧ Hid (wq.heap[w.heap.size]? = some (.cells #[.int .i64 k, .slice r1 r2 r3, .int .i64 a2, .slice s1 s2 s3, .int .i64 a4, .int .i64 a5, .bool a6, .int .i64 a7, .string a8] 28 (0, 0)))) (fun _ y _ => s2 - (intOf y).toNat)
  case atStart => exact ⟨0, rfl, by omega, ⟨0, rfl, HX.out.symm⟩, Joins.below_alloc1 w _, heap_alloc_new w _⟩
  case round =>
    obtain ⟨i, rfl, hi, ⟨q, rfl, HQ⟩, BK, BX⟩ := hrel
    by_cases hil : i < s2
    · have b1 : decide ((i : Int) < (s2 : Int)) = true := by simp; omega
      have b2 : (i : Int) < (s2 : Int) := by omega
      obtain ⟨hs1, hcap, hsb⟩ := hK.out.ad (by omega)
      simp only at hs1 hcap
      subst hs1
      obtain ⟨n0, n1, n2, n3, n4, n5, n6, n7, n8⟩ := (hK.out.cells i hil).kept (BK.out.block sb hsb)
      have HC := HB.out i hil (wr.alloc ((ND i).o (KD i))) (BK.out.trans (Joins.below_le (Joins.below_alloc1 wr _) BK.out.size))
      have hge := hg.out i hil
      have hb1 := hbd.out (i + 1) hil
      obtain ⟨N, hN⟩ : ∃ N, N = ND i := ⟨_, rfl⟩
      obtain ⟨k', hk⟩ : ∃ k', k' = KD i := ⟨_, rfl⟩
      obtain ⟨t, ht⟩ : ∃ t, t = zs i := ⟨_, rfl⟩
      rw [← hN] at HC n1 n2 n3 n4 n5 n6 n7 n8
      rw [← hk] at HC n0
      rw [← ht] at HC hge
      rw [← HQ.out] at hge
      rw [hge] at hb1
      have HGE := hid hge
      have ad1 : IntKind.i64.wrap ((i : Int) + 1) = (i : Int) + 1 := by simp [IntKind.wrap, IntKind.bits, IntKind.signed]; omega
      have ad2 : IntKind.i64.wrap (q + t) = q + t := by simp [IntKind.wrap, IntKind.bits, IntKind.signed]; omega
      clear hN hk ht hge hb1
      go_wp2_with (first | (go_at_call 30; (with_reducible refine HC.mono ?_); rintro e w2 ⟨rfl, hb2⟩; have HB2 := hid hb2; clear hb2 HC))
      refine ⟨⟨i + 1, by push_cast; rfl, by omega, ⟨_, rfl, HGE.out.symm⟩, ?_, ?_⟩, ?_⟩
      · exact BK.out.trans (Joins.below_le ((Joins.below_alloc1 wr _).trans (Joins.below_le HB2.out (by simp))) BK.out.size)
      · exact (HB2.out.block _ (by have := (Array.getElem?_eq_some_iff.1 BX.out).1; simp; omega)).trans ((heap_alloc_old wr _ (Array.getElem?_eq_some_iff.1 BX.out).1).trans BX.out)
      · simp [intOf]
        omega
    · have b1 : decide ((i : Int) < (s2 : Int)) = false := by simp; omega
      obtain rfl : i = s2 := by omega
      have hb1 := hbd.out i (by omega)
      rw [← HQ.out] at hb1
      obtain ⟨o0, o1, o2, o3, o4, o5, o6, o7, o8⟩ := nine BX.out
      have ad2 : IntKind.i64.wrap (1 + q) = 1 + q := by simp [IntKind.wrap, IntKind.bits, IntKind.signed]; omega
      rcases HK.out with ⟨hk6, hr⟩ | ⟨hk6, h4, h5, hr⟩
      · have k1 : (k == 6) = false := by simpa using hk6
        have HR := hid hr
        rw [← HQ.out] at HR
        clear hr hk6
        go_wp2
        go_ret
        exact ⟨ret_int HR.out.symm, BK.out⟩
      · have h4' : a4 = 1 := h4
        have h5' : a5 = -1 := h5
        subst hk6 h4' h5'
        have HC := sizeRep49 ⟨r1, r2, r3, a2, s1, i, s3, 1, -1, a6, a7, a8⟩ q wr rfl rfl ⟨by omega, by omega⟩
        have HR := hid hr
        rw [← HQ.out] at HR
        clear hr
        go_wp2_with (first | (go_at_call 49; (with_reducible refine HC.mono ?_); rintro e w2 ⟨rfl, hb2⟩; have HB2 := hid hb2; clear hb2 HC))
        go_ret
        exact ⟨ret_int HR.out.symm, BK.out.trans (Joins.below_le HB2.out BK.out.size)⟩
end Go.Proofs.Ytnpocciioedgpaa
