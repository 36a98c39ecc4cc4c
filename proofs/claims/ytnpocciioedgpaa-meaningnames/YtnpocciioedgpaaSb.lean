/- HELPERS: nodes that are sound; a census that takes a tree. -/
import Derived.Test.YtnpocciioedgpaaSa
namespace Go.Proofs.Ytnpocciioedgpaa
open Go.RowKit
set_option linter.unusedVariables false
set_option linter.unusedSimpArgs false
abbrev E0 : ByteArray := ⟨#[]⟩
set_option maxRecDepth 100000 in
set_option maxHeartbeats 4000000 in
theorem isZero80 (r1 s1 : Option Addr) (r3 s3 : Nat) (w : World) : Calls Try.prog 80 #[.agg #[.int .i64 0, .slice r1 0 r3, .int .i64 0, .slice s1 0 s3, .int .i64 0, .int .i64 0, .bool false, .int .i64 0, .string E0]] w fun e w' => e = .returned (.bool true) ∧ Below w.heap.size w w' := by
  go_enter Try.func80, Try.ntmps80
  go_wp2
  go_ret
  exact ⟨rfl, Joins.below_alloc1 w _⟩
set_option maxRecDepth 100000 in
theorem isCount78 (w : World) : Calls Try.prog 78 #[.int .i64 1, .int .i64 (-1)] w fun e w' => e = .returned (.bool true) ∧ w' = w := by
  go_enter Try.func78, Try.ntmps78
  go_wp2
  go_ret
  exact ⟨rfl, rfl⟩
theorem below_two (w : World) (o o' : Obj) : Below w.heap.size w ((w.alloc o).alloc o') := (Joins.below_alloc1 w o).trans (Joins.below_le (Joins.below_alloc1 _ o') (by simp))
set_option maxRecDepth 100000 in
set_option maxHeartbeats 4000000 in
theorem sound_empty (w : World) : Calls Try.prog 61 #[.agg #[.int .i64 1, .slice none 0 0, .int .i64 0, .slice none 0 0, .int .i64 0, .int .i64 0, .bool false, .int .i64 0, .string E0]] w fun e w' => e = .returned (.bool true) ∧ Below w.heap.size w w' := by
  have HZ := isZero80 none none 0 0
  go_enter Try.func61, Try.ntmps61
  go_wp2_with (go_at_call 80; (with_reducible refine (HZ _).mono ?_); rintro e w1 ⟨rfl, hb⟩)
  go_ret
  exact ⟨rfl, (below_two w _ _).trans (Joins.below_le hb (by simp; try omega))⟩
set_option maxRecDepth 100000 in
set_option maxHeartbeats 4000000 in
theorem sound_alt (s1 : Option Addr) (m s3 : Nat) (w : World) (hm : 2 ≤ m) (hm2 : m ≤ 1000000) : Calls Try.prog 61 #[.agg #[.int .i64 5, .slice none 0 0, .int .i64 0, .slice s1 m s3, .int .i64 0, .int .i64 0, .bool false, .int .i64 0, .string E0]] w fun e w' => e = .returned (.bool true) ∧ Below w.heap.size w w' := by
  have HZ := isZero80 none none 0 0
  have b1 : decide ((m : Int) ≥ 2) = true := by simp; omega
  have b2 : decide ((2 : Int) ≤ (m : Int)) = true := by simp; omega
  have b3 : decide (2 ≤ m) = true := by simp; omega
  go_enter Try.func61, Try.ntmps61
  go_wp2_with (go_at_call 80; (with_reducible refine (HZ _).mono ?_); rintro e w1 ⟨rfl, hb⟩)
  go_ret
  exact ⟨rfl, (below_two w _ _).trans (Joins.below_le hb (by simp; try omega))⟩
set_option maxRecDepth 100000 in
set_option maxHeartbeats 4000000 in
theorem sound_rep (s1 : Option Addr) (s3 : Nat) (w : World) : Calls Try.prog 61 #[.agg #[.int .i64 6, .slice none 0 0, .int .i64 0, .slice s1 1 s3, .int .i64 1, .int .i64 (-1), .bool false, .int .i64 0, .string E0]] w fun e w' => e = .returned (.bool true) ∧ Below w.heap.size w w' := by
  have HZ := isZero80 none none 0 0
  have HC := isCount78
  go_enter Try.func61, Try.ntmps61
  go_wp2_with (first | (go_at_call 78; (with_reducible refine (HC _).mono ?_); rintro e w1 ⟨rfl, rfl⟩) | (go_at_call 80; (with_reducible refine (HZ _).mono ?_); rintro e w1 ⟨rfl, hb⟩))
  go_ret
  exact ⟨rfl, (below_two w _ _).trans (Joins.below_le hb (by simp; try omega))⟩
set_option maxRecDepth 100000 in
set_option maxHeartbeats 4000000 in
theorem sound_group (s1 : Option Addr) (s3 : Nat) (w : World) : Calls Try.prog 61 #[.agg #[.int .i64 7, .slice none 0 0, .int .i64 0, .slice s1 1 s3, .int .i64 0, .int .i64 0, .bool false, .int .i64 1, .string E0]] w fun e w' => e = .returned (.bool true) ∧ Below w.heap.size w w' := by
  have HZ := isZero80 none none 0 0
  go_enter Try.func61, Try.ntmps61
  go_wp2_with (go_at_call 80; (with_reducible refine (HZ _).mono ?_); rintro e w1 ⟨rfl, hb⟩)
  go_ret
  exact ⟨rfl, (below_two w _ _).trans (Joins.below_le hb (by simp; try omega))⟩
set_option maxRecDepth 100000 in
set_option maxHeartbeats 4000000 in
theorem sound_class (N0 : Nat) (rv : Option Addr) (r2 r3 : Nat) (R : Rng) (w : World) (hr : w.ownsRow N0 70 2 (.slice rv r2 r3) R.length (fl R)) (hl : r2 = R.length) (hR : rightB R = true) : Calls Try.prog 61 #[.agg #[.int .i64 2, .slice rv r2 r3, .int .i64 0, .slice none 0 0, .int .i64 0, .int .i64 0, .bool false, .int .i64 0, .string E0]] w fun e w' => e = .returned (.bool true) ∧ Below w.heap.size w w' := by
  have HZ := isZero80 none none 0 0
  have hle := rightB_len hR
  have HC : ∀ o o', Calls Try.prog 76 #[.slice rv r2 r3] ((w.alloc o).alloc o') fun e w' => e = .returned (.bool true) ∧ Below ((w.alloc o).alloc o').heap.size ((w.alloc o).alloc o') w' := fun o o' => by
    have h := right25 R rv r2 r3 ((w.alloc o).alloc o') hl (by omega) (row_at (N0 := N0) (row_kept hr fun b hb => (heap_alloc_old _ _ (by have := (hr.lt b hb).2; simp; omega)).trans (heap_alloc_old w _ (hr.lt b hb).2)) (Nat.le_refl _))
    rw [hR] at h
    exact h
  clear hr hl hR
  go_enter Try.func61, Try.ntmps61
  go_wp2_with (first | (go_at_call 76; (with_reducible refine (HC _ _).mono ?_); rintro e w1 ⟨rfl, hb1⟩; have k0 : w1.cell? ⟨w.heap.size + 1, 0, none⟩ = some (.int .i64 0) := (hb1.cell (p := ⟨w.heap.size + 1, 0, none⟩) (by simp)).trans (by simp); have k1 : w1.cell? ⟨w.heap.size + 1, 1, none⟩ = some (.slice none 0 0) := (hb1.cell (p := ⟨w.heap.size + 1, 1, none⟩) (by simp)).trans (by simp); have k2 : w1.cell? ⟨w.heap.size + 1, 2, none⟩ = some (.int .i64 0) := (hb1.cell (p := ⟨w.heap.size + 1, 2, none⟩) (by simp)).trans (by simp); have k3 : w1.cell? ⟨w.heap.size + 1, 3, none⟩ = some (.slice none 0 0) := (hb1.cell (p := ⟨w.heap.size + 1, 3, none⟩) (by simp)).trans (by simp); have k4 : w1.cell? ⟨w.heap.size + 1, 4, none⟩ = some (.int .i64 0) := (hb1.cell (p := ⟨w.heap.size + 1, 4, none⟩) (by simp)).trans (by simp); have k5 : w1.cell? ⟨w.heap.size + 1, 5, none⟩ = some (.int .i64 0) := (hb1.cell (p := ⟨w.heap.size + 1, 5, none⟩) (by simp)).trans (by simp); have k6 : w1.cell? ⟨w.heap.size + 1, 6, none⟩ = some (.bool false) := (hb1.cell (p := ⟨w.heap.size + 1, 6, none⟩) (by simp)).trans (by simp); have k7 : w1.cell? ⟨w.heap.size + 1, 7, none⟩ = some (.int .i64 0) := (hb1.cell (p := ⟨w.heap.size + 1, 7, none⟩) (by simp)).trans (by simp); have k8 : w1.cell? ⟨w.heap.size + 1, 8, none⟩ = some (.string E0) := (hb1.cell (p := ⟨w.heap.size + 1, 8, none⟩) (by simp)).trans (by simp); have HB1 := hid hb1; clear hb1) | (go_at_call 80; (with_reducible refine (HZ _).mono ?_); rintro e w2 ⟨rfl, hb⟩))
  go_ret
  exact ⟨rfl, ((below_two w _ _).trans (Joins.below_le HB1.out (by simp; try omega))).trans (Joins.below_le hb (by have := HB1.out.size; simp at this; omega))⟩
set_option maxRecDepth 100000 in
set_option maxHeartbeats 4000000 in
theorem takes48 (c : Nat) (N : Nd) (k : Int) (m sb : Nat) (ND : Nat → Nd) (KD : Nat → Int) (cs : Nat → Int) (cnt d : Int) (w : World) (hK : Hid (Kids w N m sb ND KD)) (hc : w.heap[c]? = some (.cells #[.int .i64 cnt] 80 (0, 0))) (h0 : Hid (cs 0 = cnt + 1)) (hcb : 0 ≤ cnt ∧ cnt < 200000) (hd : 0 ≤ d ∧ d ≤ 10000) (hsc : 0 < m → sb ≠ c)
    (HS : ∀ w', Chg w w' [c] [c] → Calls Try.prog 61 #[N.v k] w' fun e w'' => e = .returned (.bool true) ∧ Below w'.heap.size w' w'')
    (HB : Hid (∀ i, i < m → ∀ w', Chg w w' [c] [c] → w'.heap[c]? = some (.cells #[.int .i64 (cs i)] 80 (0, 0)) → Calls Try.prog 48 #[pt c, (ND i).v (KD i), .int .i64 (d + 1)] w' fun e w'' => e = .returned (.bool true) ∧ Chg w' w'' [c] [c] ∧ w''.heap[c]? = some (.cells #[.int .i64 (cs (i + 1))] 80 (0, 0)))) :
    Calls Try.prog 48 #[pt c, N.v k, .int .i64 d] w fun e w' => e = .returned (.bool true) ∧ Chg w w' [c] [c] ∧ w'.heap[c]? = some (.cells #[.int .i64 (cs m)] 80 (0, 0)) := by
  have hlen := hK.out.len
  have few := hK.out.few
  obtain ⟨r1, r2, r3, a2, s1, s2, s3, a4, a5, a6, a7, a8⟩ := N
  simp only at hlen
  subst hlen
  have hcl := (Array.getElem?_eq_some_iff.1 hc).1
  have c0 : w.cell? ⟨c, 0, none⟩ = some (.int .i64 cnt) := bx0 hc
  have cf := Joins.unfrozen_of_block hc 0
  have ad0 : IntKind.i64.wrap (cnt + 1) = cnt + 1 := by simp [IntKind.wrap, IntKind.bits, IntKind.signed]; omega
  have adD : IntKind.i64.wrap (d + 1) = d + 1 := by simp [IntKind.wrap, IntKind.bits, IntKind.signed]; omega
  have b0 : decide (cnt + 1 > 200000) = false := by simp; omega
  have b0' : decide (200000 < cnt + 1) = false := by simp; omega
  have b00 : decide (d > 10000) = false := by simp; omega
  have b00' : decide (10000 < d) = false := by simp; omega
  have HC0 := hid hc
  clear hc
  go_enter Try.func48, Try.ntmps48
  go_upto_region 2 with fail
  obtain ⟨W, hW⟩ : ∃ W, W = (w.setCell ⟨c, 0, none⟩ (.int .i64 (cnt + 1))).alloc (.cells #[.int .i64 k, .slice r1 r2 r3, .int .i64 a2, .slice s1 s2 s3, .int .i64 a4, .int .i64 a5, .bool a6, .int .i64 a7, .string a8] 28) := ⟨_, rfl⟩
  rw [← hW]
  have hsw : (w.setCell ⟨c, 0, none⟩ (.int .i64 (cnt + 1))).heap.size = w.heap.size := by simp [World.setCell]
  have hWs : W.heap.size = w.heap.size + 1 := by rw [hW]; simp [World.setCell]
  have hWz : W.heap[w.heap.size]? = some (.cells #[.int .i64 k, .slice r1 r2 r3, .int .i64 a2, .slice s1 s2 s3, .int .i64 a4, .int .i64 a5, .bool a6, .int .i64 a7, .string a8] 28 (0, 0)) := by rw [hW, ← hsw]; exact heap_alloc_new _ _
  have hWc : W.heap[c]? = some (.cells #[.int .i64 (cnt + 1)] 80 (0, 0)) := by rw [hW]; exact (heap_alloc_old _ _ (by omega)).trans (Joins.block_setCell (i := 0) HC0.out _)
  have hch : Chg w W [c] [c] := by rw [hW]; exact ((Chg.refl w [c]).set (a := ⟨c, 0, none⟩) _ (by simp)).alloc _
  have x0 : W.cell? ⟨c, 0, none⟩ = some (.int .i64 (cnt + 1)) := bx0 hWc
  obtain ⟨z, hz⟩ : ∃ z, z = w.heap.size := ⟨_, rfl⟩
  rw [← hz] at hWz hWs ⊢
  obtain ⟨o0, o1, o2, o3, o4, o5, o6, o7, o8⟩ := nine hWz
  have HCH := hid hch
  have HWZ := hid hWz
  have HWC := hid hWc
  have HWS := hid hWs
  have HZ := hid hz
  have HS1 := HS W hch
  clear hW hsw hWs hWz hWc hch hz c0 cf HS
  go_wp2_with (first | (go_at_call 61; (with_reducible refine HS1.mono ?_); rintro e w1 ⟨rfl, hb1⟩; have k3 : w1.cell? ⟨z, 3, none⟩ = some (.slice s1 s2 s3) := (hb1.cell (p := ⟨z, 3, none⟩) (by have := HWS.out; show z < W.heap.size; omega)).trans o3; have HB1 := hid hb1; clear hb1 HS1))
  have hch1 : Chg w w1 [c] [c] := HCH.out.trans (Chg.of_below HB1.out)
  have hc1 : w1.heap[c]? = some (.cells #[.int .i64 (cnt + 1)] 80 (0, 0)) := (HB1.out.block c (by have := HWS.out; have := HZ.out; omega)).trans HWC.out
  have HC1 := hid hc1
  have HCH1 := hid hch1
  clear hc1 hch1
  go_loopw [33] (fun y wq => ∃ i : Nat, y = .int .i64 (i : Int) ∧ i ≤ s2 ∧ Hid (Chg w wq [c] [c] ∧ wq.heap[c]? = some (.cells #[.int .i64 (cs i)] 80 (0, 0)))) (fun y _ => s2 - (intOf y).toNat)
  case atStart => exact ⟨0, rfl, by omega, by refine ⟨HCH1.out, ?_⟩; rw [h0.out]; exact HC1.out⟩
  case round =>
    obtain ⟨i, rfl, hi, HI⟩ := hrel
    by_cases hil : i < s2
    · have b1 : decide ((i : Int) < (s2 : Int)) = true := by simp; omega
      have b2 : (i : Int) < (s2 : Int) := by omega
      obtain ⟨hs1, hcap, hsb⟩ := hK.out.ad (by omega)
      have hsc1 := hsc (by omega)
      simp only at hs1 hcap
      subst hs1
      obtain ⟨n0, n1, n2, n3, n4, n5, n6, n7, n8⟩ := (hK.out.cells i hil).kept (HI.out.1.block sb hsb (by simpa using hsc1))
      have HC := HB.out i hil (wr.alloc ((ND i).o (KD i))) (HI.out.1.alloc _) ((heap_alloc_old wr _ (by have := HI.out.1.size; omega)).trans HI.out.2)
      obtain ⟨N, hN⟩ : ∃ N, N = ND i := ⟨_, rfl⟩
      obtain ⟨k', hk⟩ : ∃ k', k' = KD i := ⟨_, rfl⟩
      rw [← hN] at HC n1 n2 n3 n4 n5 n6 n7 n8
      rw [← hk] at HC n0
      have ad1 : IntKind.i64.wrap ((i : Int) + 1) = (i : Int) + 1 := by simp [IntKind.wrap, IntKind.bits, IntKind.signed]; omega
      clear hN hk
      go_wp2_with (first | (go_at_call 48; (with_reducible refine HC.mono ?_); rintro e w2 ⟨rfl, hc2, hb2⟩; have HC2 := hid hc2; have HB2 := hid hb2; clear hb2 hc2 HC))
      refine ⟨⟨i + 1, by push_cast; rfl, by omega, by exact ⟨(HI.out.1.alloc _).trans HC2.out, HB2.out⟩⟩, ?_⟩
      simp [intOf]
      omega
    · have b1 : decide ((i : Int) < (s2 : Int)) = false := by simp; omega
      obtain rfl : i = s2 := by omega
      go_wp2
      go_ret
      exact ⟨rfl, HI.out.1, HI.out.2⟩
set_option maxRecDepth 100000 in
set_option maxHeartbeats 4000000 in
theorem sound29 (N : Nd) (k : Int) (cn : Int) (w : World) (HB : ∀ (c : Nat) (w' : World), Below w.heap.size w w' → w.heap.size ≤ c → w'.heap[c]? = some (.cells #[.int .i64 0] 80 (0, 0)) → Calls Try.prog 48 #[pt c, N.v k, .int .i64 1] w' fun e w'' => e = .returned (.bool true) ∧ Chg w' w'' [c] [c] ∧ w''.heap[c]? = some (.cells #[.int .i64 cn] 80 (0, 0))) :
    Calls Try.prog 29 #[N.v k] w fun e w' => e = .returned (.int .i64 0) ∧ Below w.heap.size w w' := by
  have HC := HB (w.heap.size + 1) ((w.alloc (N.o k)).alloc (.cells #[.int .i64 0] 80)) (below_two w _ _) (by omega) (by
    have e : (w.alloc (N.o k)).heap.size = w.heap.size + 1 := by simp
    rw [← e]; exact heap_alloc_new _ _)
  clear HB
  go_enter Try.func29, Try.ntmps29
  go_wp2_with (first | (go_at_call 48; (with_reducible refine HC.mono ?_); rintro e w2 ⟨rfl, hc2, hb2⟩; have HC2 := hid hc2; clear hb2 hc2 HC))
  go_ret
  refine ⟨rfl, (below_two w _ _).trans (HC2.out.below (by simp; omega) (fun k hk => by simp at hk; omega))⟩
end Go.Proofs.Ytnpocciioedgpaa
