/- HELPERS: Rq, Th, Nx, Py, Ez, Pv, Rc, Ti, Tk. -/
import Derived.Test.YtnpocciioedgpaaK04
import Derived.Laws.BitsLemmas
/- HELPERS: slices.Repeat of one number, any number of times. -/
namespace Go.Proofs.Ytnpocciioedgpaa
open Go.RowKit
set_option linter.unusedVariables false
set_option linter.unusedSimpArgs false
theorem u64_small (n : Int) (h0 : 0 ≤ n) (h1 : n < 2 ^ 40) : IntKind.u64.wrap n = n := by
  simp [IntKind.wrap, IntKind.bits, IntKind.signed]
  omega
theorem and32 (c : Nat) (hc : c ≤ 10000) : bits .and .u64 (c : Int) 4294967295 = (c : Int) := by
  have h := bits_mask .u64 40 (by decide) u64_small 32 (by decide) (c : Int) (by omega) (by omega)
  have e : ((2 : Int) ^ 32 - 1) = 4294967295 := by decide
  rw [e] at h
  rw [h]
  omega
set_option maxRecDepth 100000 in
set_option maxHeartbeats 2000000 in
theorem mul88g (c : Nat) (hc : c ≤ 10000) (w : World) : Calls Try.prog 88 #[.int .u64 1, .int .u64 (c : Int)] w fun e w' => e = .returned (.tuple #[.int .u64 0, .int .u64 (c : Int)]) ∧ w' = w := by
  have a1 : bits .and .u64 1 4294967295 = 1 := and32 1 (by omega)
  have a2 := and32 c hc
  have a0 : bits .and .u64 0 4294967295 = 0 := and32 0 (by omega)
  have wc : IntKind.u64.wrap (c : Int) = (c : Int) := u64_small _ (by omega) (by omega)
  have w0 : IntKind.u64.wrap 0 = 0 := u64_small _ (by omega) (by omega)
  have d1 : (c : Int) / 4294967296 = 0 := by omega
  go_enter Try.func88, Try.ntmps88
  go_wp2
  go_ret2
  refine ⟨?_, rfl⟩
  simp [a1, a2, a0, wc, w0, d1]
set_option maxRecDepth 100000 in
set_option maxHeartbeats 2000000 in
theorem mul63g (c : Nat) (hc : c ≤ 10000) (w : World) : Calls Try.prog 63 #[.int .u64 1, .int .u64 (c : Int)] w fun e w' => e = .returned (.tuple #[.int .u64 0, .int .u64 (c : Int)]) ∧ w' = w := by
  have HC := mul88g c hc
  have wc : IntKind.u64.wrap (c : Int) = (c : Int) := u64_small _ (by omega) (by omega)
  go_enter Try.func63, Try.ntmps63
  go_wp2_with (go_at_call 88; (with_reducible refine (HC _).mono ?_); rintro e w' ⟨rfl, rfl⟩)
  go_ret2
  exact ⟨rfl, rfl⟩
theorem makeN (c : Nat) (hc : c ≤ 10000) (w : World) : (Instr.makeSlice 29 (.int .i64 (c : Int)) (.int .i64 (c : Int))).run Try.prog w = .ok (.slice (some ⟨w.heap.size, 0, none⟩) c c) (w.alloc (.cells (madeCells #[.int .i64 0] c) 3)) :=
  run_make_row' (P := Try.prog) 29 3 (.int .i64 0) 8 Try.underlying29 info3 rfl .i64 .i64 c (by omega) (by omega) w
theorem below_setC {B b : Nat} {a : World} (hb : B ≤ b) : ∀ (vs : List Value) (o : Nat) (w : World), Below B a w → Below B a (w.setCells b o vs)
  | [], _, _, h => h
  | v :: vs, o, w, h => below_setC hb vs (o + 1) _ (h.setCell (by exact hb) v)
/-- a row of c cells of which the first ones are written -/
def RI (nb c n : Nat) (W : World) : Prop := ∃ arr : Array Value, W.heap[nb]? = some (.cells arr 3 (0, 0)) ∧ arr.size = c ∧ ∀ i, i < n → arr[i]? = some M1
theorem RI.next {nb c n : Nat} {W : World} (h : RI nb c n W) (hn : n < c) : RI nb c (n + 1) (W.setCell ⟨nb, n, none⟩ M1) := by
  obtain ⟨arr, h1, h2, h3⟩ := h
  refine ⟨arr.setIfInBounds n M1, Joins.block_setCell (i := n) h1 _, by simp [h2], fun i hi => ?_⟩
  by_cases e : i = n
  · subst e; simp [h2, hn]
  · rw [Array.getElem?_setIfInBounds_ne (by omega)]; exact h3 i (by omega)
theorem RI.more {nb c : Nat} : ∀ (k n : Nat) {W : World}, RI nb c n W → n + k ≤ c → RI nb c (n + k) (W.setCells nb n (List.replicate k M1)) := by
  intro k
  induction k with
  | zero => intro n W h _; exact h
  | succ k ih =>
    intro n W h hk
    rw [List.replicate_succ, World.setCells]
    have := ih (n + 1) (h.next (by omega)) (by omega)
    rwa [show n + 1 + k = n + (k + 1) by omega] at this
theorem RI.cell {nb c n : Nat} {W : World} (h : RI nb c n W) {i : Nat} (hi : i < n) : W.cell? ⟨nb, i, none⟩ = some M1 := by
  obtain ⟨arr, h1, h2, h3⟩ := h
  rw [Joins.cell_of_block h1 i]
  exact h3 i hi
theorem RI.some {nb c n : Nat} {W : World} (h : RI nb c n W) {i : Nat} (hi : i < c) : (W.cell? ⟨nb, i, none⟩).isSome = true := by
  obtain ⟨arr, h1, h2, h3⟩ := h
  rw [Joins.cell_of_block h1 i]
  simp [h2, hi]
theorem RI.free {nb c n : Nat} {W : World} (h : RI nb c n W) (i : Nat) : W.frozen? ⟨nb, i, none⟩ = false := by
  obtain ⟨arr, h1, h2, h3⟩ := h
  exact Joins.unfrozen_of_block h1 i
theorem copy_self (nb c n : Nat) (W : World) (h : RI nb c n W) (hn : 1 ≤ n) (hnc : n ≤ c) :
    (Builtin.copy_ #[29, 29] 3 #[.slice (some ⟨nb, n, none⟩) (c - n) (c - n), .slice (some ⟨nb, 0, none⟩) n c]).run Try.prog W = .ok (.int .i64 ((min n (c - n) : Nat) : Int)) (W.setCells nb n (List.replicate (min n (c - n)) M1)) := by
  have h := run_copy_cells (P := Try.prog) W 29 29 3 3 nb n (c - n) (c - n) ⟨nb, 0, none⟩ n c (List.replicate (min n (c - n)) M1) Try.underlying29 size3 (by simp) (by
      intro j v hj
      have hj' : j < min n (c - n) := by
        have := (List.getElem?_eq_some_iff.1 hj).1
        simpa using this
      simp [hj'] at hj
      subst hj
      have := h.cell (i := j) (by omega)
      rw [show ((⟨nb, 0, none⟩ : Addr).add j) = ⟨nb, j, none⟩ by by_cases e : j = 0 <;> simp [Addr.add, e]]
      exact this) (by intro j hj; simp at hj; exact h.some (by omega)) (by intro j hj; exact h.free _) (by intro v hv; simp at hv; obtain ⟨_, rfl⟩ := hv; rfl)
  simpa [goInt] using h
set_option maxRecDepth 100000 in
set_option maxHeartbeats 2000000 in
theorem repeat51g (xb cap c : Nat) (hc1 : 1 ≤ c) (hc2 : c ≤ 10000) (w : World) (hx : w.cell? ⟨xb, 0, none⟩ = some (.int .i64 (-1))) (hxl : xb < w.heap.size) :
    Calls Try.prog 51 #[.slice (some ⟨xb, 0, none⟩) 1 cap, .int .i64 (c : Int)] w fun e w' => e = .returned (.slice (some ⟨w.heap.size, 0, none⟩) c c) ∧ Below w.heap.size w w' ∧ RI w.heap.size c c w' := by
  have HC := mul63g c hc2 w
  have hmk := makeN c hc2 w
  have wc : IntKind.u64.wrap (c : Int) = (c : Int) := u64_small _ (by omega) (by omega)
  have wi : IntKind.i64.wrap (c : Int) = (c : Int) := by simp [IntKind.wrap, IntKind.bits, IntKind.signed]; omega
  obtain ⟨nb, hnb⟩ : ∃ nb, nb = w.heap.size := ⟨_, rfl⟩
  obtain ⟨V0, hV0⟩ : ∃ V, V = w.alloc (.cells (madeCells #[.int .i64 0] c) 3) := ⟨_, rfl⟩
  obtain ⟨V1, hV1⟩ : ∃ V, V = V0.setCell ⟨nb, 0, none⟩ M1 := ⟨_, rfl⟩
  have h0 : RI nb c 0 V0 := by rw [hV0, hnb]; exact ⟨_, heap_alloc_new w _, by simp [madeCells], fun i hi => by omega⟩
  have h1 : RI nb c 1 V1 := by rw [hV1]; exact h0.next (by omega)
  have hB1 : Below w.heap.size w V1 := by
    rw [hV1, hV0]
    exact (Joins.below_alloc1 w _).setCell (by show w.heap.size ≤ nb; omega) _
  have k1 : (Builtin.copy_ #[29, 29] 3 #[.slice (some ⟨nb, 0, none⟩) c c, .slice (some ⟨xb, 0, none⟩) 1 cap]).run Try.prog V0 = .ok (.int .i64 1) V1 := by
    rw [hV1]
    exact copy_one V0 nb 0 c c cap ⟨xb, 0, none⟩ (by rw [hV0]; exact (World.cell?_alloc_lt _ _ _ hxl).trans hx) (h0.some (by omega)) (h0.free 0) (by omega)
  rw [← hV0, ← hnb] at hmk
  rw [← hnb]
  have HB1 := hid hB1
  have H1 := hid h1
  have HNB := hid hnb
  clear h0 h1 hB1 hV0 hV1 hnb hx
  go_enter Try.func51, Try.ntmps51
  go_wp2_with (go_at_call 63; (with_reducible refine HC.mono ?_); rintro e w' ⟨rfl, hw'⟩; rw [hw']; clear hw' HC)
  go_loopw [8] (fun x wq => ∃ n : Nat, x = .int .i64 (n : Int) ∧ 1 ≤ n ∧ n ≤ c ∧ Hid (RI nb c n wq ∧ Below w.heap.size w wq)) (fun x _ => c - (intOf x).toNat)
  case atStart => exact ⟨1, rfl, by omega, by omega, by exact ⟨H1.out, HB1.out⟩⟩
  case round =>
    obtain ⟨n, rfl, hn1, hnc, HI⟩ := hrel
    by_cases hlt : n < c
    · have b1 : decide ((n : Int) < (c : Int)) = true := by simp; omega
      have b2 : (n : Int) < (c : Int) := by omega
      have kc := copy_self nb c n wr.drew (by exact HI.out.1) hn1 hnc
      have ad : IntKind.i64.wrap ((n : Int) + ((min n (c - n) : Nat) : Int)) = ((n + min n (c - n) : Nat) : Int) := by simp [IntKind.wrap, IntKind.bits, IntKind.signed]; omega
      have i1 : (n : Int) ≤ (c : Int) := by omega
      have i0 : (0 : Int) ≤ (n : Int) := by omega
      go_wp2_with fail
      go_region
      all_goals
        go_wp2
        refine ⟨⟨n + min n (c - n), by push_cast; rfl, by omega, by omega, by exact ⟨RI.more _ _ (show RI nb c n wr.drew from HI.out.1) (by omega), below_setC (by have := HNB.out; omega) _ _ _ HI.out.2.drew⟩⟩, by simp [intOf]; omega⟩
    · have b1 : decide ((n : Int) < (c : Int)) = false := by simp; omega
      obtain rfl : n = c := by omega
      go_wp2
      go_ret
      refine ⟨rfl, ?_, HI.out.1⟩
      rw [HNB.out]
      exact HI.out.2
end Go.Proofs.Ytnpocciioedgpaa
/- HELPERS: which nodes may be: the program's answer. -/
namespace Go.Proofs.Ytnpocciioedgpaa
open Go.RowKit
set_option linter.unusedVariables false
set_option linter.unusedSimpArgs false
theorem two_len (r s : Nat) (h : ¬ (r = 0 ∧ s = 0)) (hr : r ≤ 9223372036854775807) (hs : s ≤ 9223372036854775807) : (wrap64 ((r : Int) + (s : Int)) == 0) = false := by
  have : wrap64 ((r : Int) + (s : Int)) ≠ 0 := by unfold wrap64; omega
  simpa using this
set_option maxRecDepth 100000 in
set_option maxHeartbeats 8000000 in
theorem zero80 (N : Nv) (w : World) (hk : N.k = 0) (hr : N.r2 ≤ 9223372036854775807) (hs : N.s2 ≤ 9223372036854775807) :
    Calls Try.prog 80 #[N.v] w fun e w' => e = .returned (.bool (bareB N.r2 N.a2 N.s2 N.a4 N.a5 N.a6 N.a7 N.a8 false false false false false)) ∧ Below w.heap.size w w' := by
  obtain ⟨k, r1, r2, r3, a2, s1, s2, s3, a4, a5, a6, a7, a8⟩ := N
  simp only at hk hr hs
  subst hk
  by_cases h0 : r2 = 0 ∧ s2 = 0
  · obtain ⟨rfl, rfl⟩ := h0
    go_enter Try.func80, Try.ntmps80
    go_wp2
    all_goals go_ret
    all_goals (refine ⟨ret_bool ?_, Joins.below_alloc1 w _⟩)
    all_goals simp_all [bareB]
  · have e1 := two_len r2 s2 h0 hr hs
    have e2 : bareB r2 a2 s2 a4 a5 a6 a7 a8 false false false false false = false := by
      simp [bareB]
      intro h
      omega
    rw [e2]
    go_enter Try.func80, Try.ntmps80
    go_wp2
    go_ret
    exact ⟨rfl, Joins.below_alloc1 w _⟩
set_option maxHeartbeats 1000000 in
theorem right_long' (ad : Option Addr) (n cap : Nat) (w : World) (hS : 5000 < n) (hS2 : n ≤ 9223372036854775807) :
    Calls Try.prog 76 #[.slice ad n cap] w fun e w' => e = .returned (.bool false) ∧ Below w.heap.size w w' := by
  go_enter Try.func76, Try.ntmps76
  go_wp2
  go_ret
  exact ⟨rfl, Below.refl _ _⟩
theorem right76 (L : List (Int × Int)) (ad : Option Addr) (n cap : Nat) (w : World) (hn : n = L.length) (hS2 : n ≤ 9223372036854775807) (hl : RowAt w.heap.size w (.slice ad n cap) L) :
    Calls Try.prog 76 #[.slice ad n cap] w fun e w' => e = .returned (.bool (rightB L)) ∧ Below w.heap.size w w' := by
  by_cases h : n ≤ 5000
  · have e : rightB L = rightFrom 0 L := by unfold rightB; rw [← hn]; simp [h]
    rw [e]
    exact right_short L ad n cap w hn h hl
  · have e : rightB L = false := by unfold rightB; rw [← hn]; simp [h]
    rw [e]
    exact right_long' ad n cap w (by omega) hS2
theorem isAssert77 (n : Int) (w : World) : Calls Try.prog 77 #[.int .i64 n] w fun e w' => e = .returned (.bool (assertB n)) ∧ w' = w := by
  go_enter Try.func77, Try.ntmps77
  go_wp2
  all_goals go_ret
  all_goals exact ⟨ret_bool (by simp_all [assertB]), rfl⟩
def countB (mn mx : Int) : Bool := decide (0 ≤ mn) && decide (mn ≤ 1000) && (decide (mx = -1) || decide (mn ≤ mx) && decide (mx ≤ 1000))
set_option maxRecDepth 100000 in
theorem isCount78g (mn mx : Int) (w : World) : Calls Try.prog 78 #[.int .i64 mn, .int .i64 mx] w fun e w' => e = .returned (.bool (countB mn mx)) ∧ w' = w := by
  go_enter Try.func78, Try.ntmps78
  go_wp2
  all_goals go_ret
  all_goals refine ⟨ret_bool ?_, rfl⟩
  all_goals (rw [Bool.eq_iff_iff]; simp [countB])
  all_goals omega
theorem empty_list : (⟨#[]⟩ : ByteArray).toList = [] := by rw [ByteArray.toList_eq]
theorem two_new (w : World) (o : Obj) (c : Array Value) (t : TypeId) : ((w.alloc o).alloc (.cells c t)).heap[w.heap.size + 1]? = some (.cells c t (0, 0)) := by
  have e : (w.alloc o).heap.size = w.heap.size + 1 := by simp
  rw [← e]
  exact heap_alloc_new _ _
theorem below_two' (w : World) (o o' : Obj) : Below w.heap.size w ((w.alloc o).alloc o') := (Joins.below_alloc1 w o).trans (Joins.below_le (Joins.below_alloc1 _ o') (by simp))
set_option maxRecDepth 100000 in
set_option maxHeartbeats 8000000 in
theorem sound61E (N : Nv) (R : List (Int × Int)) (w : World) (ok : N.ok) (hr : N.r2 = R.length) (hR : R2 w w.heap.size N.r1 R) (hk : N.k = 1) :
    Calls Try.prog 61 #[N.v] w fun e w' => e = .returned (.bool (nodeB N.k R N.a2 N.s2 N.a4 N.a5 N.a6 N.a7 N.a8)) ∧ Below w.heap.size w w' := by
  have hr2 : N.r2 ≤ 9223372036854775807 := by have := ok.r; have : maxLen = 9223372036854775807 := rfl; omega
  have hs2 : N.s2 ≤ 9223372036854775807 := by have := ok.s; have : maxLen = 9223372036854775807 := rfl; omega
  have HC : ∀ w, Calls Try.prog 80 #[Nv.v { N with k := 0 }] w fun e w' => e = .returned (.bool (bareB N.r2 N.a2 N.s2 N.a4 N.a5 N.a6 N.a7 N.a8 false false false false false)) ∧ Below w.heap.size w w' := fun w => by
    have h := zero80 { N with k := 0 } w rfl hr2 hs2
    have e : bareB ({ N with k := 0 } : Nv).r2 ({ N with k := 0 } : Nv).a2 ({ N with k := 0 } : Nv).s2 ({ N with k := 0 } : Nv).a4 ({ N with k := 0 } : Nv).a5 ({ N with k := 0 } : Nv).a6 ({ N with k := 0 } : Nv).a7 ({ N with k := 0 } : Nv).a8 false false false false false = bareB N.r2 N.a2 N.s2 N.a4 N.a5 N.a6 N.a7 N.a8 false false false false false := by simp [bareB]
    rw [e] at h
    exact h
  have e1 : nodeB N.k R N.a2 N.s2 N.a4 N.a5 N.a6 N.a7 N.a8 = bareB N.r2 N.a2 N.s2 N.a4 N.a5 N.a6 N.a7 N.a8 false false false false false := by simp [nodeB, hk, hr]
  rw [e1]
  generalize bareB N.r2 N.a2 N.s2 N.a4 N.a5 N.a6 N.a7 N.a8 false false false false false = q at HC ⊢
  obtain ⟨k, r1, r2, r3, a2, s1, s2, s3, a4, a5, a6, a7, a8⟩ := N
  simp only at hk
  subst hk
  clear ok hr hR e1 hr2 hs2
  go_enter Try.func61, Try.ntmps61
  go_wp2_with (first | (go_at_call 80; (with_reducible refine (HC _).mono ?_); rintro e w3 ⟨rfl, hb3⟩; have HB3 := hid' hb3; clear hb3 HC))
  go_ret
  exact ⟨rfl, (below_two' w _ _).trans (Joins.below_le HB3.out (by simp; try omega))⟩
set_option maxRecDepth 100000 in
set_option maxHeartbeats 8000000 in
theorem sound61C (N : Nv) (R : List (Int × Int)) (w : World) (ok : N.ok) (hr : N.r2 = R.length) (hR : R2 w w.heap.size N.r1 R) (hk : N.k = 2) :
    Calls Try.prog 61 #[N.v] w fun e w' => e = .returned (.bool (nodeB N.k R N.a2 N.s2 N.a4 N.a5 N.a6 N.a7 N.a8)) ∧ Below w.heap.size w w' := by
  have hr2 : N.r2 ≤ 9223372036854775807 := by have := ok.r; have : maxLen = 9223372036854775807 := rfl; omega
  have hs2 : N.s2 ≤ 9223372036854775807 := by have := ok.s; have : maxLen = 9223372036854775807 := rfl; omega
  have HC : ∀ w, Calls Try.prog 80 #[Nv.v { N with k := 0, r1 := none, r2 := 0, r3 := 0 }] w fun e w' => e = .returned (.bool (bareB N.r2 N.a2 N.s2 N.a4 N.a5 N.a6 N.a7 N.a8 true false false false false)) ∧ Below w.heap.size w w' := fun w => by
    have h := zero80 { N with k := 0, r1 := none, r2 := 0, r3 := 0 } w rfl (by simp) hs2
    have e : bareB ({ N with k := 0, r1 := none, r2 := 0, r3 := 0 } : Nv).r2 ({ N with k := 0, r1 := none, r2 := 0, r3 := 0 } : Nv).a2 ({ N with k := 0, r1 := none, r2 := 0, r3 := 0 } : Nv).s2 ({ N with k := 0, r1 := none, r2 := 0, r3 := 0 } : Nv).a4 ({ N with k := 0, r1 := none, r2 := 0, r3 := 0 } : Nv).a5 ({ N with k := 0, r1 := none, r2 := 0, r3 := 0 } : Nv).a6 ({ N with k := 0, r1 := none, r2 := 0, r3 := 0 } : Nv).a7 ({ N with k := 0, r1 := none, r2 := 0, r3 := 0 } : Nv).a8 false false false false false = bareB N.r2 N.a2 N.s2 N.a4 N.a5 N.a6 N.a7 N.a8 true false false false false := by simp [bareB]
    rw [e] at h
    exact h
  have HRR : ∀ o o', Calls Try.prog 76 #[.slice N.r1 N.r2 N.r3] ((w.alloc o).alloc o') fun e w' => e = .returned (.bool (rightB R)) ∧ Below ((w.alloc o).alloc o').heap.size ((w.alloc o).alloc o') w' := fun o o' =>
    right76 R N.r1 N.r2 N.r3 _ hr hr2 ((R2.row (hR.kept (fun b hb => (heap_alloc_old _ _ (by simp; omega)).trans (heap_alloc_old w _ hb))) hr).below (Below.refl _ _) (Nat.le_refl _) (by simp; try omega))
  have e1 : nodeB N.k R N.a2 N.s2 N.a4 N.a5 N.a6 N.a7 N.a8 = (rightB R && bareB N.r2 N.a2 N.s2 N.a4 N.a5 N.a6 N.a7 N.a8 true false false false false) := by simp [nodeB, hk, hr]
  rw [e1]
  generalize bareB N.r2 N.a2 N.s2 N.a4 N.a5 N.a6 N.a7 N.a8 true false false false false = q at HC ⊢
  generalize rightB R = q2 at HRR ⊢
  obtain ⟨k, r1, r2, r3, a2, s1, s2, s3, a4, a5, a6, a7, a8⟩ := N
  simp only at hk
  subst hk
  clear ok hr hR e1 hr2 hs2
  cases q2
  · go_enter Try.func61, Try.ntmps61
    go_wp2_with (first | (go_at_call 76; (with_reducible refine (HRR _ _).mono ?_); rintro e w2 ⟨rfl, hb2⟩; obtain ⟨x0, x1, x2, x3, x4, x5, x6, x7, x8⟩ := nine' ((hb2.block (w.heap.size + 1) (by simp)).trans (two_new w _ _ _)); have HB2 := hid' hb2; clear hb2 HRR) | (go_at_call 80; (with_reducible refine (HC _).mono ?_); rintro e w3 ⟨rfl, hb3⟩; have HB3 := hid' hb3; clear hb3 HC))
    go_ret
    exact ⟨rfl, (below_two' w _ _).trans (Joins.below_le HB2.out (by simp; try omega))⟩
  · go_enter Try.func61, Try.ntmps61
    go_wp2_with (first | (go_at_call 76; (with_reducible refine (HRR _ _).mono ?_); rintro e w2 ⟨rfl, hb2⟩; obtain ⟨x0, x1, x2, x3, x4, x5, x6, x7, x8⟩ := nine' ((hb2.block (w.heap.size + 1) (by simp)).trans (two_new w _ _ _)); have HB2 := hid' hb2; clear hb2 HRR) | (go_at_call 80; (with_reducible refine (HC _).mono ?_); rintro e w3 ⟨rfl, hb3⟩; have HB3 := hid' hb3; clear hb3 HC))
    go_ret
    exact ⟨by simp, ((below_two' w _ _).trans (Joins.below_le HB2.out (by simp; try omega))).trans (Joins.below_le HB3.out (by have := HB2.out.size; simp at this; omega))⟩
set_option maxRecDepth 100000 in
set_option maxHeartbeats 8000000 in
theorem sound61A (N : Nv) (R : List (Int × Int)) (w : World) (ok : N.ok) (hr : N.r2 = R.length) (hR : R2 w w.heap.size N.r1 R) (hk : N.k = 3) :
    Calls Try.prog 61 #[N.v] w fun e w' => e = .returned (.bool (nodeB N.k R N.a2 N.s2 N.a4 N.a5 N.a6 N.a7 N.a8)) ∧ Below w.heap.size w w' := by
  have hr2 : N.r2 ≤ 9223372036854775807 := by have := ok.r; have : maxLen = 9223372036854775807 := rfl; omega
  have hs2 : N.s2 ≤ 9223372036854775807 := by have := ok.s; have : maxLen = 9223372036854775807 := rfl; omega
  have HC : ∀ w, Calls Try.prog 80 #[Nv.v { N with k := 0, a2 := 0 }] w fun e w' => e = .returned (.bool (bareB N.r2 N.a2 N.s2 N.a4 N.a5 N.a6 N.a7 N.a8 false true false false false)) ∧ Below w.heap.size w w' := fun w => by
    have h := zero80 { N with k := 0, a2 := 0 } w rfl hr2 hs2
    have e : bareB ({ N with k := 0, a2 := 0 } : Nv).r2 ({ N with k := 0, a2 := 0 } : Nv).a2 ({ N with k := 0, a2 := 0 } : Nv).s2 ({ N with k := 0, a2 := 0 } : Nv).a4 ({ N with k := 0, a2 := 0 } : Nv).a5 ({ N with k := 0, a2 := 0 } : Nv).a6 ({ N with k := 0, a2 := 0 } : Nv).a7 ({ N with k := 0, a2 := 0 } : Nv).a8 false false false false false = bareB N.r2 N.a2 N.s2 N.a4 N.a5 N.a6 N.a7 N.a8 false true false false false := by simp [bareB]
    rw [e] at h
    exact h
  have HAA := isAssert77 N.a2
  have e1 : nodeB N.k R N.a2 N.s2 N.a4 N.a5 N.a6 N.a7 N.a8 = (assertB N.a2 && bareB N.r2 N.a2 N.s2 N.a4 N.a5 N.a6 N.a7 N.a8 false true false false false) := by simp [nodeB, hk, hr]
  rw [e1]
  generalize bareB N.r2 N.a2 N.s2 N.a4 N.a5 N.a6 N.a7 N.a8 false true false false false = q at HC ⊢
  generalize assertB N.a2 = q2 at HAA ⊢
  obtain ⟨k, r1, r2, r3, a2, s1, s2, s3, a4, a5, a6, a7, a8⟩ := N
  simp only at hk
  subst hk
  clear ok hr hR e1 hr2 hs2
  cases q2
  · go_enter Try.func61, Try.ntmps61
    go_wp2_with (first | (go_at_call 77; (with_reducible refine (HAA _).mono ?_); rintro e w2 ⟨rfl, hww⟩; subst hww) | (go_at_call 80; (with_reducible refine (HC _).mono ?_); rintro e w3 ⟨rfl, hb3⟩; have HB3 := hid' hb3; clear hb3 HC))
    go_ret
    exact ⟨rfl, below_two' w _ _⟩
  · go_enter Try.func61, Try.ntmps61
    go_wp2_with (first | (go_at_call 77; (with_reducible refine (HAA _).mono ?_); rintro e w2 ⟨rfl, hww⟩; subst hww) | (go_at_call 80; (with_reducible refine (HC _).mono ?_); rintro e w3 ⟨rfl, hb3⟩; have HB3 := hid' hb3; clear hb3 HC))
    go_ret
    exact ⟨by simp, (below_two' w _ _).trans (Joins.below_le HB3.out (by simp; try omega))⟩
set_option maxRecDepth 100000 in
set_option maxHeartbeats 8000000 in
theorem sound61S4 (N : Nv) (R : List (Int × Int)) (w : World) (ok : N.ok) (hr : N.r2 = R.length) (hR : R2 w w.heap.size N.r1 R) (hk : N.k = 4) :
    Calls Try.prog 61 #[N.v] w fun e w' => e = .returned (.bool (nodeB N.k R N.a2 N.s2 N.a4 N.a5 N.a6 N.a7 N.a8)) ∧ Below w.heap.size w w' := by
  have hr2 : N.r2 ≤ 9223372036854775807 := by have := ok.r; have : maxLen = 9223372036854775807 := rfl; omega
  have hs2 : N.s2 ≤ 9223372036854775807 := by have := ok.s; have : maxLen = 9223372036854775807 := rfl; omega
  have HC : ∀ w, Calls Try.prog 80 #[Nv.v { N with k := 0, s1 := none, s2 := 0, s3 := 0 }] w fun e w' => e = .returned (.bool (bareB N.r2 N.a2 N.s2 N.a4 N.a5 N.a6 N.a7 N.a8 false false true false false)) ∧ Below w.heap.size w w' := fun w => by
    have h := zero80 { N with k := 0, s1 := none, s2 := 0, s3 := 0 } w rfl hr2 (by simp)
    have e : bareB ({ N with k := 0, s1 := none, s2 := 0, s3 := 0 } : Nv).r2 ({ N with k := 0, s1 := none, s2 := 0, s3 := 0 } : Nv).a2 ({ N with k := 0, s1 := none, s2 := 0, s3 := 0 } : Nv).s2 ({ N with k := 0, s1 := none, s2 := 0, s3 := 0 } : Nv).a4 ({ N with k := 0, s1 := none, s2 := 0, s3 := 0 } : Nv).a5 ({ N with k := 0, s1 := none, s2 := 0, s3 := 0 } : Nv).a6 ({ N with k := 0, s1 := none, s2 := 0, s3 := 0 } : Nv).a7 ({ N with k := 0, s1 := none, s2 := 0, s3 := 0 } : Nv).a8 false false false false false = bareB N.r2 N.a2 N.s2 N.a4 N.a5 N.a6 N.a7 N.a8 false false true false false := by simp [bareB]
    rw [e] at h
    exact h
  have e1 : nodeB N.k R N.a2 N.s2 N.a4 N.a5 N.a6 N.a7 N.a8 = (decide (2 ≤ N.s2) && bareB N.r2 N.a2 N.s2 N.a4 N.a5 N.a6 N.a7 N.a8 false false true false false) := by simp [nodeB, hk, hr]
  rw [e1]
  generalize bareB N.r2 N.a2 N.s2 N.a4 N.a5 N.a6 N.a7 N.a8 false false true false false = q at HC ⊢
  obtain ⟨k, r1, r2, r3, a2, s1, s2, s3, a4, a5, a6, a7, a8⟩ := N
  simp only at hk hr2 hs2
  subst hk
  clear ok hr hR e1
  by_cases h2 : 2 ≤ s2
  · have b1 : decide ((s2 : Int) ≥ 2) = true := by simp; omega
    have b2 : decide ((2 : Int) ≤ (s2 : Int)) = true := by simp; omega
    have e2 : decide (2 ≤ s2) = true := by simp; omega
    rw [e2]
    go_enter Try.func61, Try.ntmps61
    go_wp2_with (first | (go_at_call 80; (with_reducible refine (HC _).mono ?_); rintro e w3 ⟨rfl, hb3⟩; have HB3 := hid' hb3; clear hb3 HC))
    go_ret
    exact ⟨by simp, (below_two' w _ _).trans (Joins.below_le HB3.out (by simp; try omega))⟩
  · have b1 : decide ((s2 : Int) ≥ 2) = false := by simp; omega
    have b2 : decide ((2 : Int) ≤ (s2 : Int)) = false := by simp; omega
    have e2 : decide (2 ≤ s2) = false := by simp; omega
    rw [e2]
    go_enter Try.func61, Try.ntmps61
    go_wp2_with (first | (go_at_call 80; (with_reducible refine (HC _).mono ?_); rintro e w3 ⟨rfl, hb3⟩; have HB3 := hid' hb3; clear hb3 HC))
    go_ret
    exact ⟨by simp, below_two' w _ _⟩
set_option maxRecDepth 100000 in
set_option maxHeartbeats 8000000 in
theorem sound61S5 (N : Nv) (R : List (Int × Int)) (w : World) (ok : N.ok) (hr : N.r2 = R.length) (hR : R2 w w.heap.size N.r1 R) (hk : N.k = 5) :
    Calls Try.prog 61 #[N.v] w fun e w' => e = .returned (.bool (nodeB N.k R N.a2 N.s2 N.a4 N.a5 N.a6 N.a7 N.a8)) ∧ Below w.heap.size w w' := by
  have hr2 : N.r2 ≤ 9223372036854775807 := by have := ok.r; have : maxLen = 9223372036854775807 := rfl; omega
  have hs2 : N.s2 ≤ 9223372036854775807 := by have := ok.s; have : maxLen = 9223372036854775807 := rfl; omega
  have HC : ∀ w, Calls Try.prog 80 #[Nv.v { N with k := 0, s1 := none, s2 := 0, s3 := 0 }] w fun e w' => e = .returned (.bool (bareB N.r2 N.a2 N.s2 N.a4 N.a5 N.a6 N.a7 N.a8 false false true false false)) ∧ Below w.heap.size w w' := fun w => by
    have h := zero80 { N with k := 0, s1 := none, s2 := 0, s3 := 0 } w rfl hr2 (by simp)
    have e : bareB ({ N with k := 0, s1 := none, s2 := 0, s3 := 0 } : Nv).r2 ({ N with k := 0, s1 := none, s2 := 0, s3 := 0 } : Nv).a2 ({ N with k := 0, s1 := none, s2 := 0, s3 := 0 } : Nv).s2 ({ N with k := 0, s1 := none, s2 := 0, s3 := 0 } : Nv).a4 ({ N with k := 0, s1 := none, s2 := 0, s3 := 0 } : Nv).a5 ({ N with k := 0, s1 := none, s2 := 0, s3 := 0 } : Nv).a6 ({ N with k := 0, s1 := none, s2 := 0, s3 := 0 } : Nv).a7 ({ N with k := 0, s1 := none, s2 := 0, s3 := 0 } : Nv).a8 false false false false false = bareB N.r2 N.a2 N.s2 N.a4 N.a5 N.a6 N.a7 N.a8 false false true false false := by simp [bareB]
    rw [e] at h
    exact h
  have e1 : nodeB N.k R N.a2 N.s2 N.a4 N.a5 N.a6 N.a7 N.a8 = (decide (2 ≤ N.s2) && bareB N.r2 N.a2 N.s2 N.a4 N.a5 N.a6 N.a7 N.a8 false false true false false) := by simp [nodeB, hk, hr]
  rw [e1]
  generalize bareB N.r2 N.a2 N.s2 N.a4 N.a5 N.a6 N.a7 N.a8 false false true false false = q at HC ⊢
  obtain ⟨k, r1, r2, r3, a2, s1, s2, s3, a4, a5, a6, a7, a8⟩ := N
  simp only at hk hr2 hs2
  subst hk
  clear ok hr hR e1
  by_cases h2 : 2 ≤ s2
  · have b1 : decide ((s2 : Int) ≥ 2) = true := by simp; omega
    have b2 : decide ((2 : Int) ≤ (s2 : Int)) = true := by simp; omega
    have e2 : decide (2 ≤ s2) = true := by simp; omega
    rw [e2]
    go_enter Try.func61, Try.ntmps61
    go_wp2_with (first | (go_at_call 80; (with_reducible refine (HC _).mono ?_); rintro e w3 ⟨rfl, hb3⟩; have HB3 := hid' hb3; clear hb3 HC))
    go_ret
    exact ⟨by simp, (below_two' w _ _).trans (Joins.below_le HB3.out (by simp; try omega))⟩
  · have b1 : decide ((s2 : Int) ≥ 2) = false := by simp; omega
    have b2 : decide ((2 : Int) ≤ (s2 : Int)) = false := by simp; omega
    have e2 : decide (2 ≤ s2) = false := by simp; omega
    rw [e2]
    go_enter Try.func61, Try.ntmps61
    go_wp2_with (first | (go_at_call 80; (with_reducible refine (HC _).mono ?_); rintro e w3 ⟨rfl, hb3⟩; have HB3 := hid' hb3; clear hb3 HC))
    go_ret
    exact ⟨by simp, below_two' w _ _⟩
set_option maxRecDepth 100000 in
set_option maxHeartbeats 8000000 in
theorem sound61R (N : Nv) (R : List (Int × Int)) (w : World) (ok : N.ok) (hr : N.r2 = R.length) (hR : R2 w w.heap.size N.r1 R) (hk : N.k = 6) :
    Calls Try.prog 61 #[N.v] w fun e w' => e = .returned (.bool (nodeB N.k R N.a2 N.s2 N.a4 N.a5 N.a6 N.a7 N.a8)) ∧ Below w.heap.size w w' := by
  have hr2 : N.r2 ≤ 9223372036854775807 := by have := ok.r; have : maxLen = 9223372036854775807 := rfl; omega
  have hs2 : N.s2 ≤ 9223372036854775807 := by have := ok.s; have : maxLen = 9223372036854775807 := rfl; omega
  have HC : ∀ w, Calls Try.prog 80 #[Nv.v { N with k := 0, s1 := none, s2 := 0, s3 := 0, a4 := 0, a5 := 0, a6 := false }] w fun e w' => e = .returned (.bool (bareB N.r2 N.a2 N.s2 N.a4 N.a5 N.a6 N.a7 N.a8 false false true true false)) ∧ Below w.heap.size w w' := fun w => by
    have h := zero80 { N with k := 0, s1 := none, s2 := 0, s3 := 0, a4 := 0, a5 := 0, a6 := false } w rfl hr2 (by simp)
    have e : bareB ({ N with k := 0, s1 := none, s2 := 0, s3 := 0, a4 := 0, a5 := 0, a6 := false } : Nv).r2 ({ N with k := 0, s1 := none, s2 := 0, s3 := 0, a4 := 0, a5 := 0, a6 := false } : Nv).a2 ({ N with k := 0, s1 := none, s2 := 0, s3 := 0, a4 := 0, a5 := 0, a6 := false } : Nv).s2 ({ N with k := 0, s1 := none, s2 := 0, s3 := 0, a4 := 0, a5 := 0, a6 := false } : Nv).a4 ({ N with k := 0, s1 := none, s2 := 0, s3 := 0, a4 := 0, a5 := 0, a6 := false } : Nv).a5 ({ N with k := 0, s1 := none, s2 := 0, s3 := 0, a4 := 0, a5 := 0, a6 := false } : Nv).a6 ({ N with k := 0, s1 := none, s2 := 0, s3 := 0, a4 := 0, a5 := 0, a6 := false } : Nv).a7 ({ N with k := 0, s1 := none, s2 := 0, s3 := 0, a4 := 0, a5 := 0, a6 := false } : Nv).a8 false false false false false = bareB N.r2 N.a2 N.s2 N.a4 N.a5 N.a6 N.a7 N.a8 false false true true false := by simp [bareB]
    rw [e] at h
    exact h
  have HN := isCount78g N.a4 N.a5
  have e1 : nodeB N.k R N.a2 N.s2 N.a4 N.a5 N.a6 N.a7 N.a8 = (decide (N.s2 = 1) && countB N.a4 N.a5 && bareB N.r2 N.a2 N.s2 N.a4 N.a5 N.a6 N.a7 N.a8 false false true true false) := by simp [nodeB, countB, hk, hr, Bool.and_assoc]
  rw [e1]
  generalize bareB N.r2 N.a2 N.s2 N.a4 N.a5 N.a6 N.a7 N.a8 false false true true false = q at HC ⊢
  generalize countB N.a4 N.a5 = q2 at HN ⊢
  obtain ⟨k, r1, r2, r3, a2, s1, s2, s3, a4, a5, a6, a7, a8⟩ := N
  simp only at hk hr2 hs2
  subst hk
  clear ok hr hR e1
  by_cases h2 : s2 = 1
  · subst h2
    cases q2
    · go_enter Try.func61, Try.ntmps61
      go_wp2_with (first | (go_at_call 78; (with_reducible refine (HN _).mono ?_); rintro e w2 ⟨rfl, hww⟩; subst hww) | (go_at_call 80; (with_reducible refine (HC _).mono ?_); rintro e w3 ⟨rfl, hb3⟩; have HB3 := hid' hb3; clear hb3 HC))
      go_ret
      exact ⟨by simp, below_two' w _ _⟩
    · go_enter Try.func61, Try.ntmps61
      go_wp2_with (first | (go_at_call 78; (with_reducible refine (HN _).mono ?_); rintro e w2 ⟨rfl, hww⟩; subst hww) | (go_at_call 80; (with_reducible refine (HC _).mono ?_); rintro e w3 ⟨rfl, hb3⟩; have HB3 := hid' hb3; clear hb3 HC))
      go_ret
      exact ⟨by simp, (below_two' w _ _).trans (Joins.below_le HB3.out (by simp; try omega))⟩
  · have b1 : ((s2 : Int) == 1) = false := by simp; omega
    have e2 : decide (s2 = 1) = false := by simpa using h2
    rw [e2]
    go_enter Try.func61, Try.ntmps61
    go_wp2_with (first | (go_at_call 78; (with_reducible refine (HN _).mono ?_); rintro e w2 ⟨rfl, hww⟩; subst hww) | (go_at_call 80; (with_reducible refine (HC _).mono ?_); rintro e w3 ⟨rfl, hb3⟩; have HB3 := hid' hb3; clear hb3 HC))
    go_ret
    exact ⟨by simp, below_two' w _ _⟩
set_option maxRecDepth 100000 in
set_option maxHeartbeats 8000000 in
theorem sound61G (N : Nv) (R : List (Int × Int)) (w : World) (ok : N.ok) (hr : N.r2 = R.length) (hR : R2 w w.heap.size N.r1 R) (hk : N.k = 7) :
    Calls Try.prog 61 #[N.v] w fun e w' => e = .returned (.bool (nodeB N.k R N.a2 N.s2 N.a4 N.a5 N.a6 N.a7 N.a8)) ∧ Below w.heap.size w w' := by
  have hr2 : N.r2 ≤ 9223372036854775807 := by have := ok.r; have : maxLen = 9223372036854775807 := rfl; omega
  have hs2 : N.s2 ≤ 9223372036854775807 := by have := ok.s; have : maxLen = 9223372036854775807 := rfl; omega
  have HC : ∀ w, Calls Try.prog 80 #[Nv.v { N with k := 0, s1 := none, s2 := 0, s3 := 0, a7 := 0, a8 := ⟨#[]⟩ }] w fun e w' => e = .returned (.bool (bareB N.r2 N.a2 N.s2 N.a4 N.a5 N.a6 N.a7 N.a8 false false true false true)) ∧ Below w.heap.size w w' := fun w => by
    have h := zero80 { N with k := 0, s1 := none, s2 := 0, s3 := 0, a7 := 0, a8 := ⟨#[]⟩ } w rfl hr2 (by simp)
    have e : bareB ({ N with k := 0, s1 := none, s2 := 0, s3 := 0, a7 := 0, a8 := ⟨#[]⟩ } : Nv).r2 ({ N with k := 0, s1 := none, s2 := 0, s3 := 0, a7 := 0, a8 := ⟨#[]⟩ } : Nv).a2 ({ N with k := 0, s1 := none, s2 := 0, s3 := 0, a7 := 0, a8 := ⟨#[]⟩ } : Nv).s2 ({ N with k := 0, s1 := none, s2 := 0, s3 := 0, a7 := 0, a8 := ⟨#[]⟩ } : Nv).a4 ({ N with k := 0, s1 := none, s2 := 0, s3 := 0, a7 := 0, a8 := ⟨#[]⟩ } : Nv).a5 ({ N with k := 0, s1 := none, s2 := 0, s3 := 0, a7 := 0, a8 := ⟨#[]⟩ } : Nv).a6 ({ N with k := 0, s1 := none, s2 := 0, s3 := 0, a7 := 0, a8 := ⟨#[]⟩ } : Nv).a7 ({ N with k := 0, s1 := none, s2 := 0, s3 := 0, a7 := 0, a8 := ⟨#[]⟩ } : Nv).a8 false false false false false = bareB N.r2 N.a2 N.s2 N.a4 N.a5 N.a6 N.a7 N.a8 false false true false true := by simp [bareB, empty_list]
    rw [e] at h
    exact h
  have HN := fun w => name79 N.a8 w (by have := ok.a8; have : maxLen = 9223372036854775807 := rfl; omega)
  have e1 : nodeB N.k R N.a2 N.s2 N.a4 N.a5 N.a6 N.a7 N.a8 = (decide (N.s2 = 1) && decide (1 ≤ N.a7) && decide (N.a7 ≤ 500) && (N.a8.toList.isEmpty || nameB N.a8) && bareB N.r2 N.a2 N.s2 N.a4 N.a5 N.a6 N.a7 N.a8 false false true false true) := by simp [nodeB, hk, hr]
  rw [e1]
  generalize bareB N.r2 N.a2 N.s2 N.a4 N.a5 N.a6 N.a7 N.a8 false false true false true = q at HC ⊢
  generalize nameB N.a8 = q2 at HN ⊢
  obtain ⟨k, r1, r2, r3, a2, s1, s2, s3, a4, a5, a6, a7, a8⟩ := N
  simp only at hk hr2 hs2
  subst hk
  clear ok hr hR e1
  go_enter Try.func61, Try.ntmps61
  go_wp2_with (first | (go_at_call 79; (with_reducible refine (HN _).mono ?_); rintro e w2 ⟨rfl, hww⟩; subst hww) | (go_at_call 80; (with_reducible refine (HC _).mono ?_); rintro e w3 ⟨rfl, hb3⟩; have HB3 := hid' hb3; clear hb3 HC))
  all_goals go_ret
  all_goals (refine ⟨ret_bool ?_, by first | exact below_two' w _ _ | exact (below_two' w _ _).trans (Joins.below_le HB3.out (by simp; try omega))⟩)
  all_goals (try clear HB3)
  all_goals (try clear HC)
  all_goals (try clear HN)
  all_goals simp_all
  all_goals (intros; omega)
set_option maxRecDepth 100000 in
set_option maxHeartbeats 8000000 in
theorem sound61O (N : Nv) (R : List (Int × Int)) (w : World) (ok : N.ok) (hr : N.r2 = R.length) (hR : R2 w w.heap.size N.r1 R) (hk : N.k ≠ 1 ∧ N.k ≠ 2 ∧ N.k ≠ 3 ∧ N.k ≠ 4 ∧ N.k ≠ 5 ∧ N.k ≠ 6 ∧ N.k ≠ 7) :
    Calls Try.prog 61 #[N.v] w fun e w' => e = .returned (.bool (nodeB N.k R N.a2 N.s2 N.a4 N.a5 N.a6 N.a7 N.a8)) ∧ Below w.heap.size w w' := by
  have hr2 : N.r2 ≤ 9223372036854775807 := by have := ok.r; have : maxLen = 9223372036854775807 := rfl; omega
  have hs2 : N.s2 ≤ 9223372036854775807 := by have := ok.s; have : maxLen = 9223372036854775807 := rfl; omega
  rw [nodeB_ne hk]
  obtain ⟨k1, k2, k3, k4, k5, k6, k7⟩ := hk
  have j1 : (N.k == 1) = false := by simpa using k1
  have j2 : (N.k == 2) = false := by simpa using k2
  have j3 : (N.k == 3) = false := by simpa using k3
  have j4 : (N.k == 4) = false := by simpa using k4
  have j5 : (N.k == 5) = false := by simpa using k5
  have j6 : (N.k == 6) = false := by simpa using k6
  have j7 : (N.k == 7) = false := by simpa using k7
  obtain ⟨k, r1, r2, r3, a2, s1, s2, s3, a4, a5, a6, a7, a8⟩ := N
  simp only at j1 j2 j3 j4 j5 j6 j7
  clear ok hr hR k1 k2 k3 k4 k5 k6 k7
  go_enter Try.func61, Try.ntmps61
  go_wp2
  go_ret
  exact ⟨rfl, below_two' w _ _⟩
theorem sound61 (N : Nv) (R : List (Int × Int)) (w : World) (ok : N.ok) (hr : N.r2 = R.length) (hR : R2 w w.heap.size N.r1 R) :
    Calls Try.prog 61 #[N.v] w fun e w' => e = .returned (.bool (nodeB N.k R N.a2 N.s2 N.a4 N.a5 N.a6 N.a7 N.a8)) ∧ Below w.heap.size w w' := by
  by_cases k1 : N.k = 1
  · exact sound61E N R w ok hr hR k1
  by_cases k2 : N.k = 2
  · exact sound61C N R w ok hr hR k2
  by_cases k3 : N.k = 3
  · exact sound61A N R w ok hr hR k3
  by_cases k4 : N.k = 4
  · exact sound61S4 N R w ok hr hR k4
  by_cases k5 : N.k = 5
  · exact sound61S5 N R w ok hr hR k5
  by_cases k6 : N.k = 6
  · exact sound61R N R w ok hr hR k6
  by_cases k7 : N.k = 7
  · exact sound61G N R w ok hr hR k7
  · exact sound61O N R w ok hr hR ⟨k1, k2, k3, k4, k5, k6, k7⟩
end Go.Proofs.Ytnpocciioedgpaa
/- HELPERS: a walk's object is made, for any text and tree. -/
namespace Go.Proofs.Ytnpocciioedgpaa
open Go.RowKit
set_option linter.unusedVariables false
set_option linter.unusedSimpArgs false
theorem step_append_moveN {P : Program} {ops : Array Oper} {o : Oper} {a : Act} {w : World} {K : Act → World → Prop} {Q : Exit → Act → World → Prop} {E : Prop}
    (hg : o.guard = none) (s x : Operand) (t : TypeId) (hop : o.op = Op.call { callee := Callee.builtin Builtin.append, args := #[s, x], argTypes := #[t, t] })
    (base : Nat) (e : TypeId) (i : TypeInfo) (z : Value) (size bytes : Nat) (h1 : P.underlying t = some (.slice e)) (h2 : P.info? e = some i) (h3 : i.zero = some z) (h4 : i.size = size) (h5 : i.bytes = bytes) (h6 : z.cells.size = size) (h7 : 0 < size)
    (v : Value) (n : Nat) (xs : List Value) (hs : a.eval s = v) (hown : w.ownsRow base e size v n xs)
    (ad : Addr) (m c : Nat) (news : List Value) (hx : a.eval x = .slice (some ad) m c) (hn : news.length = m * size) (hm : 0 < m) (hc : ∀ j u, news[j]? = some u → w.cell? (ad.add j) = some u) (h1c : ∀ u ∈ news, u.oneCell' = true)
    (b1 : n + m ≤ maxLen) (b2 : (n + m) * bytes ≤ 140737488355328) (hb : base ≤ w.heap.size)
    (hK : ∀ v' w', w'.ownsRow base e size v' (n + m) (xs ++ news) → Moved w w' v v' → K (a.put o.dst v') w') :
    if Region.wanted o (yielded ops a.tmps) = true then Oper.wp P o a w K Q else E := by
  have hw : Region.wanted o (yielded ops a.tmps) = true := by simp [Region.wanted, hg]
  rw [if_pos hw]
  obtain ⟨v', w', hrun, r1, r2⟩ := run_append_moveN (P := P) w base t o.type e i z size bytes h1 h2 h3 h4 h5 h6 h7 v n xs hown ad m c news hn hm hc h1c b1 b2 hb
  unfold Oper.wp
  simp [execOp, hop, resolve, invoke, builtin, hs, hx, hrun, Result.andThen]
  exact hK v' w' r1 r2
theorem step_call2 {P : Program} {ops : Array Oper} {o : Oper} {a : Act} {w : World} {K : Act → World → Prop} {Q : Exit → Act → World → Prop} {E : Prop} (hg : o.guard = none) (f : FuncId) (x y : Operand) (t u : TypeId)
    (hop : o.op = Op.call { callee := Callee.value (.func f), args := #[x, y], argTypes := #[t, u] }) (hen : ∀ args w, (callFunc f args).run P w = .ok (.enter f args) w)
    (hc : Calls P f #[a.eval x, a.eval y] w fun e w' => ∃ v, e = .returned v ∧ K (a.put o.dst v) w') :
    if Region.wanted o (yielded ops a.tmps) = true then Oper.wp P o a w K Q else E := by
  have hw : Region.wanted o (yielded ops a.tmps) = true := by simp [Region.wanted, hg]
  rw [if_pos hw]
  have h2 := hen #[a.eval x, a.eval y] w
  unfold Oper.wp
  have ev : a.eval (.func f) = .func (.func f) #[] #[] := rfl
  simp [execOp, hop, resolve, invoke, ev, Deferred.ofValue, h2, Result.andThen]
  show Calls P f #[a.eval x, a.eval y] w _
  refine hc.mono fun e w' h => ?_
  obtain ⟨v, rfl, hk⟩ := h
  exact hk
theorem en50 : ∀ (args : Array Value) (w : World), (callFunc 50 args).run Try.prog w = .ok (.enter 50 args) w := enter_of Try.func50 (by kernel_rfl) rfl
abbrev Nd.c (N : Nd) (k : Int) : Array Value := #[.int .i64 k, .slice N.r1 N.r2 N.r3, .int .i64 N.a2, .slice N.s1 N.s2 N.s3, .int .i64 N.a4, .int .i64 N.a5, .bool N.a6, .int .i64 N.a7, .string N.a8]
theorem moved_old {w w' : World} {v v' : Value} {k : Nat} (h : Moved w w' v v') (hk : k < w.heap.size) (hn : v.ownBlock ≠ some k) : w'.heap[k]? = w.heap[k]? := by
  rcases h with ⟨_, h⟩ | ⟨_, h⟩
  · exact h.block k hk (fun e => hn e.symm)
  · exact h.block k hk (by simp)
theorem text_below {N M : Nat} {w w' : World} {ad : Option Addr} {n : Nat} {l : List Int} (h : Look.TextAt N w ad n l) (hb : Below N w w') (hM : N ≤ M) : Look.TextAt M w' ad n l := by
  obtain ⟨h1, h2, h | ⟨b, off, ha, hbN, hc⟩⟩ := h.below hb
  · exact ⟨h1, h2, .inl h⟩
  · exact ⟨h1, h2, .inr ⟨b, off, ha, by omega, hc⟩⟩
/-- the object while what holds is told: z the node's box, then the map, then the object -/
structure Hol (w wq : World) (N : Nd) (k : Int) (tv hv : Value) (i : Nat) (vals : List Int) : Prop where
  bel : Below w.heap.size w wq
  node : wq.heap[w.heap.size]? = some (.cells (N.c k) 28 (0, 0))
  map : wq.heap[w.heap.size + 1]? = some (.map #[] 0)
  ob : wq.heap[w.heap.size + 1 + 1]? = some (.cells #[tv, hv, .nilFunc, .int .i64 0, .map (some (w.heap.size + 1)), .slice none 0 0, .slice none 0 0] 86 (0, 0))
  row : wq.ownsRow (w.heap.size + 1 + 1 + 1) 3 1 hv i (I64 vals)
theorem Hol.next {w wr w1 w2 : World} {N : Nd} {k : Int} {tv v' : Value} {v1 : Option Addr} {v3 i : Nat} {vals : List Int} {x : Int} (H : Hol w wr N k tv (.slice v1 i v3) i vals) (hb : Below wr.drew.heap.size wr.drew w1) (o : Obj) (hm : Moved (w1.alloc o) w2 (.slice v1 i v3) v')
    (ho : w2.ownsRow (w.heap.size + 1 + 1 + 1) 3 1 v' (i + 1) (I64 vals ++ [.int .i64 x])) : Hol w (w2.setCell ⟨w.heap.size + 1 + 1, 1, none⟩ v') N k tv v' (i + 1) (vals ++ [x]) := by
  have hlo := (Array.getElem?_eq_some_iff.1 H.ob).1
  have hs1 : wr.heap.size ≤ w1.heap.size := hb.size
  have hne : ∀ k, k < w.heap.size + 1 + 1 + 1 → (Value.slice v1 i v3).ownBlock ≠ some k := fun k hk e => by have := (H.row.lt k e).1; omega
  have e2 : ∀ k, k < w.heap.size + 1 + 1 + 1 → w2.heap[k]? = wr.heap[k]? := fun k hk => (moved_old hm (by simp; omega) (hne k hk)).trans ((heap_alloc_old w1 o (by omega)).trans (hb.block k (by show k < wr.heap.size; omega)))
  have e3 : ∀ k, k < w.heap.size + 1 + 1 → (w2.setCell ⟨w.heap.size + 1 + 1, 1, none⟩ v').heap[k]? = wr.heap[k]? := fun k hk => (Below.heap_setCell _ _ _ _ (by show k ≠ w.heap.size + 1 + 1; omega)).trans (e2 k (by omega))
  have hob := (e2 (w.heap.size + 1 + 1) (by omega)).trans H.ob
  have hs2 : w1.heap.size ≤ w2.heap.size := by rcases hm with ⟨_, h⟩ | ⟨_, h⟩ <;> (have := h.size; simp at this; omega)
  refine ⟨⟨?_, ?_, ?_, ?_, fun k hk => (e3 k (by omega)).trans (H.bel.block k hk)⟩, (e3 _ (by omega)).trans H.node, (e3 _ (by omega)).trans H.map, Joins.block_setCell (i := 1) hob _, ?_⟩
  · rcases hm with ⟨_, h⟩ | ⟨_, h⟩ <;> exact h.os.trans (hb.os.trans H.bel.os)
  · rcases hm with ⟨_, h⟩ | ⟨_, h⟩ <;> exact h.tape.trans (hb.tape.trans H.bel.tape)
  · rcases hm with ⟨_, h⟩ | ⟨_, h⟩ <;> exact h.output.trans (hb.output.trans H.bel.output)
  · have := H.bel.size; simp [World.setCell]; omega
  · rw [show I64 (vals ++ [x]) = I64 vals ++ [.int .i64 x] by simp]
    exact own_setCell ho (own_ne ho hob (by decide))
set_option maxRecDepth 100000 in
set_option maxHeartbeats 4000000 in
theorem newWalks31g (N : Nd) (k : Int) (tx : List Int) (ad : Option Addr) (tn tcap K : Nat) (gi : Int) (w : World) (htx : Look.TextAt w.heap.size w ad tn tx) (htn : tn ≤ 64) (hK : (K : Int) = 2 * gi + 2) (hgi : 0 ≤ gi ∧ gi ≤ 500)
    (HGI : Hid (∀ w', Below w.heap.size w w' → Calls Try.prog 52 #[N.v k] w' fun e w'' => e = .returned (.int .i64 gi) ∧ Below w'.heap.size w' w'')) (PB : Int → Way → List Nat → List Nat → World → Prop) (hPB : ∀ n W F FE w' w'', PB n W F FE w' → w'.heap.size ≤ w''.heap.size → (∀ k ∈ FE, w''.heap[k]? = w'.heap[k]?) → PB n W F FE w'')
    (HBG : Hid (∀ (A : Six) (w' : World) (v : Value) (F0 : List Nat), Below w.heap.size w w' → O7 w' (w.heap.size + 1 + 1) A 1 → Rep (w.heap.size + 1 + 1) K AL w' v (.once 1 .through) F0 → w.heap.size + 1 + 1 ∉ F0 → (∀ k ∈ F0, w.heap.size + 1 + 1 + 1 ≤ k) →
      Calls Try.prog 53 #[pt (w.heap.size + 1 + 1), N.v k, v] w' fun e w'' => ∃ u F FE n1 W, e = .returned u ∧ Mk (w.heap.size + 1 + 1) K AL w' w'' A n1 u W (List.range w.heap.size ++ F0) F ∧ PB n1 W F FE w'' ∧ (∀ k ∈ FE, k ∈ List.range w.heap.size ++ F0 ∨ w'.heap.size ≤ k))) :
    Calls Try.prog 31 #[N.v k, .slice ad tn tcap] w fun e w' => ∃ g u F FE B C n1 W, e = .returned (pt g) ∧ g = w.heap.size + 1 + 1 ∧ WS w.heap.size w' g C ⟨[], List.replicate K (-1), []⟩ B ∧ C.tv = .slice ad tn tcap ∧ (∃ hb, TX w' C.hv (hols tx) [hb] ∧ w.heap.size ≤ hb ∧ hb ∉ B ∧ hb < w'.heap.size) ∧ C.wh = u ∧ C.K = K ∧ Rep g K AL w' u W F ∧ PB n1 W F FE w' ∧ (∀ k ∈ F, k ∉ B) ∧ (∀ k ∈ FE, k ∉ B) ∧ (∀ k ∈ B, w.heap.size ≤ k) ∧ Below w.heap.size w w' := by
  have hm := hmf
  have hmm : ∀ w, (Instr.makeMap 82 none).run Try.prog w = .ok (.map (some w.heap.size)) (w.alloc (.map #[] 0)) := fun _ => rfl
  obtain ⟨h1, h2, h3, h4⟩ := three_new w (N.o k) (.map #[] 0) (.cells #[.slice ad tn tcap, .slice none 0 0, .nilFunc, .int .i64 0, .map (some (w.heap.size + 1)), .slice none 0 0, .slice none 0 0] 86)
  have hH : Hol w _ N k (.slice ad tn tcap) (.slice none 0 0) 0 [] := ⟨below_two' w _ _ |>.trans (Joins.below_le (Joins.below_alloc1 _ _) (by simp; omega)), h1, h2, h3, World.ownsRow_nil _ _ _ _⟩
  have HH := hid hH
  obtain ⟨i0, hi0, hz0, hz1, hz2⟩ := info_parts info3
  have HT := hid htx
  have HTL : Hid (tn = tx.length) := htx.1
  clear hH h1 h2 h3 h4 htx
  go_enter Try.func31, Try.ntmps31
  go_wp2_with fail
  obtain ⟨z, hz⟩ : ∃ z, z = w.heap.size := ⟨_, rfl⟩
  go_loopw [14] (fun x wq => ∃ i : Nat, x = .int .i64 (i : Int) ∧ i ≤ tn + 1 ∧ Hid (∃ hv vals, Hol w wq N k (.slice ad tn tcap) hv i vals ∧ vals = (List.range i).map fun (p : Nat) => Look.atN tx (p : Int))) (fun x _ => tn + 1 - (intOf x).toNat)
  case atStart => exact ⟨0, rfl, by omega, by exact ⟨_, _, HH.out, rfl⟩⟩
  case round =>
    obtain ⟨i, rfl, hi, HI⟩ := hrel
    by_cases hil : i < tn + 1
    · obtain ⟨hv, vals, hX, hvals⟩ := HI.out
      have HV := hid hvals
      clear hvals
      have b1 : decide ((i : Int) < (tn : Int) + 1) = true := by simp; omega
      have b2 : (i : Int) < (tn : Int) + 1 := by omega
      have HX := hid hX
      have ad1 : IntKind.i64.wrap ((i : Int) + 1) = (i : Int) + 1 := by simp [IntKind.wrap, IntKind.bits, IntKind.signed]; omega
      have g1 : wr.cell? ⟨w.heap.size + 1 + 1, 1, none⟩ = some hv := Joins.cell_of_block hX.ob 1
      obtain ⟨v1, v3, rfl⟩ : ∃ v1 v3, hv = .slice v1 i v3 := by
        rcases Joins.ownsRow_forms hX.row with ⟨rfl, h⟩ | ⟨b, cap, rfl⟩
        · exact ⟨none, 0, by rw [h]⟩
        · exact ⟨_, _, rfl⟩
      have hAt := Look.at10 tx ad tn tcap (i : Int) wr.drew (text_below HT.out hX.bel.drew (by have := hX.bel.size; exact this))
      clear hX HI
      rw [← hz] at g1 ⊢
      have HZ := hid hz
      clear hz
      go_wp2_with fail
      have hrow1 : ∀ w1, Below wr.drew.heap.size wr.drew w1 → w1.ownsRow (w.heap.size + 1 + 1 + 1) 3 1 (.slice v1 i v3) i (I64 vals) ∧ w1.heap[w.heap.size + 1 + 1]? = some (.cells #[.slice ad tn tcap, .slice v1 i v3, .nilFunc, .int .i64 0, .map (some (w.heap.size + 1)), .slice none 0 0, .slice none 0 0] 86 (0, 0)) ∧ w.heap.size + 1 + 1 + 1 ≤ w1.heap.size := fun w1 hb => by
        have hl := (Array.getElem?_eq_some_iff.1 HX.out.ob).1
        exact ⟨row_kept HX.out.row fun b hb2 => hb.block b (HX.out.row.lt b hb2).2, (hb.block _ hl).trans HX.out.ob, by have := hb.size; have h : wr.heap.size ≤ w1.heap.size := this; omega⟩
      rw [← HZ.out] at hrow1
      have HR1 := hid hrow1
      clear hrow1
      go_region_law (first | (refine step_append_moveN rfl (.tmp 21) (.tmp 25) 29 rfl (z + 1 + 1 + 1) 3 i0 (.int .i64 0) 1 8 Try.underlying29 hi0 hz0 hz1 hz2 rfl (by decide) (.slice v1 i v3) i (I64 vals) rfl ((HR1.out w1 HB1.out).1.alloc _) ⟨w1.heap.size, 0, none⟩ 1 1 [.int .i64 (Look.atN tx (i : Int))] rfl rfl (by decide) (one_new w1 _ 3) (by intro u hu; simp at hu; subst hu; rfl) (by unfold maxLen; omega) (by omega) (by have := (HR1.out w1 HB1.out).2.2; simp; omega) ?_; intro v' w2 ho2 hm2; obtain ⟨vb, vc, rfl⟩ := Joins.ownsRow_form ho2 (by omega); have hbl := (HR1.out w1 HB1.out); have hne : (Value.slice v1 i v3).ownBlock ≠ some (z + 1 + 1) := (fun e => by have := (hbl.1.lt _ e).1; omega); have hb2 : w2.heap[z + 1 + 1]? = some (.cells #[.slice ad tn tcap, .slice v1 i v3, .nilFunc, .int .i64 0, .map (some (z + 1)), .slice none 0 0, .slice none 0 0] 86 (0, 0)) := (moved_old hm2 (by simp; omega) hne).trans ((heap_alloc_old w1 _ (by omega)).trans hbl.2.1); have c2 : w2.cell? ⟨z + 1 + 1, 1, none⟩ = some (.slice v1 i v3) := Joins.cell_of_block hb2 1; have f2 := Joins.unfrozen_of_block hb2 1; have HO2 := hid ho2; have HM2 := hid hm2; have HB2 := hid hb2; clear ho2 hm2 hb2 hbl hne) | (refine step_call2 rfl 50 (.tmp 22) (.tmp 23) 29 3 rfl en50 (Calls.mono hAt (fun e w1 hG => ?_)); obtain ⟨he, hb1⟩ := hG; subst he; refine ⟨_, rfl, ?_⟩; have d1 : w1.cell? ⟨z + 1 + 1, 1, none⟩ = some (.slice v1 i v3) := Joins.cell_of_block (HR1.out w1 hb1).2.1 1; have dl : z + 1 + 1 < w1.heap.size := (by have := (HR1.out w1 hb1).2.2; omega); have HB1 := hid hb1; clear hb1 hAt))
      all_goals
        go_wp2
        refine ⟨⟨i + 1, by push_cast; rfl, by omega, ?_⟩, by simp [intOf]; omega⟩
        have h := HX.out.next HB1.out _ HM2.out (by rw [← HZ.out]; exact HO2.out)
        rw [← HZ.out] at h
        exact ⟨_, _, h, by rw [HV.out, List.range_succ, List.map_append]; rfl⟩
    · obtain rfl : i = tn + 1 := by omega
      obtain ⟨hv, vals, hX, hvals⟩ := HI.out
      have HV := hid hvals
      clear hvals
      have HX := hid hX
      have hlo := (Array.getElem?_eq_some_iff.1 hX.ob).1
      obtain ⟨o0, o1, o2, o3, o4, o5, o6, o7, o8⟩ := nine' hX.node
      have HG1 := HGI.out (wr.alloc (.cells #[M1] 3)) (hX.bel.alloc (by have := hX.bel.size; omega) _)
      have b9 : decide (((tn + 1 : Nat) : Int) < (tn : Int) + 1) = false := by simp
      have b9' : decide ((tn : Int) + 1 < (tn : Int) + 1) = false := by simp
      have m1 : IntKind.i64.wrap (2 * gi) = 2 * gi := by simp [IntKind.wrap, IntKind.bits, IntKind.signed]; omega
      have m2 : IntKind.i64.wrap (2 * gi + 2) = (K : Int) := by simp [IntKind.wrap, IntKind.bits, IntKind.signed]; omega
      clear hX HI
      rw [← hz] at o0 o1 o2 o3 o4 o5 o6 o7 o8 hlo ⊢
      have HZ := hid hz
      clear hz
      have zl : z < wr.heap.size := by omega
      have hgo : ∀ w1 w2, Below (wr.alloc (.cells #[M1] 3)).heap.size (wr.alloc (.cells #[M1] 3)) w1 → Below w1.heap.size w1 w2 → ∀ k, k < wr.heap.size → w2.heap[k]? = wr.heap[k]? := fun w1 w2 h1 h2 k hk => (h2.block k (by have := h1.size; simp at this; omega)).trans ((h1.block k (by simp; omega)).trans (heap_alloc_old wr _ hk))
      have HGO := hid hgo
      have HKK := hid hK
      clear hgo hK
      go_upto_region 8 with (first | (go_at_call 52; (with_reducible refine HG1.mono ?_); rintro e w1 ⟨rfl, hb1⟩; have HB1 := hid hb1; have HC1 := repeat51g wr.heap.size 1 K (by have := HKK.out; omega) (by have := HKK.out; omega) w1 ((hb1.cell (p := ⟨wr.heap.size, 0, none⟩) (by simp)).trans (by simp)) (by have := hb1.size; simp at this; omega); clear hb1 HG1) | (go_at_call 51; (with_reducible refine HC1.mono ?_); rintro e w2 ⟨rfl, hb2, hn2⟩; have HB2 := hid hb2; have HN2 := hid hn2; have hg2 : w2.heap[z + 1 + 1]? = some (.cells #[.slice ad tn tcap, hv, .nilFunc, .int .i64 0, .map (some (z + 1)), .slice none 0 0, .slice none 0 0] 86 (0, 0)) := (HGO.out w1 w2 HB1.out hb2 _ hlo).trans (by rw [HZ.out]; exact HX.out.ob); have c5 : w2.cell? ⟨z + 1 + 1, 5, none⟩ = some (.slice none 0 0) := Joins.cell_of_block hg2 5; have f5 := Joins.unfrozen_of_block hg2 5; have HG2 := hid hg2; clear hb2 hn2 HC1 hg2))
      obtain ⟨nb, hnb⟩ : ∃ nb, nb = w1.heap.size := ⟨_, rfl⟩
      rw [← hnb]
      obtain ⟨X, hX⟩ : ∃ X, X = w2.setCell ⟨z + 1 + 1, 5, none⟩ (.slice (some ⟨nb, 0, none⟩) K K) := ⟨_, rfl⟩
      rw [← hX]
      have hs1 : wr.heap.size < w1.heap.size := by have := HB1.out.size; simp at this; omega
      have hXs : X.heap.size = w2.heap.size := by rw [hX]; simp [World.setCell]
      obtain ⟨arr, ha1, ha2, ha3⟩ := HN2.out
      rw [← hnb] at ha1
      have hnl : nb < X.heap.size := by rw [hXs]; exact (Array.getElem?_eq_some_iff.1 ha1).1
      have hXo : ∀ k, k < wr.heap.size → k ≠ z + 1 + 1 → X.heap[k]? = wr.heap[k]? := fun k hk hne => by rw [hX]; exact (Below.heap_setCell _ _ _ _ hne).trans (HGO.out w1 w2 HB1.out HB2.out k hk)
      have hXg : O7 X (z + 1 + 1) ⟨.slice ad tn tcap, hv, .nilFunc, .map (some (z + 1)), .slice (some ⟨nb, 0, none⟩) K K, .slice none 0 0⟩ 0 := by rw [hX]; exact Joins.block_setCell (i := 5) HG2.out _
      have hXn : X.heap[nb]? = some (.cells arr 3 (0, 0)) := by rw [hX]; exact (Below.heap_setCell _ _ _ _ (by show nb ≠ z + 1 + 1; omega)).trans ha1
      have hXz : X.heap[z]? = some (.cells (N.c k) 28 (0, 0)) := (hXo z zl (by omega)).trans (by rw [HZ.out]; exact HX.out.node)
      have hXm : X.heap[z + 1]? = some (.map #[] 0) := (hXo (z + 1) (by omega) (by omega)).trans (by rw [HZ.out]; exact HX.out.map)
      have hXb : Below w.heap.size w X := by
        rw [hX]
        have hz := HZ.out
        exact (HX.out.bel.trans (Joins.below_le (((Below.refl _ wr).alloc (Nat.le_refl _) _).trans (Joins.below_le (HB1.out.trans (Joins.below_le HB2.out (by simp; omega))) (by simp))) HX.out.bel.size)).setCell (by show w.heap.size ≤ z + 1 + 1; omega) _
      have HC : Calls Try.prog 54 #[pt (z + 1 + 1), .func (.func 55) #[pt (z + 1 + 1)] #[]] X.drew fun e w' => ∃ v F, e = .returned v ∧ Mk (z + 1 + 1) K AL X.drew w' ⟨.slice ad tn tcap, hv, .nilFunc, .map (some (z + 1)), .slice (some ⟨nb, 0, none⟩) K K, .slice none 0 0⟩ 1 v (.once 1 .through) [] F := by
        simpa using once54 (z + 1 + 1) K AL _ 0 (.func (.func 55) #[pt (z + 1 + 1)] #[]) .through [] X.drew hXg .through (by simp) ⟨by omega, by omega⟩
      have hS : ∀ w3 : World, (∀ k, k < X.heap.size → k ≠ z + 1 + 1 → w3.heap[k]? = X.heap[k]?) → w3.heap[z]? = some (.cells (N.c k) 28 (0, 0)) := fun w3 h => (h z (by omega) (by omega)).trans hXz
      have HSZ := hid hS
      have HXG := hid hXg
      have HXN := hid hXn
      have HXM := hid hXm
      have HXB := hid hXb
      have HXS := hid hXs
      have HXO := hid hXo
      have HA2 := hid ha2
      have HA3 := hid ha3
      have hgX : z + 1 + 1 < X.heap.size := by omega
      have x9 := nine' hXz
      have HBGz := hid HBG.out
      rw [← HZ.out] at HBGz
      clear hX hXo hXg hXn hXz hXm hXb hXs hS c5 f5 o0 o1 o2 o3 o4 o5 o6 o7 o8 ha1 ha2 ha3
      go_region_held2 (fun w3 => w3.cell? ⟨z, 0, none⟩ = some (.int .i64 k) ∧ w3.cell? ⟨z, 1, none⟩ = some (.slice N.r1 N.r2 N.r3) ∧ w3.cell? ⟨z, 2, none⟩ = some (.int .i64 N.a2) ∧ w3.cell? ⟨z, 3, none⟩ = some (.slice N.s1 N.s2 N.s3) ∧ w3.cell? ⟨z, 4, none⟩ = some (.int .i64 N.a4) ∧ w3.cell? ⟨z, 5, none⟩ = some (.int .i64 N.a5) ∧ w3.cell? ⟨z, 6, none⟩ = some (.bool N.a6) ∧ w3.cell? ⟨z, 7, none⟩ = some (.int .i64 N.a7) ∧ w3.cell? ⟨z, 8, none⟩ = some (.string N.a8))
        (first | exact x9 | exact nine' (HSZ.out w3 (fun k hk hne => M3.out.chg.block k hk (by simpa using hne))) | exact nine' (HSZ.out w4 (fun k hk hne => HO4.out k hk hne)) | exact nine' (HSZ.out _ (fun k hk hne => (Below.heap_setCell _ _ _ _ hne).trans (HO4.out k hk hne))))
        (first | (go_at_call 54; (with_reducible refine HC.mono ?_); rintro e w3 ⟨v3, F3, rfl, m3⟩; obtain ⟨f3, fi3, ca3, rfl⟩ := m3.rep.form; have HC2 := HBGz.out _ w3 _ F3 (by rw [HZ.out]; exact HXB.out.drew.trans (m3.chg.below (by have := HXB.out.size; show w.heap.size ≤ X.heap.size; omega) (fun k hk => by simp at hk; have := HZ.out; omega))) m3.ob m3.rep (m3.away (by simp) hgX) (fun k hk => by rcases m3.new k hk with h | h; cases h; have h : X.heap.size ≤ k := h; omega); have M3 := hid m3; clear m3 HC) | (go_at_call 53; (with_reducible refine HC2.mono ?_); rintro e w4 ⟨u, F, FE, n1, W1, rfl, m4, pb4, hE4⟩; obtain ⟨f4, fi4, ca4, rfl⟩ := m4.rep.form; have c2 : w4.cell? ⟨z + 1 + 1, 2, none⟩ = some .nilFunc := Joins.cell_of_block m4.ob 2; have f2 := Joins.unfrozen_of_block m4.ob 2; have ho4 : ∀ k, k < X.heap.size → k ≠ z + 1 + 1 → w4.heap[k]? = X.heap[k]? := (fun k hk hne => (m4.chg.block k (by have := M3.out.chg.size; have h : X.heap.size ≤ w3.heap.size := this; omega) (by simpa using hne)).trans (M3.out.chg.block k hk (by simpa using hne))); have HO4 := hid ho4; have M4 := hid m4; have PB4 := hid pb4; have HE4 := hid hE4; clear m4 pb4 hE4 ho4 HC2))
      all_goals
        go_wp2
        go_ret
        obtain ⟨Y, hY⟩ : ∃ Y, Y = w4.setCell ⟨z + 1 + 1, 2, none⟩ (.func (.func f4) fi4 ca4) := ⟨_, rfl⟩
        have hYo : ∀ k, k ≠ z + 1 + 1 → Y.heap[k]? = w4.heap[k]? := fun k hk => by rw [hY]; exact Below.heap_setCell _ _ _ _ hk
        have hYs : Y.heap.size = w4.heap.size := by rw [hY]; simp [World.setCell]
        have sX3 : X.heap.size ≤ w3.heap.size := M3.out.chg.size
        have s34 := M4.out.chg.size
        have hzz := HZ.out
        have hsw := HXB.out.size
        have hold : ∀ k ∈ List.range z ++ F3, k < z ∨ X.heap.size ≤ k := fun k hk => by
          rcases List.mem_append.1 hk with h | h
          · simp at h; exact .inl h
          · rcases M3.out.new k h with h | h
            · cases h
            · exact .inr h
        have hFn : ∀ k ∈ F, k < z ∨ X.heap.size ≤ k := fun k hk => by
          rcases M4.out.new k hk with h | h
          · exact hold k h
          · right; omega
        have hEn : ∀ k ∈ FE, k < z ∨ X.heap.size ≤ k := fun k hk => by
          rcases HE4.out k hk with h | h
          · exact hold k h
          · right; omega
        have hYb : Below w.heap.size w Y := by
          rw [hY]
          exact (HXB.out.drew.trans ((M3.out.chg.trans M4.out.chg).below (by show w.heap.size ≤ X.heap.size; omega) (fun k hk => by simp at hk; omega))).setCell (by show w.heap.size ≤ z + 1 + 1; omega) _
        have harr : arr = (List.replicate K M1).toArray := by
          apply Array.ext
          · simp [HA2.out]
          · intro i h1 h2
            have := HA3.out i (by rw [← HA2.out]; exact h1)
            rw [Array.getElem?_eq_getElem h1] at this
            simp at this ⊢
            exact this
        have hKK := HKK.out
        have hYnb : Y.heap[nb]? = some (.cells (List.replicate K M1).toArray 3 (0, 0)) := (hYo nb (by omega)).trans ((HO4.out nb hnl (by omega)).trans (by rw [← harr]; exact HXN.out))
        obtain ⟨hb, hcap, rfl⟩ : ∃ hb hcap, hv = .slice (some ⟨hb, 0, none⟩) (tn + 1) hcap := by
          rcases Joins.ownsRow_forms HX.out.row with ⟨rfl, h⟩ | ⟨b, cap, rfl⟩
          · omega
          · exact ⟨_, _, rfl⟩
        have hrl := HX.out.row.lt hb rfl
        have hrowY : Y.ownsRow (w.heap.size + 1 + 1 + 1) 3 1 (.slice (some ⟨hb, 0, none⟩) (tn + 1) hcap) (tn + 1) (I64 vals) := row_kept HX.out.row fun b hb2 => by
          cases hb2
          exact (hYo hb (by omega)).trans ((HO4.out hb (by omega) (by omega)).trans (HXO.out hb hrl.2 (by omega)))
        have hvl : vals = hols tx := by rw [HV.out, HTL.out]; rfl
        have hlen : (hols tx).length = tn + 1 := by rw [hols_len, ← HTL.out]
        have hcapl : tn + 1 ≤ hcap := by
          rcases hrowY.2 with ⟨h, _⟩ | ⟨g, cap, cur, h, _, _, h2, _⟩
          · simp at h
          · simp only [Value.slice.injEq] at h
            obtain ⟨_, h3, rfl⟩ := h
            omega
        have htx : TX Y (.slice (some ⟨hb, 0, none⟩) (tn + 1) hcap) (hols tx) [hb] := by
          refine ⟨some ⟨hb, 0, none⟩, hcap, by rw [hlen], by rw [hlen]; exact hcapl, .inr ⟨hb, 0, rfl, by simp, (hrowY.lt hb rfl).2, fun j hj => ?_⟩⟩
          rw [Nat.zero_add, hrowY.cellAt j (by rw [hlen] at hj; omega), hvl]
          simp [List.getElem?_eq_getElem hj]
        have hws : WS w.heap.size Y (z + 1 + 1) ⟨.slice ad tn tcap, .slice (some ⟨hb, 0, none⟩) (tn + 1) hcap, .func (.func f4) fi4 ca4, n1, z + 1, nb, K, K⟩ ⟨[], List.replicate K (-1), []⟩ [z + 1 + 1, z + 1, nb] := by
          refine ⟨⟨.slice none 0 0, [], [], ?_, World.ownsRow_nil _ _ _ _, .nil, by simp, by simp [Value.ownBlock]⟩, ⟨#[], 0, ?_, rfl, (by intro x hx; cases hx), (by intro x hx; cases hx)⟩, ⟨by simp, .inr ⟨nb, K, (List.replicate K M1).toArray, by simp [Cx.nv], ?_, hYnb, by simp, ?_, by simp, ?_⟩⟩, by simp, (by show 2 ≤ K; omega), (by show K ≤ 10000; omega), ⟨(by show w.heap.size ≤ z + 1 + 1; omega), (by show w.heap.size ≤ z + 1; omega)⟩⟩
          · rw [hY]; exact Joins.block_setCell (i := 2) M4.out.ob _
          · show Y.heap[z + 1]? = _
            exact (hYo (z + 1) (by omega)).trans ((HO4.out (z + 1) (by omega) (by omega)).trans HXM.out)
          · show w.heap.size ≤ nb; omega
          · unfold maxLen; omega
          · simp
        have haB : ∀ k, (k < z ∨ X.heap.size ≤ k) → k ∉ [z + 1 + 1, z + 1, nb] := fun k h hm => by
          simp only [List.mem_cons, List.not_mem_nil, or_false] at hm
          rcases h with h | h <;> omega
        have hrep : Rep (z + 1 + 1) K AL Y (.func (.func f4) fi4 ca4) W1 F := M4.out.rep.kept fun k hk => hYo k (by rcases hFn k hk with h | h <;> omega)
        have hpb : PB n1 W1 F FE Y := hPB _ _ _ _ _ _ PB4.out (by omega) (fun k hk => hYo k (by rcases hEn k hk with h | h <;> omega))
        rw [← hY]
        refine ⟨z + 1 + 1, .func (.func f4) fi4 ca4, F, FE, [z + 1 + 1, z + 1, nb], _, n1, W1, rfl, by omega, hws, rfl, ⟨hb, htx, by omega, ?_, (hrowY.lt hb rfl).2⟩, rfl, rfl, hrep, hpb, fun k hk => haB k (hFn k hk), fun k hk => haB k (hEn k hk), fun k hm => ?_, hYb⟩
        · simp only [List.mem_cons, List.not_mem_nil, or_false]
          omega
        · simp only [List.mem_cons, List.not_mem_nil, or_false] at hm
          omega
end Go.Proofs.Ytnpocciioedgpaa
/- HELPERS: what comes of the walks from a place. -/
namespace Go.Proofs.Ytnpocciioedgpaa
open Go.RowKit
set_option linter.unusedVariables false
set_option linter.unusedSimpArgs false
mutual
theorem Rep.only {g K : Nat} {L L' : Nat → Prop} {w : World} {v : Value} {d : Way} {F : List Nat} (h : Rep g K L w v d F) (hL : ∀ b ∈ d.ags, L' b) : Rep g K L' w v d F := by
  cases h with
  | through => exact .through
  | once h5 h2 h3 hn hd => exact .once h5 h2 h3 hn (hd.only hL)
  | noted h3 h4 h5 hc hd => exact .noted h3 h4 h5 hc (hd.only hL)
  | runeOf h3 h4 h5 hr hd => exact .runeOf h3 h4 h5 hr (hd.only hL)
  | ifHolds h4 h3 h5 hd => exact .ifHolds h4 h3 h5 (hd.only hL)
  | inOrder h1 hs hl => exact .inOrder h1 hs (hl.only hL)
  | again hb => exact .again (hL _ (by simp [Way.ags]))
theorem Reps.only {g K : Nat} {L L' : Nat → Prop} {w : World} {v : List Value} {d : List Way} {F : List Nat} (h : Reps g K L w v d F) (hL : ∀ b ∈ agsL d, L' b) : Reps g K L' w v d F := by
  cases h with
  | nil => exact .nil
  | cons h hs => exact .cons (h.only fun b hb => hL b (by simp [agsL, hb])) (hs.only fun b hb => hL b (by simp [agsL, hb]))
end
theorem row_slice {w : World} {N e size n : Nat} {v : Value} {xs : List Value} (h : w.ownsRow N e size v n xs) : ∃ a l c, v = .slice a l c := by
  rcases h.2 with ⟨rfl, _⟩ | ⟨g, cap, cur, rfl, _⟩
  · exact ⟨_, _, _, rfl⟩
  · exact ⟨_, _, _, rfl⟩
/-- the parses as they lie in memory -/
def Parsed (N : Nat) (w : World) (pv : Value) (l : List (Int × List Int)) : Prop := ∃ cs F, w.ownsRow N 53 2 pv l.length cs ∧ PR N w cs l F
set_option maxRecDepth 100000 in
set_option maxHeartbeats 4000000 in
theorem from32g (N g p : Nat) (C : Cx) (L : Nat → Prop) (E : Nat → Way) (W : Way) (tx : List Int) (s s' : Sg) (u : Value) (F FE Ft B : List Nat) (w : World) (hN : N ≤ w.heap.size) (hW : WS N w g C s B) (hwh : C.wh = u) (hR : Rep g C.K L w u W F) (hEn : Env g C.K L w E FE) (o : Bool) (hE : ∀ k, (E k).few o) (hWf : W.few o) (hT : TT o w C tx Ft) (htx : tx.length ≤ 100000)
    (aF : ∀ k ∈ F, k ∉ B) (aE : ∀ k ∈ FE, k ∉ B) (aT : ∀ k ∈ Ft, k ∉ B) (hFE : ∀ k ∈ FE, k < w.heap.size) (hFt : ∀ k ∈ Ft, k < w.heap.size) (hp : p ≤ tx.length) (hl : s'.parses.length < 1000000) (hx : Ex tx E W p { s with notes := s.notes.set 0 (p : Int) } s') :
    Calls Try.prog 32 #[pt g, .int .i64 (p : Int)] w fun e w' => ∃ pv, e = .returned pv ∧ Parsed N w' pv s'.parses ∧ ∃ B', Chg w w' B B' := by
  obtain ⟨pv, cs, F0, hg, _⟩ := hW.ex
  have hK := hW.two
  have hnb := hW.nblk
  obtain ⟨cur, hn⟩ := hnb
  have g5 : w.cell? ⟨g, 5, none⟩ = some (.slice (some ⟨C.nb, 0, none⟩) C.K C.ncap) := Joins.cell_of_block hg 5
  have rd := hW.read 0 (by omega)
  have uf := Joins.unfrozen_of_block hn 0
  have i1 : (0 : Int) < (C.K : Int) := by omega
  obtain ⟨f, fi, ca, hu⟩ := hR.form
  subst hu
  obtain ⟨X, hX⟩ : ∃ X, X = w.setCell ⟨C.nb, 0, none⟩ (.int .i64 (p : Int)) := ⟨_, rfl⟩
  have hXs : WS N X g C { s with notes := s.notes.set 0 (p : Int) } B := by rw [hX]; exact hW.note 0 (by omega) (p : Int)
  have hXc : Chg w X B B := by rw [hX]; exact (Chg.refl w B).set (a := ⟨C.nb, 0, none⟩) (.int .i64 (p : Int)) hW.blocks.2.2
  obtain ⟨pv2, cs2, F2, hg2, _⟩ := hXs.ex
  have x2 : X.cell? ⟨g, 2, none⟩ = some (.func (.func f) fi ca) := by rw [← hwh]; exact Joins.cell_of_block hg2 2
  have HC := exec (N := N) (g := g) (C := C) (L := L) (FE := FE) (Ft := Ft) (tx := tx) (E := E) (o := o) hE htx hx X _ F B hWf hp hl (Nat.le_trans hN hXc.size) hXs (hR.kept fun k hk => hXc.block k (hR.low k hk) (aF k hk))
    (hEn.kept fun k hk hk2 => hXc.block k hk2 (aE k hk)) (hT.kept (fun k hk hk2 => hXc.block k hk2 (aT k hk)) hXc.size) aF aE aT (fun k hk => Nat.lt_of_lt_of_le (hFE k hk) hXc.size) (fun k hk => by have := hXc.size; have := hFt k hk; omega)
  obtain ⟨f', fi', ca', e1, hcf, hC⟩ := HC
  simp only [Value.func.injEq, Fn.func.injEq] at e1
  obtain ⟨rfl, rfl, rfl⟩ := e1
  have HXC := hid hXc
  have HX := hid hX
  clear hW hg hn hR hEn hT hx hXs hXc hg2 aF aE aT hFt hFE hE hWf hl
  go_enter Try.func32, Try.ntmps32
  go_upto_region 2 with fail
  rw [← hX]
  clear hX
  go_wp2_with (first | ((with_reducible refine hC.mono ?_); rintro e w2 ⟨rfl, B2, hW2, hC2⟩; obtain ⟨pv3, cs3, F3, hg3, hp3, hP3, _⟩ := hW2.ex; have y6 : w2.cell? ⟨g, 6, none⟩ = some pv3 := Joins.cell_of_block hg3 6; have HP3 : Hid (Parsed N w2 pv3 s'.parses) := ⟨cs3, F3, hp3, hP3⟩; obtain ⟨q1, q2, q3, rfl⟩ := row_slice hp3; have HC2 := hid hC2; clear hC hW2 hC2 hg3 hp3 hP3))
  go_ret
  exact ⟨_, rfl, HP3.out, B2, HXC.out.trans HC2.out⟩
end Go.Proofs.Ytnpocciioedgpaa
/- HELPERS: every way comes to its end. -/
namespace Go.Proofs.Ytnpocciioedgpaa
open Go.RowKit
set_option linter.unusedVariables false
set_option linter.unusedSimpArgs false
/-- all pairs of a thing and a place -/
def box (top len : Nat) : List (Int × Int) := (List.range (top + 1)).flatMap fun (n : Nat) => (List.range (len + 1)).map fun (p : Nat) => ((n : Int), (p : Int))
theorem mem_box {top len : Nat} {n : Int} {p : Nat} (h0 : 0 ≤ n) (h1 : n ≤ (top : Int)) (hp : p ≤ len) : (n, (p : Int)) ∈ box top len := by
  simp only [box, List.mem_flatMap, List.mem_range, List.mem_map]
  exact ⟨n.toNat, by omega, p, by omega, by rw [Int.toNat_of_nonneg h0]⟩
/-- how many of them were not done -/
def left (top len : Nat) (s : Sg) : Nat := (box top len).countP fun q => !decide (q ∈ s.done)
/-- at how many places nothing came through -/
def left1 (len : Nat) (s : Sg) : Nat := (List.range (len + 1)).countP fun (p : Nat) => !decide ((1, (p : Int)) ∈ s.done)
theorem countP_lt {α : Type} {l : List α} {p p' : α → Bool} (h : ∀ x ∈ l, p' x = true → p x = true) {q : α} (hq : q ∈ l) (h1 : p q = true) (h2 : p' q = false) : l.countP p' + 1 ≤ l.countP p := by
  induction l with
  | nil => cases hq
  | cons x l ih =>
    have hm : l.countP p' ≤ l.countP p := List.countP_mono_left fun y hy => h y (by simp [hy])
    simp only [List.mem_cons] at hq
    rcases hq with rfl | hq
    · rw [List.countP_cons_of_pos h1, List.countP_cons_of_neg (by simp [h2])]
      omega
    · have := ih (fun y hy => h y (by simp [hy])) hq
      by_cases hx : p' x = true
      · rw [List.countP_cons_of_pos hx, List.countP_cons_of_pos (h x (by simp) hx)]
        omega
      · rw [List.countP_cons_of_neg hx, List.countP_cons]
        omega
theorem left_done {top len : Nat} {s : Sg} {n : Int} {p : Nat} (h0 : 0 ≤ n) (h1 : n ≤ (top : Int)) (hp : p ≤ len) (hn : (n, (p : Int)) ∉ s.done) : left top len { s with done := s.done ++ [(n, (p : Int))] } + 1 ≤ left top len s := by
  refine countP_lt (fun x _ hx => ?_) (mem_box h0 h1 hp) (by simpa using hn) (by simp)
  simp at hx ⊢
  exact hx.1
theorem left1_le {len : Nat} {s : Sg} {q : Int × Int} : left1 len { s with done := s.done ++ [q] } ≤ left1 len s := by
  refine List.countP_mono_left fun x _ hx => ?_
  simp at hx ⊢
  exact hx.1
theorem left1_done {len : Nat} {s : Sg} {p : Nat} (hp : p ≤ len) (hn : ((1 : Int), (p : Int)) ∉ s.done) : left1 len { s with done := s.done ++ [(1, (p : Int))] } + 1 ≤ left1 len s := by
  refine countP_lt (q := p) (fun x _ hx => ?_) (by simp; omega) (by simpa using hn) (by simp)
  simp at hx ⊢
  exact hx.1
/-- a way comes to an end -/
def Good (tx : List Int) (E : Nat → Way) (top : Nat) (s : Sg) (W : Way) (p : Nat) : Prop :=
  ∃ s', Ex tx E W p s s' ∧ s'.parses.length + left1 tx.length s' ≤ s.parses.length + left1 tx.length s ∧ left top tx.length s' ≤ left top tx.length s ∧ s'.notes.length = s.notes.length
section
variable {tx : List Int} {E : Nat → Way} {top : Nat}
mutual
theorem good_way (m : Nat) (IH : ∀ s W p, left top tx.length s < m → W.tg top → p ≤ tx.length → Good tx E top s W p) (A : Nat → Prop) (hA : ∀ b, A b → ∀ s p, left top tx.length s ≤ m → p ≤ tx.length → Good tx E top s (.again b) p) :
    ∀ (W : Way), W.tg top → (∀ b ∈ W.ua, A b) → ∀ s p, left top tx.length s ≤ m → p ≤ tx.length → Good tx E top s W p
  | .through, hg, _, s, p, hs, hp => by simp [Way.tg] at hg
  | .once n d, hg, _, s, p, hs, hp => by
    simp only [Way.tg] at hg
    by_cases hd : (n, (p : Int)) ∈ s.done
    · exact ⟨s, .skip hd, Nat.le_refl _, Nat.le_refl _, rfl⟩
    · have hl := left_done hg.1.1 hg.1.2 hp hd
      rcases hg.2 with ⟨rfl, rfl⟩ | hg2
      · have hl1 := left1_done (len := tx.length) hp hd
        refine ⟨_, .once hd (.through p _), ?_, ?_, rfl⟩
        · show (s.parses ++ [((p : Int), s.notes.set 1 (p : Int))]).length + left1 tx.length { s with done := s.done ++ [(1, (p : Int))] } ≤ _
          simp only [List.length_append, List.length_cons, List.length_nil]
          omega
        · show left top tx.length { s with done := s.done ++ [(1, (p : Int))] } ≤ _
          omega
      · obtain ⟨s', h1, h2, h3, h4⟩ := IH { s with done := s.done ++ [(n, (p : Int))] } d p (by omega) hg2 hp
        have hl1 := left1_le (len := tx.length) (s := s) (q := (n, (p : Int)))
        exact ⟨s', .once hd h1, by have h2 : s'.parses.length + left1 tx.length s' ≤ s.parses.length + left1 tx.length { s with done := s.done ++ [(n, (p : Int))] } := h2; omega, by omega, h4⟩
  | .noted c d, hg, hu, s, p, hs, hp => by
    simp only [Way.tg] at hg
    obtain ⟨s', h1, h2, h3, h4⟩ := good_way m IH A hA d hg (fun b hb => hu b (by simpa [Way.ua] using hb)) { s with notes := s.notes.set c (p : Int) } p hs hp
    exact ⟨_, .noted h1, h2, h3, by simpa using h4⟩
  | .runeOf R d, hg, hu, s, p, hs, hp => by
    simp only [Way.tg] at hg
    by_cases h : tx.length ≤ p
    · exact ⟨s, .over h, Nat.le_refl _, Nat.le_refl _, rfl⟩
    · by_cases hr : (rightB R && hasB R (tx.getD p 0)) = true
      · obtain ⟨s', h1, h2, h3, h4⟩ := good_way m IH A hA d hg (fun b hb => hu b (by simpa [Way.ua] using hb)) s (p + 1) hs (by omega)
        exact ⟨s', .rune (by omega) hr h1, h2, h3, h4⟩
      · exact ⟨s, .other (by omega) (by simpa using hr), Nat.le_refl _, Nat.le_refl _, rfl⟩
  | .ifHolds a d, hg, hu, s, p, hs, hp => by
    simp only [Way.tg] at hg
    by_cases h : heldB tx a p = true
    · obtain ⟨s', h1, h2, h3, h4⟩ := good_way m IH A hA d hg (fun b hb => hu b (by simpa [Way.ua] using hb)) s p hs hp
      exact ⟨s', .holds h h1, h2, h3, h4⟩
    · exact ⟨s, .fails (by simpa using h), Nat.le_refl _, Nat.le_refl _, rfl⟩
  | .inOrder l, hg, hu, s, p, hs, hp => by
    simp only [Way.tg] at hg
    obtain ⟨ss, h0, h1, h2⟩ := good_ways m IH A hA l hg (fun b hb => hu b (by simpa [Way.ua] using hb)) s p hs hp
    subst h0
    exact ⟨_, .inOrder ss h1, h2⟩
  | .again b, hg, hu, s, p, hs, hp => hA b (hu b (by simp [Way.ua])) s p hs hp
theorem good_ways (m : Nat) (IH : ∀ s W p, left top tx.length s < m → W.tg top → p ≤ tx.length → Good tx E top s W p) (A : Nat → Prop) (hA : ∀ b, A b → ∀ s p, left top tx.length s ≤ m → p ≤ tx.length → Good tx E top s (.again b) p) :
    ∀ (l : List Way), tgL top l → (∀ b ∈ uaL l, A b) → ∀ s p, left top tx.length s ≤ m → p ≤ tx.length → ∃ ss : Nat → Sg, ss 0 = s ∧ (∀ i (hi : i < l.length), Ex tx E (l[i]'hi) p (ss i) (ss (i + 1))) ∧
      (ss l.length).parses.length + left1 tx.length (ss l.length) ≤ s.parses.length + left1 tx.length s ∧ left top tx.length (ss l.length) ≤ left top tx.length s ∧ (ss l.length).notes.length = s.notes.length
  | [], hg, hu, s, p, hs, hp => ⟨fun _ => s, rfl, fun i hi => by simp at hi, Nat.le_refl _, Nat.le_refl _, rfl⟩
  | d :: l, hg, hu, s, p, hs, hp => by
    simp only [tgL] at hg
    obtain ⟨s1, h1, h2, h3, h4⟩ := good_way m IH A hA d hg.1 (fun b hb => hu b (by simp [uaL, hb])) s p hs hp
    obtain ⟨ss, e0, e1, e2, e3, e4⟩ := good_ways m IH A hA l hg.2 (fun b hb => hu b (by simp [uaL, hb])) s1 p (by omega) hp
    refine ⟨fun i => match i with | 0 => s | i + 1 => ss i, rfl, fun i hi => ?_, by simp only [List.length_cons]; omega, by simp only [List.length_cons]; omega, by simp only [List.length_cons]; rw [e4, h4]⟩
    cases i with
    | zero => simpa [e0] using h1
    | succ i => simpa using e1 i (by simpa using hi)
end
theorem good_all (hE : ∀ b, (E b).tg top ∧ (E b).ua = []) : ∀ (m : Nat) (s : Sg) (W : Way) (p : Nat), left top tx.length s ≤ m → W.tg top → p ≤ tx.length → Good tx E top s W p := by
  intro m
  induction m using Nat.strongRecOn with
  | _ m ihm =>
  have IH : ∀ s W p, left top tx.length s < m → W.tg top → p ≤ tx.length → Good tx E top s W p := fun s W p h1 h2 h3 => ihm (left top tx.length s) h1 s W p (Nat.le_refl _) h2 h3
  have hA : ∀ b, True → ∀ s p, left top tx.length s ≤ m → p ≤ tx.length → Good tx E top s (.again b) p := fun b _ s p hs hp => by
    obtain ⟨s', h1, h2⟩ := good_way m IH (fun _ => False) (fun b hb => hb.elim) (E b) (hE b).1 (fun x hx => by rw [(hE b).2] at hx; cases hx) s p hs hp
    exact ⟨s', .again h1, h2⟩
  intro s W p hs hW hp
  exact good_way m IH (fun _ => True) hA W hW (fun _ _ => trivial) s p hs hp
end
end Go.Proofs.Ytnpocciioedgpaa
/- HELPERS: the parses of a tree at a place of a text: what the program answers. -/
namespace Go.Proofs.Ytnpocciioedgpaa
open Go.RowKit
set_option linter.unusedVariables false
set_option linter.unusedSimpArgs false
/-- what comes of the walks of a tree over a text from a place -/
structure PS (t : Tn) (K : Nat) (tx : List Int) (p : Nat) (l : List (Int × List Int)) : Prop where
  ex : ∃ (E : Nat → Way) (W : Way) (n1 : Int) (s' : Sg), Beg E t 1 (.once 1 .through) n1 W ∧ (∀ b, Gw (E b) ∧ (E b).ua = []) ∧ Gw W ∧ Ex tx E W p ⟨[], (List.replicate K (-1)).set 0 (p : Int), []⟩ s' ∧ l = s'.parses
/-- what the loops go round, as a table -/
def envOf (LE : List (Nat × Way)) (b : Nat) : Way := ((LE.find? fun p => p.1 == b).map Prod.snd).getD (.inOrder [])
theorem envOf_mem : ∀ (LE : List (Nat × Way)), (LE.map Prod.fst).Nodup → ∀ p ∈ LE, envOf LE p.1 = p.2 := by
  intro LE
  induction LE with
  | nil => intro _ p hp; cases hp
  | cons q LE ih =>
    intro hn p hp
    simp only [List.map_cons, List.nodup_cons] at hn
    simp only [List.mem_cons] at hp
    rcases hp with rfl | hp
    · simp [envOf]
    · have hne : q.1 ≠ p.1 := fun e => hn.1 (by rw [e]; exact List.mem_map_of_mem hp)
      have := ih hn.2 p hp
      simp only [envOf, List.find?_cons] at this ⊢
      rw [show (q.1 == p.1) = false by simpa using hne]
      exact this
theorem envOf_good (LE : List (Nat × Way)) (h : ∀ p ∈ LE, Gw p.2 ∧ p.2.ua = []) (b : Nat) : Gw (envOf LE b) ∧ (envOf LE b).ua = [] := by
  unfold envOf
  cases hf : LE.find? fun p => p.1 == b with
  | none => exact ⟨.inOrder .nil, by simp [Way.ua, uaL]⟩
  | some p => exact h p (List.mem_of_find?_eq_some hf)
/-- the object that was made leads to the parses -/
theorem walks_from (t : Tn) (K g p : Nat) (tx : List Int) (ad : Option Addr) (tn tcap lo : Nat) (n1 : Int) (W : Way) (u : Value) (F FE B : List Nat) (C : Cx) (LE : List (Nat × Way)) (w w' : World) (htx : Look.TextAt w.heap.size w ad tn tx) (htc : tn ≤ tcap) (htn : tn ≤ 64) (hb : Below w.heap.size w w') (hg : g = w.heap.size + 1 + 1)
    (hW : WS w.heap.size w' g C ⟨[], List.replicate K (-1), []⟩ B) (htv : C.tv = .slice ad tn tcap) (hh : ∃ hb, TX w' C.hv (hols tx) [hb] ∧ w.heap.size ≤ hb ∧ hb ∉ B ∧ hb < w'.heap.size) (hwh : C.wh = u) (hCK : C.K = K) (hR : Rep g K AL w' u W F) (hgw : Gw W)
    (hB : BgR g K lo [] (fun E => Beg E t 1 (.once 1 .through) n1 W) W.ags LE FE w') (aF : ∀ k ∈ F, k ∉ B) (aE : ∀ k ∈ FE, k ∉ B) (aB : ∀ k ∈ B, w.heap.size ≤ k) (hp : p ≤ tn) :
    ∃ l, PS t K tx p l ∧ l.length ≤ 65 ∧ Calls Try.prog 32 #[pt g, .int .i64 (p : Int)] w' fun e w'' => ∃ pv, e = .returned pv ∧ Parsed w.heap.size w'' pv l ∧ Below w.heap.size w w'' := by
  obtain ⟨hb1, hT2, h3, h4, h5⟩ := hh
  have hlen := htx.1
  have hE := envOf_good LE hB.wf
  have hrel := hB.rel (envOf LE) (envOf_mem LE hB.nd)
  obtain ⟨s', hx, hpar, hl2, hno⟩ := good_all (tx := tx) (E := envOf LE) (top := 1000000000) (fun b => ⟨(hE b).1.tg, (hE b).2⟩) _ ⟨[], (List.replicate K (-1)).set 0 (p : Int), []⟩ W p (Nat.le_refl _) hgw.tg (by omega)
  have hcount : s'.parses.length ≤ 65 := by
    have h1 : left1 tx.length ⟨[], (List.replicate K (-1)).set 0 (p : Int), []⟩ ≤ tx.length + 1 := by
      unfold left1
      exact Nat.le_trans List.countP_le_length (by simp)
    simp only [List.length_nil] at hpar
    omega
  have hL : ∀ b ∈ W.ags, b ∈ LE.map Prod.fst := fun b hb => by
    rcases hB.agw b hb with h | h
    · cases h
    · exact h
  have hLL : ∀ q ∈ LE, ∀ b ∈ q.2.ags, b ∈ LE.map Prod.fst := fun q hq b hb => by
    rcases hB.agl q hq b hb with h | h
    · cases h
    · exact h
  refine ⟨s'.parses, ⟨envOf LE, W, n1, s', hrel, hE, hgw, hx, rfl⟩, hcount, ?_⟩
  obtain ⟨tb, hT1, htb⟩ : ∃ tb : List Nat, TX w' C.tv tx tb ∧ ∀ k ∈ tb, k < w.heap.size := by
    obtain ⟨e1, e2, h | ⟨b, off, ha, hbN, hc⟩⟩ := htx.below hb
    · exact ⟨[], ⟨ad, tcap, by rw [htv, e1], by omega, .inl (by omega)⟩, fun k hk => by cases hk⟩
    · exact ⟨[b], ⟨ad, tcap, by rw [htv, e1], by omega, .inr ⟨b, off, ha, by simp, by have := hb.size; omega, fun k hk => hc k (by omega)⟩⟩, fun k hk => by simp at hk; omega⟩
  have hwide : ∀ {v : Value} {l : List Int} {G G' : List Nat}, TX w' v l G → (∀ k ∈ G, k ∈ G') → TX w' v l G' := fun h hG => by
    obtain ⟨a, c, e1, e2, h | ⟨b, off, ha, hbN, hc⟩⟩ := h
    · exact ⟨a, c, e1, e2, .inl h⟩
    · exact ⟨a, c, e1, e2, .inr ⟨b, off, ha, hG b hbN, hc⟩⟩
  have hs := hb.size
  refine (from32g w.heap.size g p C (fun b => b ∈ LE.map Prod.fst) (envOf LE) W tx ⟨[], List.replicate K (-1), []⟩ s' u F FE (tb ++ [hb1]) B w' hs hW hwh (by rw [hCK]; exact hR.only hL) (fun b hbm => ?_) true (fun k => (hE k).1.few) hgw.few
    ⟨hwide hT1 (fun k hk => by simp [hk]), fun _ => hwide hT2 (fun k hk => by simp at hk; simp [hk])⟩ (by omega) aF aE (fun k hk => ?_) hB.low (fun k hk => ?_) (by omega) (by omega) hx).mono ?_
  · simp only [List.mem_map] at hbm
    obtain ⟨q, hq, rfl⟩ := hbm
    obtain ⟨a1, v, F', a2, a3, a4⟩ := hB.env q hq
    rw [envOf_mem LE hB.nd q hq, hCK]
    exact ⟨a1, v, F', a2, a3.only (hLL q hq), a4⟩
  · rcases List.mem_append.1 hk with h | h
    · intro hm
      have := aB k hm
      have := htb k h
      omega
    · simp at h
      rw [h]
      exact h4
  · rcases List.mem_append.1 hk with h | h
    · have := htb k h; omega
    · simp at h; omega
  · rintro e w'' ⟨pv, rfl, hP, B', hC⟩
    exact ⟨pv, rfl, hP, hb.trans (hC.below hs aB)⟩
end Go.Proofs.Ytnpocciioedgpaa
/- HELPERS: the ways of a tree: each thing has one body; so each end comes once. -/
namespace Go.Proofs.Ytnpocciioedgpaa
open Go.RowKit
set_option linter.unusedVariables false
set_option linter.unusedSimpArgs false
mutual
/-- its things are no more than that -/
def Way.upto (k : Int) : Way → Prop
  | .through => True
  | .once n d => n ≤ k ∧ d.upto k
  | .noted _ d => d.upto k
  | .runeOf _ d => d.upto k
  | .ifHolds _ d => d.upto k
  | .inOrder l => uptoL k l
  | .again b => True
def uptoL (k : Int) : List Way → Prop
  | [] => True
  | d :: l => d.upto k ∧ uptoL k l
end
mutual
theorem one_ext {Bd Bd' : Int → Way} {A A' : Nat → Prop} {k k' : Int} (hk : k ≤ k') (hB : ∀ m, m ≤ k → Bd' m = Bd m) (hA : ∀ b, A b → A' b) : ∀ (W : Way), W.one Bd A → W.upto k → W.one Bd' A' ∧ W.upto k'
  | .through, h, _ => by simp [Way.one] at h
  | .once n d, h, hu => by
    simp only [Way.one, Way.upto] at h hu ⊢
    obtain ⟨h1, ⟨rfl, rfl⟩ | ⟨h2, h3⟩⟩ := h
    · exact ⟨⟨(hB _ hu.1).trans h1, .inl ⟨rfl, rfl⟩⟩, by omega, hu.2⟩
    · have := one_ext hk hB hA d h3 hu.2
      exact ⟨⟨(hB _ hu.1).trans h1, .inr ⟨h2, this.1⟩⟩, by omega, this.2⟩
  | .noted _ d, h, hu => by simp only [Way.one, Way.upto] at h hu ⊢; exact one_ext hk hB hA d h hu
  | .runeOf _ d, h, hu => by simp only [Way.one, Way.upto] at h hu ⊢; exact one_ext hk hB hA d h hu
  | .ifHolds _ d, h, hu => by simp only [Way.one, Way.upto] at h hu ⊢; exact one_ext hk hB hA d h hu
  | .inOrder l, h, hu => by simp only [Way.one, Way.upto] at h hu ⊢; exact oneL_ext hk hB hA l h hu
  | .again b, h, hu => by simp only [Way.one, Way.upto] at h hu ⊢; exact ⟨hA b h, trivial⟩
theorem oneL_ext {Bd Bd' : Int → Way} {A A' : Nat → Prop} {k k' : Int} (hk : k ≤ k') (hB : ∀ m, m ≤ k → Bd' m = Bd m) (hA : ∀ b, A b → A' b) : ∀ (l : List Way), oneL Bd A l → uptoL k l → oneL Bd' A' l ∧ uptoL k' l
  | [], _, _ => by simp [oneL, uptoL]
  | d :: l, h, hu => by
    simp only [oneL, uptoL] at h hu ⊢
    have h1 := one_ext hk hB hA d h.1 hu.1
    have h2 := oneL_ext hk hB hA l h.2 hu.2
    exact ⟨⟨h1.1, h2.1⟩, h1.2, h2.2⟩
end
theorem oneL_snoc {Bd : Int → Way} {A : Nat → Prop} {k : Int} {d : Way} (hd : d.one Bd A) (hu : d.upto k) : ∀ {l : List Way}, oneL Bd A l → uptoL k l → oneL Bd A (l ++ [d]) ∧ uptoL k (l ++ [d]) := by
  intro l
  induction l with
  | nil => intro _ _; simp [oneL, uptoL, hd, hu]
  | cons e l ih =>
    intro h1 h2
    simp only [oneL, uptoL, List.cons_append] at h1 h2 ⊢
    have := ih h1.2 h2.2
    exact ⟨⟨h1.1, this.1⟩, h2.1, this.2⟩
/-- more things and more loops: what was stays, the new loops are right -/
structure Ext (E : Nat → Way) (n : Int) (Bd : Int → Way) (A : Nat → Prop) (n1 : Int) (Bd' : Int → Way) (A' : Nat → Prop) : Prop where
  le : n ≤ n1
  bd : ∀ m, m ≤ n → Bd' m = Bd m
  sub : ∀ b, A b → A' b
  new : ∀ b, A' b → A b ∨ ((E b).one Bd' A' ∧ (E b).upto n1)
section
variable {E : Nat → Way}
theorem Ext.refl (n : Int) (Bd : Int → Way) (A : Nat → Prop) : Ext E n Bd A n Bd A := ⟨Int.le_refl _, fun _ _ => rfl, fun _ h => h, fun _ h => .inl h⟩
theorem Ext.one {n n1 : Int} {Bd Bd' : Int → Way} {A A' : Nat → Prop} (h : Ext E n Bd A n1 Bd' A') {W : Way} (h1 : W.one Bd A) (h2 : W.upto n) : W.one Bd' A' ∧ W.upto n1 := one_ext h.le h.bd h.sub W h1 h2
theorem Ext.trans {n n1 n2 : Int} {Bd Bd1 Bd2 : Int → Way} {A A1 A2 : Nat → Prop} (h : Ext E n Bd A n1 Bd1 A1) (h' : Ext E n1 Bd1 A1 n2 Bd2 A2) : Ext E n Bd A n2 Bd2 A2 :=
  ⟨Int.le_trans h.le h'.le, fun m hm => (h'.bd m (Int.le_trans hm h.le)).trans (h.bd m hm), fun b hb => h'.sub b (h.sub b hb), fun b hb => by
    rcases h'.new b hb with hb | hb
    · rcases h.new b hb with hb | hb
      · exact .inl hb
      · exact .inr (h'.one hb.1 hb.2)
    · exact .inr hb⟩
/-- another body -/
def upd (Bd : Int → Way) (n : Int) (W : Way) : Int → Way := fun m => if m = n then W else Bd m
theorem Ext.thing (n : Int) (Bd : Int → Way) (A : Nat → Prop) (W : Way) : Ext E n Bd A (n + 1) (upd Bd (n + 1) W) A := ⟨by omega, fun m hm => by simp only [upd]; rw [if_neg (by omega)], fun _ h => h, fun _ h => .inl h⟩
/-- to begin this keeps each thing to one body -/
def OneM (E : Nat → Way) (n : Int) (B : Way) (n1 : Int) (W : Way) : Prop := ∀ Bd A, 1 ≤ n → B.one Bd A → B.upto n → ∃ Bd' A', Ext E n Bd A n1 Bd' A' ∧ W.one Bd' A' ∧ W.upto n1
theorem OneM.self (n : Int) (B : Way) : OneM E n B n B := fun Bd A _ h1 h2 => ⟨Bd, A, .refl _ _ _, h1, h2⟩
theorem OneM.seq {n n1 n2 : Int} {B W W' : Way} (h : OneM E n B n1 W) (h' : OneM E n1 W n2 W') : OneM E n B n2 W' := fun Bd A hn h1 h2 => by
  obtain ⟨Bd1, A1, e1, a1, b1⟩ := h Bd A hn h1 h2
  obtain ⟨Bd2, A2, e2, a2, b2⟩ := h' Bd1 A1 (by have := e1.le; omega) a1 b1
  exact ⟨Bd2, A2, e1.trans e2, a2, b2⟩
/-- a thing of it -/
theorem thing_one {n : Int} {Bd : Int → Way} {A : Nat → Prop} {W : Way} (hn : 1 ≤ n) (h1 : W.one Bd A) (h2 : W.upto n) : (Way.once (n + 1) W).one (upd Bd (n + 1) W) A ∧ (Way.once (n + 1) W).upto (n + 1) := by
  have := (Ext.thing (E := fun _ => .through) n Bd A W).one h1 h2
  simp only [Way.one, Way.upto]
  exact ⟨⟨by simp [upd], .inr ⟨by omega, this.1⟩⟩, Int.le_refl _, this.2⟩
theorem OneM.thing {n n1 : Int} {B W : Way} (h : OneM E n B n1 W) : OneM E n B (n1 + 1) (.once (n1 + 1) W) := fun Bd A hn h1 h2 => by
  obtain ⟨Bd1, A1, e1, a1, b1⟩ := h Bd A hn h1 h2
  have := thing_one (n := n1) (by have := e1.le; omega) a1 b1
  exact ⟨_, A1, e1.trans (.thing n1 Bd1 A1 W), this.1, this.2⟩
theorem OneM.map {n n1 : Int} {B B' W W' : Way} (h : OneM E n B n1 W) (hB : ∀ Bd A k, B'.one Bd A → B'.upto k → B.one Bd A ∧ B.upto k) (hW : ∀ Bd A k, W.one Bd A → W.upto k → W'.one Bd A ∧ W'.upto k) : OneM E n B' n1 W' := fun Bd A hn h1 h2 => by
  have hb := hB Bd A n h1 h2
  obtain ⟨Bd1, A1, e1, a1, b1⟩ := h Bd A hn hb.1 hb.2
  exact ⟨Bd1, A1, e1, hW _ _ _ a1 b1⟩
/-- a loop -/
theorem Ext.round {n n2 : Int} {b : Nat} {B : Way} {Bd : Int → Way} {A : Nat → Prop} (lz : Bool) (hn : 1 ≤ n) (h1 : B.one Bd A) (h2 : B.upto n) (h : OneM E (n + 1) (Dcd lz n b B) n2 (E b)) :
    ∃ Bd' A', Ext E n Bd A n2 Bd' A' ∧ (E b).one Bd' A' ∧ (E b).upto n2 ∧ (Dcd lz n b B).one Bd' A' ∧ (Dcd lz n b B).upto n2 := by
  obtain ⟨I, hI⟩ : ∃ I, I = Way.inOrder (if lz = true then [B, .again b] else [.again b, B]) := ⟨_, rfl⟩
  have hD : Dcd lz n b B = .once (n + 1) I := by rw [hI]
  obtain ⟨A1, hA1⟩ : ∃ A1 : Nat → Prop, A1 = fun x => A x ∨ x = b := ⟨_, rfl⟩
  have hB := one_ext (k := n) (k' := n) (Bd := Bd) (Bd' := Bd) (A := A) (A' := A1) (Int.le_refl _) (fun _ _ => rfl) (fun x hx => by rw [hA1]; exact .inl hx) B h1 h2
  have hb : A1 b := by rw [hA1]; exact .inr rfl
  have hI1 : I.one Bd A1 ∧ I.upto n := by
    rw [hI]
    simp only [Way.one, Way.upto]
    cases lz <;> simp [oneL, uptoL, hB.1, hB.2, Way.one, Way.upto, hb]
  have hT := thing_one hn hI1.1 hI1.2
  rw [hD] at h ⊢
  obtain ⟨Bd2, A2, e2, a2, b2⟩ := h _ A1 (by omega) hT.1 hT.2
  have hE := e2.one hT.1 hT.2
  refine ⟨Bd2, A2, ⟨by have := e2.le; omega, fun m hm => (e2.bd m (by omega)).trans (by simp only [upd]; rw [if_neg (by omega)]), fun x hx => e2.sub x (by rw [hA1]; exact .inl hx), fun x hx => ?_⟩, a2, b2, hE.1, hE.2⟩
  rcases e2.new x hx with hx | hx
  · rw [hA1] at hx
    rcases hx with hx | rfl
    · exact .inl hx
    · exact .inr ⟨a2, b2⟩
  · exact .inr hx
/-- EACH THING has one body -/
theorem Beg.ones {t : Tn} {n n1 : Int} {B W : Way} (h : Beg E t n B n1 W) : OneM E n B n1 W := by
  refine Beg.rec (motive_1 := fun t n B n1 W _ => OneM E n B n1 W) (motive_2 := fun ts n B n1 W _ => OneM E n B n1 W)
    (motive_3 := fun ts n B n1 Ws _ => ∀ Bd A, 1 ≤ n → B.one Bd A → B.upto n → ∃ Bd' A', Ext E n Bd A n1 Bd' A' ∧ oneL Bd' A' Ws ∧ uptoL n1 Ws)
    (motive_4 := fun t c n B n1 W _ => OneM E n B n1 W) (motive_5 := fun t lz B c n n1 W _ => OneM E n B n1 W)
    ?_ ?_ ?_ ?_ ?_ ?_ ?_ ?_ ?_ ?_ ?_ ?_ ?_ ?_ ?_ ?_ ?_ h
  · intro R a s mn mx lz ix nm n B
    exact (OneM.self n B).thing
  · intro R a s mn mx lz ix nm n B
    exact ((OneM.self n B).map (fun _ _ _ h1 h2 => ⟨h1, h2⟩) (fun _ _ _ h1 h2 => by simp only [Way.one, Way.upto]; exact ⟨h1, h2⟩)).thing
  · intro R a s mn mx lz ix nm n B
    exact ((OneM.self n B).map (fun _ _ _ h1 h2 => ⟨h1, h2⟩) (fun _ _ _ h1 h2 => by simp only [Way.one, Way.upto]; exact ⟨h1, h2⟩)).thing
  · intro R a s mn mx lz ix nm n n' B W _ h
    exact h
  · intro R a s mn mx lz ix nm n n' B Ws _ h
    refine OneM.thing fun Bd A hn h1 h2 => ?_
    obtain ⟨Bd1, A1, e1, a1, b1⟩ := h Bd A hn h1 h2
    exact ⟨Bd1, A1, e1, by simp only [Way.one]; exact a1, by simp only [Way.upto]; exact b1⟩
  · intro R a t mn mx lz i nm n n' B W _ h
    exact (h.map (fun _ _ _ h1 h2 => by simp only [Way.one, Way.upto]; exact ⟨h1, h2⟩) (fun _ _ _ h1 h2 => by simp only [Way.one, Way.upto]; exact ⟨h1, h2⟩)).thing
  · intro R a t lz ix nm n n2 b B _ h Bd A hn h1 h2
    obtain ⟨Bd2, A2, e2, a2, b2, d2⟩ := Ext.round lz hn h1 h2 h
    exact ⟨Bd2, A2, e2, d2⟩
  · intro R a t c lz ix nm n n2 n3 b B W3 _ _ h hT
    refine OneM.seq (fun Bd A hn h1 h2 => ?_) hT
    obtain ⟨Bd2, A2, e2, a2, b2, d2⟩ := Ext.round lz hn h1 h2 h
    exact ⟨Bd2, A2, e2, a2, b2⟩
  · intro R a t c m lz ix nm n n1 n2 B W1 W2 _ _ hO hT
    exact hO.seq hT
  · intro n B
    exact .self n B
  · intro t ts n n1 n2 B W1 W2 _ _ h h2
    exact h.seq h2
  · intro n B Bd A _ _ _
    exact ⟨Bd, A, .refl _ _ _, by simp [oneL], by simp [uptoL]⟩
  · intro t ts n n1 n2 B W2 Ws _ _ hl hl2 Bd A hn h1 h2
    obtain ⟨Bd1, A1, e1, a1, b1⟩ := hl Bd A hn h1 h2
    have hb := e1.one h1 h2
    obtain ⟨Bd2, A2, e2, a2, b2⟩ := hl2 Bd1 A1 (by have := e1.le; omega) hb.1 hb.2
    have hL := oneL_ext e2.le e2.bd e2.sub Ws a1 b1
    have hS := oneL_snoc a2 b2 hL.1 hL.2
    exact ⟨Bd2, A2, e1.trans e2, hS.1, hS.2⟩
  · intro t n W
    exact .self n W
  · intro t c n n1 n2 W W1 W2 _ _ h h2
    exact h.seq h2
  · intro t lz B n
    exact .self n B
  · intro t lz B c n n1 n2 W1 W2 _ _ h h2
    refine OneM.thing fun Bd A hn h1 h3 => ?_
    obtain ⟨Bd1, A1, e1, a1, b1⟩ := (h.seq h2) Bd A hn h1 h3
    have hb := e1.one h1 h3
    refine ⟨Bd1, A1, e1, ?_, ?_⟩
    · simp only [Way.one]
      cases lz <;> simp [oneL, a1, hb.1]
    · simp only [Way.upto]
      cases lz <;> simp [uptoL, b1, hb.2]
end
/-- THE ENDS of the parses of a tree from a place: each place to which the tree takes the text, once -/
theorem PS.ends {t : Tn} {K : Nat} {tx : List Int} {p : Nat} {l : List (Int × List Int)} (h : PS t K tx p l) : (l.map Prod.fst).Nodup ∧ (∀ e ∈ l, ∃ q : Nat, e.1 = (q : Int)) ∧ ∀ q : Nat, (q : Int) ∈ l.map Prod.fst ↔ Mt tx t p q := by
  obtain ⟨E, W, n1, s', hB, hE, hg, hx, rfl⟩ := h.ex
  obtain ⟨Bd, A, hX, ho, hu⟩ := hB.ones (fun _ => .through) (fun _ => False) (Int.le_refl _) (by simp [Way.one]) (by simp [Way.upto])
  obtain ⟨a, b, c⟩ := ends_iff (Bd := Bd) (A := A) (fun b hb => by
    rcases hX.new b hb with h | h
    · exact h.elim
    · exact h.1) hx ho rfl rfl
  refine ⟨a, b, fun q => ?_⟩
  rw [c q, hB.can p q]
  exact ⟨fun ⟨r, h1, h2⟩ => by rw [can_end] at h2; subst h2; exact h1, fun h1 => ⟨q, h1, (can_end q q).2 rfl⟩⟩
end Go.Proofs.Ytnpocciioedgpaa
/- HELPERS: is a tree sound? both answers. -/
namespace Go.Proofs.Ytnpocciioedgpaa
open Go.RowKit
set_option linter.unusedVariables false
set_option linter.unusedSimpArgs false
set_option maxRecDepth 100000 in
set_option maxHeartbeats 8000000 in
theorem count47 {w0 : World} {B : Nat} {N : Nv} {t : Tn} (h : TI w0 B N t) : ∀ (l d : Int) (w : World), 0 ≤ l ∧ l ≤ 4194304 → 0 ≤ d ∧ d ≤ 10001 → B ≤ w.heap.size → (∀ b, b < B → w.heap[b]? = w0.heap[b]?) →
    Calls Try.prog 47 #[N.v, .int .i64 l, .int .i64 d] w fun e w' => e = .returned (.int .i64 (t.ct l d)) ∧ Below w.heap.size w w' := by
  induction h with
  | @mk N R ts ND ok hr hR hRk hs hS hk ih =>
  intro l d w hl hd hB hw
  have HN := node60 N R (w.alloc (.cells #[.int .i64 N.k, .slice N.r1 N.r2 N.r3, .int .i64 N.a2, .slice N.s1 N.s2 N.s3, .int .i64 N.a4, .int .i64 N.a5, .bool N.a6, .int .i64 N.a7, .string N.a8] 28)) ok hr ((hR.kept (fun b hb => (heap_alloc_old w _ (by omega)).trans (hw b hb))).le (by simp; omega))
  have hmax := ok.s
  obtain ⟨k, r1, r2, r3, a2, s1, s2, s3, a4, a5, a6, a7, a8⟩ := N
  dsimp only at hs hS hmax HN
  simp only [Tn.ct]
  rw [show nodeB k R a2 s2 a4 a5 a6 a7 a8 = nodeB k R a2 ts.length a4 a5 a6 a7 a8 by rw [hs]] at HN
  have ad0 : IntKind.i64.wrap (l - 1) = l - 1 := by simp [IntKind.wrap, IntKind.bits, IntKind.signed]; omega
  have adD : IntKind.i64.wrap (d + 1) = d + 1 := by simp [IntKind.wrap, IntKind.bits, IntKind.signed]; omega
  generalize nodeB k R a2 ts.length a4 a5 a6 a7 a8 = nb at HN ⊢
  have HW := hid' hw
  have HS := hid' hS
  have IH := hid' ih
  have hm2 : s2 ≤ 9223372036854775807 := by have : maxLen = 9223372036854775807 := rfl; omega
  have HL := hid' hs
  clear ok hr hR hRk hk hS hw ih hmax hs
  have HAL := hid' (Joins.below_alloc1 w (.cells #[.int .i64 k, .slice r1 r2 r3, .int .i64 a2, .slice s1 s2 s3, .int .i64 a4, .int .i64 a5, .bool a6, .int .i64 a7, .string a8] 28))
  have HNB := hid' (heap_alloc_new w (.cells #[.int .i64 k, .slice r1 r2 r3, .int .i64 a2, .slice s1 s2 s3, .int .i64 a4, .int .i64 a5, .bool a6, .int .i64 a7, .string a8] 28))
  cases nb
  · simp only [Bool.false_eq_true, false_and, if_false]
    go_enter Try.func47, Try.ntmps47
    go_wp2_with (first | (go_at_call 60; (with_reducible refine HN.mono ?_); rintro e w1 ⟨rfl, hb1⟩; have HB1 := hid' hb1; clear hb1 HN))
    go_ret
    exact ⟨rfl, HAL.out.trans (Joins.below_le HB1.out (by simp))⟩
  by_cases hdd : d ≤ 10000
  · have c1 : decide (d > 10000) = false := by simp; omega
    have c1' : decide (10000 < d) = false := by simp; omega
    rw [if_pos ⟨rfl, hdd⟩]
    obtain ⟨r, hrr⟩ : ∃ r, r = ctL ts (l - 1) (d + 1) := ⟨_, rfl⟩
    rw [← hrr]
    have HR := hid' hrr
    clear hrr
    go_enter Try.func47, Try.ntmps47
    go_wp2_with (first | (go_at_call 60; (with_reducible refine HN.mono ?_); rintro e w1 ⟨rfl, hb1⟩; obtain ⟨z0, z1, z2, z3, z4, z5, z6, z7, z8⟩ := nine' ((hb1.block w.heap.size (by simp)).trans HNB.out); have HB1 := hid' hb1; clear hb1 HN))
    have HF1 := hid' (HAL.out.trans (Joins.below_le HB1.out (by simp)))
    have HX1 := hid' ((HB1.out.block w.heap.size (by simp)).trans HNB.out)
    clear HAL HNB HB1 z0 z1 z2 z3 z4 z5 z6 z7 z8
    go_loopw [1, 8] (fun u y wq => ∃ i : Nat, y = .int .i64 (i : Int) ∧ i ≤ s2 ∧ (∃ q, u = .int .i64 q ∧ (-1 ≤ q ∧ q ≤ 4194304) ∧ Hid (ctL (ts.drop i) q (d + 1) = r)) ∧ Hid (Below w.heap.size w wq) ∧ Hid (wq.heap[w.heap.size]? = some (.cells #[.int .i64 k, .slice r1 r2 r3, .int .i64 a2, .slice s1 s2 s3, .int .i64 a4, .int .i64 a5, .bool a6, .int .i64 a7, .string a8] 28 (0, 0)))) (fun _ y _ => s2 - (intOf y).toNat)
    case atStart => exact ⟨0, rfl, by omega, ⟨l - 1, rfl, by omega, HR.out.symm⟩, HF1.out, HX1.out⟩
    case round =>
      obtain ⟨i, rfl, hi, ⟨q, rfl, hq, HQ⟩, BK, BX⟩ := hrel
      obtain ⟨o0, o1, o2, o3, o4, o5, o6, o7, o8⟩ := nine' BX.out
      by_cases hil : i < s2
      · have b1 : decide ((i : Int) < (s2 : Int)) = true := by simp; omega
        have b2 : (i : Int) < (s2 : Int) := by omega
        by_cases hq0 : 0 ≤ q
        · have b3 : decide (q ≥ 0) = true := by simp; omega
          have b3' : decide (0 ≤ q) = true := by simp; omega
          have hlt : i < ts.length := by rw [← HL.out]; exact hil
          obtain ⟨b, o, hs1, hb, hc⟩ := HS.out (by omega)
          subst hs1
          have hwk : ∀ b, b < B → wr.heap[b]? = w0.heap[b]? := fun b hb => (BK.out.block b (by omega)).trans (HW.out b hb)
          obtain ⟨n0, n1, n2, n3, n4, n5, n6, n7, n8⟩ := (hc i hlt).kept (hwk b hb)
          have HC := IH.out i hlt q (d + 1) wr ⟨hq0, hq.2⟩ (by omega) (by have := BK.out.size; omega) hwk
          have hsp := Tn.ct_spec ts[i] q (d + 1) hq0 (by omega)
          rw [ctL_drop ts i hlt q (d + 1) hq0] at HQ
          obtain ⟨g, hg⟩ : ∃ g, g = ts[i].ct q (d + 1) := ⟨_, rfl⟩
          rw [← hg] at HC HQ hsp
          have hg2 : -1 ≤ g ∧ g ≤ 4194304 := by omega
          obtain ⟨M, hM⟩ : ∃ M, M = ND i := ⟨_, rfl⟩
          rw [← hM] at HC n0 n1 n2 n3 n4 n5 n6 n7 n8
          have ad1 : IntKind.i64.wrap ((i : Int) + 1) = (i : Int) + 1 := by simp [IntKind.wrap, IntKind.bits, IntKind.signed]; omega
          clear hM hg hwk hc hsp hlt
          go_wp2_with (first | (go_at_call 47; (with_reducible refine HC.mono ?_); rintro e w2 ⟨rfl, hb2⟩; have HB2 := hid' hb2; clear hb2 HC))
          refine ⟨⟨i + 1, by push_cast; rfl, by omega, ⟨_, rfl, hg2, HQ.out⟩, ?_, ?_⟩, ?_⟩
          · exact BK.out.trans (Joins.below_le HB2.out BK.out.size)
          · exact (HB2.out.block _ (Array.getElem?_eq_some_iff.1 BX.out).1).trans BX.out
          · simp [intOf]
            omega
        · have b3 : decide (q ≥ 0) = false := by simp; omega
          have b3' : decide (0 ≤ q) = false := by simp; omega
          have e := HQ.out
          rw [ctL_neg _ _ _ (by omega)] at e
          go_wp2
          go_ret
          exact ⟨by first | rfl | exact ret_int e, BK.out⟩
      · have b1 : decide ((i : Int) < (s2 : Int)) = false := by simp; omega
        obtain rfl : i = s2 := by omega
        have e := HQ.out
        rw [HL.out, List.drop_length] at e
        simp only [ctL] at e
        go_wp2
        go_ret
        exact ⟨by first | rfl | exact ret_int e, BK.out⟩
  · have c1 : decide (d > 10000) = true := by simp; omega
    have c1' : decide (10000 < d) = true := by simp; omega
    rw [if_neg (fun h => hdd h.2)]
    go_enter Try.func47, Try.ntmps47
    go_wp2_with (first | (go_at_call 60; (with_reducible refine HN.mono ?_); rintro e w1 ⟨rfl, hb1⟩; have HB1 := hid' hb1; clear hb1 HN))
    go_ret
    exact ⟨rfl, HAL.out.trans (Joins.below_le HB1.out (by simp))⟩
theorem sound25 {w : World} {N : Nv} {t : Tn} (h : TI w w.heap.size N t) : Calls Try.prog 25 #[N.v] w fun e w' => e = .returned (.int .i64 (if t.sound then 0 else 50)) ∧ Below w.heap.size w w' := by
  have HC := count47 h 200000 1 (w.alloc (.cells (Array.mk N.cs) 28)) (by omega) (by omega) (by simp) (fun b hb => heap_alloc_old w _ hb)
  have HS := sound_ct t
  obtain ⟨k, r1, r2, r3, a2, s1, s2, s3, a4, a5, a6, a7, a8⟩ := N
  obtain ⟨g, hg⟩ : ∃ g, g = t.ct 200000 1 := ⟨_, rfl⟩
  rw [← hg] at HC HS
  rw [← HS]
  clear hg HS
  by_cases h0 : 0 ≤ g
  · have e1 : decide (g < 0) = false := by simp; omega
    rw [decide_eq_true h0]
    go_enter Try.func25, Try.ntmps25
    go_wp2_with (first | (go_at_call 47; (with_reducible refine HC.mono ?_); rintro e w2 ⟨rfl, hb2⟩; have HB2 := hid' hb2; clear hb2 HC))
    go_ret
    exact ⟨rfl, (Joins.below_alloc1 w _).trans (Joins.below_le HB2.out (by simp))⟩
  · have e1 : decide (g < 0) = true := by simp; omega
    rw [decide_eq_false h0]
    go_enter Try.func25, Try.ntmps25
    go_wp2_with (first | (go_at_call 47; (with_reducible refine HC.mono ?_); rintro e w2 ⟨rfl, hb2⟩; have HB2 := hid' hb2; clear hb2 HC))
    go_ret
    exact ⟨rfl, (Joins.below_alloc1 w _).trans (Joins.below_le HB2.out (by simp))⟩
end Go.Proofs.Ytnpocciioedgpaa
/- HELPERS: the program's census: is a tree sound? -/
namespace Go.Proofs.Ytnpocciioedgpaa
open Go.RowKit
set_option linter.unusedVariables false
set_option linter.unusedSimpArgs false
set_option maxRecDepth 100000 in
set_option maxHeartbeats 8000000 in
theorem takes48g {w0 : World} {B : Nat} {N : Nv} {t : Tn} (h : TI w0 B N t) : ∀ (c : Nat) (cnt d : Int) (w : World), B ≤ c → 0 ≤ cnt ∧ cnt ≤ 200000 → 0 ≤ d ∧ d ≤ 10001 → B ≤ w.heap.size → (∀ b, b < B → w.heap[b]? = w0.heap[b]?) →
    w.heap[c]? = some (.cells #[.int .i64 cnt] 80 (0, 0)) →
    Calls Try.prog 48 #[pt c, N.v, .int .i64 d] w fun e w' => Chg w w' [c] [c] ∧ ((∃ c', t.tk cnt d = some c' ∧ e = .returned (.bool true) ∧ w'.heap[c]? = some (.cells #[.int .i64 c'] 80 (0, 0))) ∨ (t.tk cnt d = none ∧ e = .returned (.bool false))) := by
  induction h with
  | @mk N R ts ND ok hr hR hRk hs hS hk ih =>
  intro c cnt d w hBc hcb hd hB hw hc
  have HS : ∀ w', Chg w w' [c] [c] → Calls Try.prog 61 #[N.v] w' fun e w'' => e = .returned (.bool (nodeB N.k R N.a2 N.s2 N.a4 N.a5 N.a6 N.a7 N.a8)) ∧ Below w'.heap.size w' w'' := fun w' hch =>
    sound61 N R w' ok hr ((hR.kept (fun b hb => (hch.block b (by omega) (by simp; omega)).trans (hw b hb))).le (by have := hch.size; omega))
  have hmax := ok.s
  obtain ⟨k, r1, r2, r3, a2, s1, s2, s3, a4, a5, a6, a7, a8⟩ := N
  dsimp only at hs hS hmax HS
  simp only [Tn.tk]
  have hm2 : s2 ≤ 9223372036854775807 := by have : maxLen = 9223372036854775807 := rfl; omega
  rw [← hs]
  generalize nodeB k R a2 s2 a4 a5 a6 a7 a8 = nb at HS ⊢
  obtain ⟨r, hrr⟩ : ∃ r, r = if cnt + 1 ≤ 200000 ∧ d ≤ 10000 ∧ nb = true then tkL ts (cnt + 1) (d + 1) else none := ⟨_, rfl⟩
  rw [← hrr]
  have HRR := hid hrr
  clear hrr
  have hcl := (Array.getElem?_eq_some_iff.1 hc).1
  have c0 : w.cell? ⟨c, 0, none⟩ = some (.int .i64 cnt) := bx0 hc
  have cf := Joins.unfrozen_of_block hc 0
  have ad0 : IntKind.i64.wrap (cnt + 1) = cnt + 1 := by simp [IntKind.wrap, IntKind.bits, IntKind.signed]; omega
  have adD : IntKind.i64.wrap (d + 1) = d + 1 := by simp [IntKind.wrap, IntKind.bits, IntKind.signed]; omega
  have HC0 := hid hc
  have HW := hid hw
  have HSS := hid hS
  have IH := hid ih
  have HL := hid hs
  clear hc hw hS ih hs ok hr hR hRk hk hmax
  go_enter Try.func48, Try.ntmps48
  go_upto_region 2 with fail
  obtain ⟨W, hW⟩ : ∃ W, W = (w.setCell ⟨c, 0, none⟩ (.int .i64 (cnt + 1))).alloc (.cells #[.int .i64 k, .slice r1 r2 r3, .int .i64 a2, .slice s1 s2 s3, .int .i64 a4, .int .i64 a5, .bool a6, .int .i64 a7, .string a8] 28) := ⟨_, rfl⟩
  rw [← hW]
  have hsw : (w.setCell ⟨c, 0, none⟩ (.int .i64 (cnt + 1))).heap.size = w.heap.size := by simp [World.setCell]
  have hWs : W.heap.size = w.heap.size + 1 := by rw [hW]; simp [World.setCell]
  have hWz : W.heap[w.heap.size]? = some (.cells #[.int .i64 k, .slice r1 r2 r3, .int .i64 a2, .slice s1 s2 s3, .int .i64 a4, .int .i64 a5, .bool a6, .int .i64 a7, .string a8] 28 (0, 0)) := by rw [hW, ← hsw]; exact heap_alloc_new _ _
  have hWc : W.heap[c]? = some (.cells #[.int .i64 (cnt + 1)] 80 (0, 0)) := by rw [hW]; exact (heap_alloc_old _ _ (by omega)).trans (Joins.block_setCell (i := 0) HC0.out _)
  have hch : Chg w W [c] [c] := by rw [hW]; exact ((Chg.refl w [c]).set (a := ⟨c, 0, none⟩) _ (by simp)).alloc _
  have x0 : W.cell? ⟨c, 0, none⟩ = some (.int .i64 (cnt + 1)) := bx0 hWc
  obtain ⟨z, hz⟩ : ∃ z, z = w.heap.size := ⟨_, rfl⟩
  rw [← hz] at hWz hWs ⊢
  obtain ⟨o0, o1, o2, o3, o4, o5, o6, o7, o8⟩ := nine' hWz
  have HCH := hid hch
  have HWZ := hid hWz
  have HWC := hid hWc
  have HWS := hid hWs
  have HZ := hid hz
  have HS1 := HS W hch
  clear hW hsw hWs hWz hWc hch hz c0 cf HS
  by_cases hc1 : cnt + 1 ≤ 200000
  · have b0 : decide (cnt + 1 > 200000) = false := by simp; omega
    have b0' : decide (200000 < cnt + 1) = false := by simp; omega
    by_cases hd1 : d ≤ 10000
    · have b00 : decide (d > 10000) = false := by simp; omega
      have b00' : decide (10000 < d) = false := by simp; omega
      cases nb
      · go_wp2_with (first | (go_at_call 61; (with_reducible refine HS1.mono ?_); rintro e w1 ⟨rfl, hb1⟩; have HB1 := hid hb1; clear hb1 HS1))
        go_ret
        exact ⟨HCH.out.trans (Chg.of_below HB1.out), .inr ⟨by rw [HRR.out, if_neg (by simp)], rfl⟩⟩
      · go_wp2_with (first | (go_at_call 61; (with_reducible refine HS1.mono ?_); rintro e w1 ⟨rfl, hb1⟩; have k3 : w1.cell? ⟨z, 3, none⟩ = some (.slice s1 s2 s3) := (hb1.cell (p := ⟨z, 3, none⟩) (by have := HWS.out; show z < W.heap.size; omega)).trans o3; have HB1 := hid hb1; clear hb1 HS1))
        have hch1 : Chg w w1 [c] [c] := HCH.out.trans (Chg.of_below HB1.out)
        have hcc : w1.heap[c]? = some (.cells #[.int .i64 (cnt + 1)] 80 (0, 0)) := (HB1.out.block c (by have := HWS.out; have := HZ.out; omega)).trans HWC.out
        have HC1 := hid hcc
        have HCH1 := hid hch1
        clear hcc hch1
        have HR : Hid (r = tkL ts (cnt + 1) (d + 1)) := HRR.out.trans (if_pos ⟨hc1, hd1, by trivial⟩)
        go_loopw [33] (fun y wq => ∃ (i : Nat) (q : Int), y = .int .i64 (i : Int) ∧ i ≤ s2 ∧ (0 ≤ q ∧ q ≤ 200000) ∧ Hid (tkL (ts.drop i) q (d + 1) = r) ∧ Hid (Chg w wq [c] [c] ∧ wq.heap[c]? = some (.cells #[.int .i64 q] 80 (0, 0)))) (fun y _ => s2 - (intOf y).toNat)
        case atStart => exact ⟨0, cnt + 1, rfl, by omega, by omega, HR.out.symm, HCH1.out, HC1.out⟩
        case round =>
          obtain ⟨i, q, rfl, hi, hq, HQ, HI⟩ := hrel
          by_cases hil : i < s2
          · have b1 : decide ((i : Int) < (s2 : Int)) = true := by simp; omega
            have b2 : (i : Int) < (s2 : Int) := by omega
            have hlt : i < ts.length := by rw [← HL.out]; exact hil
            obtain ⟨b, o, hs1, hb, hcb'⟩ := HSS.out (by omega)
            subst hs1
            have hwk : ∀ b, b < B → wr.heap[b]? = w0.heap[b]? := fun b hb => (HI.out.1.block b (by omega) (by simp; omega)).trans (HW.out b hb)
            obtain ⟨n0, n1, n2, n3, n4, n5, n6, n7, n8⟩ := (hcb' i hlt).kept (hwk b hb)
            have HC := IH.out i hlt c q (d + 1) (wr.alloc (.cells #[.int .i64 (ND i).k, .slice (ND i).r1 (ND i).r2 (ND i).r3, .int .i64 (ND i).a2, .slice (ND i).s1 (ND i).s2 (ND i).s3, .int .i64 (ND i).a4, .int .i64 (ND i).a5, .bool (ND i).a6, .int .i64 (ND i).a7, .string (ND i).a8] 28)) hBc hq (by omega) (by have := HI.out.1.size; simp; omega) (fun b hb => (heap_alloc_old _ _ (by have := HI.out.1.size; omega)).trans (hwk b hb)) ((heap_alloc_old wr _ (by have := HI.out.1.size; omega)).trans HI.out.2)
            rw [tkL_drop ts i hlt q (d + 1)] at HQ
            have hsp := Tn.tk_spec ts[i] q (d + 1) hq.2 (by omega)
            have hg2 : ∀ c', ts[i].tk q (d + 1) = some c' → 0 ≤ c' ∧ c' ≤ 200000 := fun c' hc' => by
              rw [hsp] at hc'
              split at hc'
              · simp at hc'; omega
              · simp at hc'
            obtain ⟨g, hg⟩ : ∃ g, g = ts[i].tk q (d + 1) := ⟨_, rfl⟩
            rw [← hg] at HC HQ hg2
            have HG2 := hid hg2
            obtain ⟨M, hM⟩ : ∃ M, M = ND i := ⟨_, rfl⟩
            rw [← hM] at HC n0 n1 n2 n3 n4 n5 n6 n7 n8
            have ad1 : IntKind.i64.wrap ((i : Int) + 1) = (i : Int) + 1 := by simp [IntKind.wrap, IntKind.bits, IntKind.signed]; omega
            clear hM hg hwk hcb' hsp hlt hg2
            cases g with
            | none =>
              have HC' := HC.mono (R' := fun e w' => e = .returned (.bool false) ∧ Chg _ w' [c] [c]) (fun e w' ⟨h1, h2⟩ => by
                rcases h2 with ⟨c', h, _⟩ | ⟨_, h⟩
                · cases h
                · exact ⟨h, h1⟩)
              clear HC
              have e := HQ.out
              simp only at e
              have E := hid e
              clear e HQ HG2
              go_wp2_with (first | (go_at_call 48; (with_reducible refine HC'.mono ?_); rintro e w2 ⟨rfl, hc2⟩; have HC2 := hid hc2; clear hc2 HC'))
              go_ret
              exact ⟨(HI.out.1.alloc _).trans HC2.out, .inr ⟨E.out.symm, rfl⟩⟩
            | some c' =>
              have HC' := HC.mono (R' := fun e w' => e = .returned (.bool true) ∧ Chg _ w' [c] [c] ∧ w'.heap[c]? = some (.cells #[.int .i64 c'] 80 (0, 0))) (fun e w' ⟨h1, h2⟩ => by
                rcases h2 with ⟨c', h, h3, h4⟩ | ⟨h, _⟩
                · cases h; exact ⟨h3, h1, h4⟩
                · cases h)
              clear HC
              have e := HQ.out
              simp only at e
              have E := hid e
              clear e HQ
              have hc'b := HG2.out c' rfl
              clear HG2
              go_wp2_with (first | (go_at_call 48; (with_reducible refine HC'.mono ?_); rintro e w2 ⟨rfl, hc2, hb2⟩; have HC2 := hid hc2; have HB2 := hid hb2; clear hc2 hb2 HC'))
              refine ⟨⟨i + 1, c', by push_cast; rfl, by omega, hc'b, E.out, (HI.out.1.alloc _).trans HC2.out, HB2.out⟩, ?_⟩
              simp [intOf]
              omega
          · have b1 : decide ((i : Int) < (s2 : Int)) = false := by simp; omega
            obtain rfl : i = s2 := by omega
            have e := HQ.out
            rw [HL.out, List.drop_length] at e
            simp only [tkL] at e
            have E := hid e
            clear e
            go_wp2
            go_ret
            exact ⟨HI.out.1, .inl ⟨q, E.out.symm, rfl, HI.out.2⟩⟩
    · have b00 : decide (d > 10000) = true := by simp; omega
      have b00' : decide (10000 < d) = true := by simp; omega
      go_wp2
      go_ret
      exact ⟨HCH.out, .inr ⟨by rw [HRR.out, if_neg (by omega)], rfl⟩⟩
  · have b0 : decide (cnt + 1 > 200000) = true := by simp; omega
    have b0' : decide (200000 < cnt + 1) = true := by simp; omega
    go_wp2
    go_ret
    exact ⟨HCH.out, .inr ⟨by rw [HRR.out, if_neg (by omega)], rfl⟩⟩
theorem sound29g {w : World} {N : Nv} {t : Tn} (h : TI w w.heap.size N t) : Calls Try.prog 29 #[N.v] w fun e w' => e = .returned (.int .i64 (if t.sound then 0 else 50)) ∧ Below w.heap.size w w' := by
  have HC := takes48g h (w.heap.size + 1) 0 1 ((w.alloc (.cells #[.int .i64 N.k, .slice N.r1 N.r2 N.r3, .int .i64 N.a2, .slice N.s1 N.s2 N.s3, .int .i64 N.a4, .int .i64 N.a5, .bool N.a6, .int .i64 N.a7, .string N.a8] 28)).alloc (.cells #[.int .i64 0] 80)) (by omega) (by omega) (by omega) (by simp; omega) (fun b hb => (heap_alloc_old _ _ (by simp; omega)).trans (heap_alloc_old w _ hb)) (two_new w _ _ _)
  have HS := sound_tk t
  obtain ⟨k, r1, r2, r3, a2, s1, s2, s3, a4, a5, a6, a7, a8⟩ := N
  dsimp only at HC
  obtain ⟨g, hg⟩ : ∃ g, g = t.tk 0 1 := ⟨_, rfl⟩
  rw [← hg] at HC HS
  rw [← HS]
  clear hg HS
  cases g with
  | none =>
    have HC' := HC.mono (R' := fun e w' => e = .returned (.bool false) ∧ Chg _ w' [w.heap.size + 1] [w.heap.size + 1]) (fun e w' ⟨h1, h2⟩ => by
      rcases h2 with ⟨c', h, _⟩ | ⟨_, h⟩
      · cases h
      · exact ⟨h, h1⟩)
    clear HC
    go_enter Try.func29, Try.ntmps29
    go_wp2_with (first | (go_at_call 48; (with_reducible refine HC'.mono ?_); rintro e w2 ⟨rfl, hc2⟩; have HC2 := hid hc2; clear hc2 HC'))
    go_ret
    exact ⟨rfl, (below_two' w _ _).trans (HC2.out.below (by simp; omega) (fun k hk => by simp at hk; omega))⟩
  | some c' =>
    have HC' := HC.mono (R' := fun e w' => e = .returned (.bool true) ∧ Chg _ w' [w.heap.size + 1] [w.heap.size + 1]) (fun e w' ⟨h1, h2⟩ => by
      rcases h2 with ⟨c', h, h3, h4⟩ | ⟨h, _⟩
      · exact ⟨h3, h1⟩
      · cases h)
    clear HC
    go_enter Try.func29, Try.ntmps29
    go_wp2_with (first | (go_at_call 48; (with_reducible refine HC'.mono ?_); rintro e w2 ⟨rfl, hc2⟩; have HC2 := hid hc2; clear hc2 HC'))
    go_ret
    exact ⟨rfl, (below_two' w _ _).trans (HC2.out.below (by simp; omega) (fun k hk => by simp at hk; omega))⟩
end Go.Proofs.Ytnpocciioedgpaa
