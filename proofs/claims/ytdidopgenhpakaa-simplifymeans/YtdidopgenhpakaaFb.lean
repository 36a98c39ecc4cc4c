/- HELPERS: a row of runs as a form. -/
import Derived.Test.YtdidopgenhpakaaFa
import Derived.BigQuiet
import Derived.Deep.Cut
namespace Go.Proofs.Ytdidopgenhpakaa
open Go.RowKit
set_option linter.unusedVariables false
set_option linter.unusedSimpArgs false
theorem depthL_mem {ts : List Tn} {t : Tn} (h : t ∈ ts) : t.depth ≤ depthL ts := by
  induction ts with
  | nil => cases h
  | cons u ts ih =>
    simp only [depthL]
    rcases List.mem_cons.1 h with rfl | h
    · omega
    · have := ih h; omega
theorem depthL_le_of {ts : List Tn} {M : Nat} (h : ∀ t ∈ ts, t.depth ≤ M) : depthL ts ≤ M := by
  induction ts with
  | nil => simp [depthL]
  | cons u ts ih => simp only [depthL]; have := h u (by simp); have := ih (fun t ht => h t (by simp [ht])); omega
theorem depR_le (k : Int) (l : List (Tn × Nat)) (i : Nat) (hi : i ≤ l.length) {M : Nat} (h : ∀ x ∈ l, x.1.depth ≤ M) : depR k l i ≤ M + 1 := by
  unfold depR
  split
  · omega
  · have : depthL (rowS k (l.take i)) ≤ M := depthL_le_of fun t ht => by
      simp only [rowS, List.mem_flatMap, List.mem_flatten, List.mem_replicate] at ht
      obtain ⟨x, hx, y, ⟨_, rfl⟩, hy⟩ := ht
      have h1 := h x (List.mem_of_mem_take hx)
      unfold within at hy
      split at hy
      · have := depthL_mem hy; have := x.1.depth_subs; omega
      · simp at hy; subst hy; exact h1
    omega
theorem row_next {w V : World} {z : Nat} {k : Int} {sv ev : Value} {a e : Int} (hb : Below z w V) (y0 : Bx V z 3 (.int .i64 k)) (y1 : Bx V (z + 1) 74 sv) (hx : V.heap[z + 1 + 1]? = some (.cells (FV (NK k) ev a e) 60 (0, 0))) (p : Nat) (A E : Int) :
    Below z w (((V.drewN p).setCell ⟨z + 1 + 1, 10, none⟩ (.int .i64 A)).setCell ⟨z + 1 + 1, 11, none⟩ (.int .i64 E)) ∧ Bx (((V.drewN p).setCell ⟨z + 1 + 1, 10, none⟩ (.int .i64 A)).setCell ⟨z + 1 + 1, 11, none⟩ (.int .i64 E)) z 3 (.int .i64 k) ∧ Bx (((V.drewN p).setCell ⟨z + 1 + 1, 10, none⟩ (.int .i64 A)).setCell ⟨z + 1 + 1, 11, none⟩ (.int .i64 E)) (z + 1) 74 sv ∧
      (((V.drewN p).setCell ⟨z + 1 + 1, 10, none⟩ (.int .i64 A)).setCell ⟨z + 1 + 1, 11, none⟩ (.int .i64 E)).heap[z + 1 + 1]? = some (.cells (FV (NK k) ev A E) 60 (0, 0)) := by
  have hb' : Below z w (V.drewN p) := ⟨hb.os, hb.tape, hb.output, hb.size, hb.block⟩
  have y0' : Bx (V.drewN p) z 3 (.int .i64 k) := y0
  have y1' : Bx (V.drewN p) (z + 1) 74 sv := y1
  have hx' : (V.drewN p).heap[z + 1 + 1]? = some (.cells (FV (NK k) ev a e) 60 (0, 0)) := hx
  generalize V.drewN p = V1 at hb' y0' y1' hx' ⊢
  refine ⟨(hb'.setCell (by show z ≤ z + 1 + 1; omega) _).setCell (by show z ≤ z + 1 + 1; omega) _, ?_, ?_, ?_⟩
  · exact (Below.heap_setCell _ _ _ _ (by simp only; omega)).trans ((Below.heap_setCell _ _ _ _ (by simp only; omega)).trans y0')
  · exact (Below.heap_setCell _ _ _ _ (by simp only; omega)).trans ((Below.heap_setCell _ _ _ _ (by simp only; omega)).trans y1')
  · exact Joins.block_setCell (i := 11) (Joins.block_setCell (i := 10) hx' _) _
set_option maxRecDepth 100000 in
set_option maxHeartbeats 8000000 in
theorem row45 (A : Nat → Prop) (k : Int) (ad : Option Addr) (c : Nat) (fs : Nat → Nat) (l : List (Tn × Nat)) (w : World) (hk : k = 4 ∨ k = 5) (hA : ∀ b, A b → b < w.heap.size) (hv : RV w A ad fs l) (ht : ∀ x ∈ l, 0 < x.2 ∧ x.2 ≤ 1000) (hl : l.length ≤ 200000) (hp : 0 < l.length) (hs : ∀ i (hi : i < l.length), FA w A (fs i) l[i].1) (hd : ∀ x ∈ l, x.1.depth ≤ 4000000000) :
    Calls Try.prog 45 #[.int .i64 k, .slice ad l.length c] w fun e w' => ∃ f, e = .returned (pt f) ∧ FA w' (New A w w') f (rowT k l) ∧ Below w.heap.size w w' := by
  obtain ⟨n, hn⟩ : ∃ n, n = l.length := ⟨_, rfl⟩
  rw [← hn]
  obtain ⟨b, o, rfl, hbA, hcs⟩ := hv hp
  have hb := hA b hbA
  obtain ⟨W, hW⟩ : ∃ W, W = ((w.alloc (.cells #[.int .i64 k] 3)).alloc (.cells #[.slice (some ⟨b, o, none⟩) n c] 74)).alloc (.cells (FV (NK k) .nilFunc 1 0) 60) := ⟨_, rfl⟩
  have HS := hid hs
  have HV := hid hv
  have HN := hid hn
  have HCS := hid hcs
  have HT := hid ht
  have HDD := hid hd
  have HAA := hid hA
  have hn2 : n ≤ 200000 := by omega
  clear hs hv hcs hn ht hd hA hbA
  go_enter Try.func45, Try.ntmps45
  go_wp2_with fail
  obtain ⟨z, hz⟩ : ∃ z, z = w.heap.size := ⟨_, rfl⟩
  have hB0 : Below z w W := by rw [hW, hz]; exact ((Joins.below_alloc1 w _).alloc (by simp) _).alloc (by simp; omega) _
  obtain ⟨t0, t1, t2, t3⟩ := three_new w (.cells #[.int .i64 k] 3) (.cells #[.slice (some ⟨b, o, none⟩) n c] 74) (.cells (FV (NK k) .nilFunc 1 0) 60)
  rw [← hW, ← hz] at t0 t1 t2
  rw [← hW, ← hz]
  have HB0 := hid hB0
  have T0 := hid t0
  have T1 := hid t1
  have T2 := hid t2
  have HZ := hid hz
  rw [← hz] at hb
  clear hB0 t0 t1 t2 t3 hW hz
  go_loopw [16] (fun y wq => ∃ i : Nat, y = .int .i64 (i : Int) ∧ i ≤ n ∧ Hid (Below z w wq) ∧ Hid (Bx wq z 3 (.int .i64 k)) ∧ Hid (Bx wq (z + 1) 74 (.slice (some ⟨b, o, none⟩) n c)) ∧ Hid (wq.heap[z + 1 + 1]? = some (.cells (FV (NK k) .nilFunc ((capN (1 + nodesL (rowS k (l.take i))) : Nat) : Int) ((depR k l i : Nat) : Int)) 60 (0, 0)))) (fun y _ => n - (intOf y).toNat)
  case atStart => exact ⟨0, rfl, by omega, HB0.out, T0.out, T1.out, by have h := T2.out; simp only [capN, rowS, nodesL, depR, List.take_zero, List.flatMap_nil, if_pos]; exact h⟩
  case round =>
    obtain ⟨i, rfl, hi, BK, X0, X1, X2⟩ := hrel
    by_cases hil : i < n
    · have b1 : decide ((i : Int) < (n : Int)) = true := by simp; omega
      have b2 : (i : Int) < (n : Int) := by omega
      have ad1 : IntKind.i64.wrap ((i : Int) + 1) = (i : Int) + 1 := by simp [IntKind.wrap, IntKind.bits, IntKind.signed]; omega
      have hil' : i < l.length := by have := HN.out; omega
      obtain ⟨e0, e1⟩ := HCS.out i hil'
      have hbw := BK.out.block b hb
      have u0 := (cell_eq hbw (o + i * 2)).trans e0
      have u1 := (cell_eq hbw (o + i * 2 + 1)).trans e1
      have hFA := HS.out i hil'
      obtain ⟨hfa, N0, ev, hc, hk0⟩ := hFA.cells
      have hfl := HAA.out _ hfa
      obtain ⟨c0, c9, c10, c11⟩ := (hc.kept (BK.out.block _ (by have := HZ.out; omega))).num
      rw [hk0] at c0
      have htt := HT.out _ (List.getElem_mem hil')
      have hdd := HDD.out _ (List.getElem_mem hil')
      have eN := row_nodes_step k l i hil' htt.1
      have eD := row_depth_step k l i hil' htt.1
      have hN1 : 1 ≤ (l[i]'hil').1.nodes := Tn.pos _
      have hD1 : 1 ≤ (l[i]'hil').1.depth := by rw [Tn.depth_subs]; omega
      obtain ⟨f, hf⟩ : ∃ f, f = fs i := ⟨_, rfl⟩
      obtain ⟨m, hm⟩ : ∃ m, m = (l[i]'hil').2 := ⟨_, rfl⟩
      obtain ⟨kd, hkd⟩ : ∃ kd, kd = (l[i]'hil').1.kind := ⟨_, rfl⟩
      obtain ⟨q, hq⟩ : ∃ q, q = capN (l[i]'hil').1.nodes := ⟨_, rfl⟩
      obtain ⟨d, hdq⟩ : ∃ d, d = (l[i]'hil').1.depth := ⟨_, rfl⟩
      rw [← hf] at u0 c0 c9 c10 c11 hfl
      rw [← hm] at u1 htt eN
      rw [← hkd] at c0 eN eD
      rw [← hq] at c10 eN
      rw [← hdq] at c11 hdd eD hD1
      have hq1 : 1 ≤ q ∧ q ≤ 200001 := by rw [hq]; unfold capN; omega
      obtain ⟨a, ha⟩ : ∃ a, a = capN (1 + nodesL (rowS k (l.take i))) := ⟨_, rfl⟩
      obtain ⟨e, he⟩ : ∃ e, e = depR k l i := ⟨_, rfl⟩
      have ha1 : a ≤ 200001 := by rw [ha]; unfold capN; omega
      have he1 : e ≤ 4000000001 := by
        rw [he]
        exact depR_le k l i (by omega) HDD.out
      rw [← ha] at eN
      rw [← he] at eD
      have hX2 := X2.out
      rw [← ha, ← he] at hX2
      have HEN := hid eN
      have HED := hid eD
      have hfz : f < z := by have := HZ.out; omega
      clear hfa hf hm hkd hq hdq ha he eN eD hFA hc hk0 hbw e0 e1 c9 hN1
      have hxl : z + 1 + 1 < wr.heap.size := (Array.getElem?_eq_some_iff.1 hX2).1
      go_upto_region 5 with fail
      obtain ⟨V, hV⟩ : ∃ V, V = wr.alloc (.cells #[pt f, .int .i64 (m : Int)] 92) := ⟨_, rfl⟩
      rw [← hV]
      obtain ⟨x, hx⟩ : ∃ x, x = wr.heap.size := ⟨_, rfl⟩
      have hVo : ∀ b, b < wr.heap.size → V.heap[b]? = wr.heap[b]? := fun b hb => by rw [hV]; exact heap_alloc_old wr _ hb
      have hVx : V.heap[x]? = some (.cells #[pt f, .int .i64 (m : Int)] 92 (0, 0)) := by rw [hV, hx]; exact heap_alloc_new wr _
      have g0 := (cell_eq (hVo f (by omega)) 0).trans c0
      have g10 := (cell_eq (hVo f (by omega)) 10).trans c10
      have g11 := (cell_eq (hVo f (by omega)) 11).trans c11
      have r0 : V.cell? ⟨x, 0, none⟩ = some (pt f) := Joins.cell_of_block hVx 0
      have r1 : V.cell? ⟨x, 1, none⟩ = some (.int .i64 (m : Int)) := Joins.cell_of_block hVx 1
      have k0 := bx0 ((hVo z (by omega)).trans X0.out)
      have hbV : Below z w V := by rw [hV]; exact BK.out.alloc (by omega) _
      have hX2V := (hVo (z + 1 + 1) hxl).trans hX2
      have x10 := Joins.cell_of_block hX2V 10
      have x11 := Joins.cell_of_block hX2V 11
      have f10 := Joins.unfrozen_of_block hX2V 10
      have f11 := Joins.unfrozen_of_block hX2V 11
      rw [← hx]
      have HXV := hid hX2V
      have HBV := hid hbV
      have Y0 := hid ((hVo z (by omega)).trans X0.out)
      have Y1 := hid ((hVo (z + 1) (by omega)).trans X1.out)
      clear c0 c10 c11 u0 u1 hX2 hV hx hVo hVx hX2V hbV X0 X1 X2 BK
      go_quiet (fail)
      go_upto_region 6 with fail
      by_cases hkk : kd = k
      · have bk : (kd == k) = true := by simpa using hkk
        have hen := HEN.out
        have hed := HED.out
        rw [if_pos hkk] at hen hed
        have w1 : IntKind.i64.wrap ((q : Int) - 1) = (q : Int) - 1 := by simp [IntKind.wrap, IntKind.bits, IntKind.signed]; omega
        have w2 : IntKind.i64.wrap ((d : Int) - 1) = (d : Int) - 1 := by simp [IntKind.wrap, IntKind.bits, IntKind.signed]; omega
        obtain ⟨q1, hq1'⟩ : ∃ q1 : Nat, (q : Int) - 1 = (q1 : Int) ∧ q - 1 = q1 := ⟨q - 1, by omega, rfl⟩
        obtain ⟨d1, hd1'⟩ : ∃ d1 : Nat, (d : Int) - 1 = (d1 : Int) ∧ d - 1 = d1 := ⟨d - 1, by omega, rfl⟩
        rw [hq1'.2] at hen
        rw [hd1'.2] at hed
        have hq1b : q1 ≤ 200001 := by omega
        have hd1b : d1 ≤ 4000000000 := by omega
        have hmq : m * q1 ≤ 200001000 := by have := Nat.mul_le_mul htt.2 (show q1 ≤ 200001 by omega); omega
        have HC : ∀ W' : World, Calls Try.prog 62 #[.int .i64 ((a : Int) + (m : Int) * (q1 : Int))] W' fun e w' => e = .returned (.int .i64 ((capN (a + m * q1) : Nat) : Int)) ∧ w' = W' := fun W' => by
          have := atMost62 (a + m * q1) W' (by omega)
          rwa [show ((a + m * q1 : Nat) : Int) = (a : Int) + (m : Int) * (q1 : Int) by push_cast; rfl] at this
        obtain ⟨AA, hAA⟩ : ∃ AA, AA = capN (a + m * q1) := ⟨_, rfl⟩
        rw [← hAA] at hen HC
        have w3 : IntKind.i64.wrap ((m : Int) * (q1 : Int)) = (m : Int) * (q1 : Int) := by
          have h1 : (m : Int) * (q1 : Int) = ((m * q1 : Nat) : Int) := by push_cast; rfl
          rw [h1]; simp [IntKind.wrap, IntKind.bits, IntKind.signed]; omega
        have w4 : IntKind.i64.wrap ((a : Int) + (m : Int) * (q1 : Int)) = (a : Int) + (m : Int) * (q1 : Int) := by
          have h1 : (a : Int) + (m : Int) * (q1 : Int) = ((a + m * q1 : Nat) : Int) := by push_cast; rfl
          rw [h1]; simp [IntKind.wrap, IntKind.bits, IntKind.signed]; omega
        have w5 : IntKind.i64.wrap (1 + (d1 : Int)) = 1 + (d1 : Int) := by simp [IntKind.wrap, IntKind.bits, IntKind.signed]; omega
        have hmx : max (e : Int) (1 + (d1 : Int)) = ((max e (1 + d1) : Nat) : Int) := by omega
        obtain ⟨E, hE⟩ : ∃ E, E = max e (1 + d1) := ⟨_, rfl⟩
        rw [← hE] at hed hmx
        have HN2 := hid hen
        have HD2 := hid hed
        have HMX := hid hmx
        have HQQ := hid hq1'.1
        have HDQ := hid hd1'.1
        clear hen hed HEN HED hAA hE hmx hq1' hd1'
        go_quiet (fail)
        go_upto_region 8 with fail
        rw [HQQ.out, HDQ.out]
        clear HQQ HDQ w1 w2
        go_region_with (first | (go_at_call 62; (with_reducible refine (HC _).mono ?_); rintro e w1 ⟨rfl, hw1⟩; have hw2 := hw1.symm; clear hw1; subst hw2))
        all_goals go_wp2
        all_goals
          refine ⟨⟨i + 1, by push_cast; rfl, by omega, (row_next HBV.out Y0.out Y1.out HXV.out _ _ _).1, (row_next HBV.out Y0.out Y1.out HXV.out _ _ _).2.1, (row_next HBV.out Y0.out Y1.out HXV.out _ _ _).2.2.1, ?_⟩, by simp [intOf]; omega⟩
          rw [HN2.out, HD2.out, ← HMX.out]
          exact (row_next HBV.out Y0.out Y1.out HXV.out _ _ _).2.2.2
      · have bk : (kd == k) = false := by simpa using hkk
        have hen := HEN.out
        have hed := HED.out
        rw [if_neg hkk] at hen hed
        obtain ⟨q1, hq1e⟩ : ∃ q1 : Nat, q = q1 := ⟨q, rfl⟩
        obtain ⟨d1, hd1e⟩ : ∃ d1 : Nat, d = d1 := ⟨d, rfl⟩
        subst hq1e hd1e
        have hq1b : q ≤ 200001 := by omega
        have hd1b : d ≤ 4000000000 := by omega
        have hmq : m * q ≤ 200001000 := by have := Nat.mul_le_mul htt.2 (show q ≤ 200001 by omega); omega
        have HC : ∀ W' : World, Calls Try.prog 62 #[.int .i64 ((a : Int) + (m : Int) * (q : Int))] W' fun e w' => e = .returned (.int .i64 ((capN (a + m * q) : Nat) : Int)) ∧ w' = W' := fun W' => by
          have := atMost62 (a + m * q) W' (by omega)
          rwa [show ((a + m * q : Nat) : Int) = (a : Int) + (m : Int) * (q : Int) by push_cast; rfl] at this
        obtain ⟨AA, hAA⟩ : ∃ AA, AA = capN (a + m * q) := ⟨_, rfl⟩
        rw [← hAA] at hen HC
        have w3 : IntKind.i64.wrap ((m : Int) * (q : Int)) = (m : Int) * (q : Int) := by
          have h1 : (m : Int) * (q : Int) = ((m * q : Nat) : Int) := by push_cast; rfl
          rw [h1]; simp [IntKind.wrap, IntKind.bits, IntKind.signed]; omega
        have w4 : IntKind.i64.wrap ((a : Int) + (m : Int) * (q : Int)) = (a : Int) + (m : Int) * (q : Int) := by
          have h1 : (a : Int) + (m : Int) * (q : Int) = ((a + m * q : Nat) : Int) := by push_cast; rfl
          rw [h1]; simp [IntKind.wrap, IntKind.bits, IntKind.signed]; omega
        have w5 : IntKind.i64.wrap (1 + (d : Int)) = 1 + (d : Int) := by simp [IntKind.wrap, IntKind.bits, IntKind.signed]; omega
        have hmx : max (e : Int) (1 + (d : Int)) = ((max e (1 + d) : Nat) : Int) := by omega
        obtain ⟨E, hE⟩ : ∃ E, E = max e (1 + d) := ⟨_, rfl⟩
        rw [← hE] at hed hmx
        have HN2 := hid hen
        have HD2 := hid hed
        have HMX := hid hmx
        clear hen hed HEN HED hAA hE hmx
        go_quiet (fail)
        go_upto_region 8 with fail
        go_region_with (first | (go_at_call 62; (with_reducible refine (HC _).mono ?_); rintro e w1 ⟨rfl, hw1⟩; have hw2 := hw1.symm; clear hw1; subst hw2))
        all_goals go_wp2
        all_goals
          refine ⟨⟨i + 1, by push_cast; rfl, by omega, (row_next HBV.out Y0.out Y1.out HXV.out _ _ _).1, (row_next HBV.out Y0.out Y1.out HXV.out _ _ _).2.1, (row_next HBV.out Y0.out Y1.out HXV.out _ _ _).2.2.1, ?_⟩, by simp [intOf]; omega⟩
          rw [HN2.out, HD2.out, ← HMX.out]
          exact (row_next HBV.out Y0.out Y1.out HXV.out _ _ _).2.2.2
    · have b1 : decide ((i : Int) < (n : Int)) = false := by simp; omega
      obtain rfl : i = n := by omega
      have hx9 := Joins.unfrozen_of_block X2.out 9
      have hc9 := Joins.cell_of_block X2.out 9
      go_wp2
      all_goals go_ret
      all_goals
        have hX := Joins.block_setCell (i := 9) X2.out (.func (.func 63) #[] #[pt (z + 1), pt z])
        have hbb := BK.out.setCell (p := ⟨z + 1 + 1, 9, none⟩) (by show z ≤ z + 1 + 1; omega) (.func (.func 63) #[] #[pt (z + 1), pt z])
        have hol : ∀ b, b ≠ z + 1 + 1 → (wr.setCell ⟨z + 1 + 1, 9, none⟩ (.func (.func 63) #[] #[pt (z + 1), pt z])).heap[b]? = wr.heap[b]? := fun b hb => Below.heap_setCell _ _ _ _ hb
        have hlt : z + 1 + 1 < (wr.setCell ⟨z + 1 + 1, 9, none⟩ (.func (.func 63) #[] #[pt (z + 1), pt z])).heap.size := (Array.getElem?_eq_some_iff.1 hX).1
        obtain ⟨U, hU⟩ : ∃ U, U = wr.setCell ⟨z + 1 + 1, 9, none⟩ (.func (.func 63) #[] #[pt (z + 1), pt z]) := ⟨_, rfl⟩
        rw [← hU] at hX hbb hol hlt
        simp only [← hU]
        have hz := HZ.out
        have hn := HN.out
        refine ⟨z + 1 + 1, rfl, ?_, by rw [← hz]; exact hbb⟩
        have hkk : ∀ b, b < w.heap.size → U.heap[b]? = w.heap[b]? := fun b hb => hbb.block b (by omega)
        refine .row (b1 := z + 1) (b2 := z) (ad := some ⟨b, o, none⟩) (c := c) (fs := fs) (.inr ⟨by omega, by omega⟩) ?_ hk ((hol _ (by omega)).trans (by rw [← hn]; exact X1.out)) ((hol _ (by omega)).trans X0.out) (.inr ⟨by omega, by omega⟩) (.inr ⟨by omega, by omega⟩) (HV.out.kept (fun b hb => hkk b (HAA.out b hb)) (fun b hb => .inl hb)) HT.out hl (fun i hi => (HS.out i hi).kept (fun b hb => hkk b (HAA.out b hb)) (fun b hb => .inl hb))
        unfold FC
        rw [rowT_nodes, rowT_depth]
        have e1 : depR k l i = 1 + depthL (rowS k l) := by unfold depR; rw [if_neg (by omega), hn, List.take_length]
        rw [← e1]
        have e2 : rowS k (l.take i) = rowS k l := by rw [hn, List.take_length]
        rw [← e2]
        exact hX
end Go.Proofs.Ytdidopgenhpakaa
