/- HELPERS: Simplify and Size, of any tree. -/
import Derived.Test.YtdidopgenhpakaaGf
namespace Go.Proofs.Ytdidopgenhpakaa
open Go.RowKit
set_option linter.unusedVariables false
set_option linter.unusedSimpArgs false
theorem results_cell_tmp {P : Program} {fn : Func} {p u : Tmp} {ty : TypeId} (h : fn.results = #[.cell p ty, .tmp u]) (tmps : Array Value) (w : World) (g : Nat) (t : TypeId) (cs : Array Value) (fr : Nat × Nat) (d : TypeDesc)
    (hp : tmps.getD p undef = .pointer (some ⟨g, 0, none⟩)) (hg : w.heap[g]? = some (.cells cs t fr))
    (hu : P.underlying ty = some d) (hd : (match d with | .struct _ | .array _ _ => true | _ => false) = true) (hi : (P.info? ty).map (·.size) = some cs.size) :
    (results fn tmps).run P w = .ok (.tuple #[.agg cs, tmps.getD u undef]) w := by
  have hp' : tmps[p]?.getD undef = .pointer (some ⟨g, 0, none⟩) := by simpa using hp
  simp [results, h, hp', asAddr, run_loadVar_row w g t ty cs fr d hg hu hd hi]
/-- too great a form -/
def Tn.bigS (t : Tn) : Bool := decide (200000 < t.S.nodes) || decide (10000 < t.S.depth)
/-- what Simplify tells -/
def errS (t : Tn) : Int := if t.sound then (if t.bigS then 3 else 0) else 50
abbrev zeroT : Tn := .mk 0 [] 0 [] 0 0 false 0 ⟨#[]⟩
def simT (t : Tn) : Tn := if errS t = 0 then t.S else zeroT
def sizeT (t : Tn) : Nat := if t.sound then capN t.S.nodes else 0
theorem zn_ok : Zn.ok := ok_NO 0 0 0 false 0 ⟨#[]⟩ (by decide) (by decide) (by decide) (by decide) (Nat.zero_le _)
theorem to_zero (w : World) : TO w Zn zeroT (fun b => Zn.rb = some b ∨ Zn.sb = some b ∨ ∃ i, i < ([] : List Tn).length ∧ False) :=
  TO.mk (N := Zn) (R := []) (ts := []) (ND := fun _ => default) (AS := fun _ _ => False) zn_ok (fun x hx => by cases hx) (World.ownsRow_nil _ _ _ _) (World.ownsRow_nil _ _ _ _) (fun i hi => by simp at hi) (fun i j b hi => by simp at hi) (fun b hb => by cases hb) (fun i b hi => by simp at hi)
theorem tail_nine {w3 : World} {y : Nat} (M : Nv) (hY : BN w3 y Zn) : (set9 w3 y 0 M).heap[y]? = some (.cells #[.int .i64 M.k, .slice M.r1 M.r2 M.r3, .int .i64 M.a2, .slice M.s1 M.s2 M.s3, .int .i64 M.a4, .int .i64 M.a5, .bool M.a6, .int .i64 M.a7, .string M.a8] 25 (0, 0)) ∧ (∀ c, c ≠ y → (set9 w3 y 0 M).heap[c]? = w3.heap[c]?) ∧ ∀ B0 W0, Below B0 W0 w3 → B0 ≤ y → Below B0 W0 (set9 w3 y 0 M) := by
  refine ⟨nineSet _ y _ _ _ _ _ _ _ _ _ hY, fun c hc => ?_, fun B0 W0 h h1 => ?_⟩
  · rw [set9_eq]; exact setCells_old y _ _ _ c hc
  · rw [set9_eq]; exact Below.setCells h1 _ _ _ _ h
set_option maxRecDepth 100000 in
set_option maxHeartbeats 8000000 in
theorem simplify11 {w : World} {N : Nv} {t : Tn} (h : TI w w.heap.size N t) : Calls Try.prog 11 #[N.v] w fun e w' => ∃ M, e = .returned (.tuple #[Nv.v M, .int .i64 (errS t)]) ∧ ∃ AA, TO w' M (simT t) AA ∧ (∀ c, AA c → w.heap.size ≤ c) ∧ Below w.heap.size w w' := by
  have hTI : TI ((w.alloc (.cells #[.int .i64 N.k, .slice N.r1 N.r2 N.r3, .int .i64 N.a2, .slice N.s1 N.s2 N.s3, .int .i64 N.a4, .int .i64 N.a5, .bool N.a6, .int .i64 N.a7, .string N.a8] 25)).alloc litO) w.heap.size N t := h.kept fun b hb => (heap_alloc_old _ _ (by simp; omega)).trans (heap_alloc_old w _ hb)
  obtain ⟨W, hW⟩ : ∃ W, W = (w.alloc (.cells #[.int .i64 N.k, .slice N.r1 N.r2 N.r3, .int .i64 N.a2, .slice N.s1 N.s2 N.s3, .int .i64 N.a4, .int .i64 N.a5, .bool N.a6, .int .i64 N.a7, .string N.a8] 25)).alloc litO := ⟨_, rfl⟩
  have hbW : Below w.heap.size w W := by rw [hW]; exact below_two' w _ _
  have hsW : W.heap.size = w.heap.size + 2 := by rw [hW]; simp
  have hX : BN W w.heap.size N := by rw [hW]; exact (heap_alloc_old _ _ (by simp)).trans (heap_alloc_new w _)
  have hY : BN W (w.heap.size + 1) Zn := by rw [hW]; exact two_new w _ _ _
  rw [← hW] at hTI
  have HC := sound29g (hTI.le (by omega))
  obtain ⟨x, hx⟩ : ∃ x, x = w.heap.size := ⟨_, rfl⟩
  rw [← hx] at hX hY hsW
  obtain ⟨k, r1, r2, r3, a2, s1, s2, s3, a4, a5, a6, a7, a8⟩ := N
  obtain ⟨q0, q1, q2, q3, q4, q5, q6, q7, q8⟩ := nine' hX
  have HX := hid hX
  have HY := hid hY
  have HBW := hid hbW
  have HSW := hid hsW
  have HXE := hid hx
  have HTI := hid hTI
  dsimp only at HC hW q0 q1 q2 q3 q4 q5 q6 q7 q8
  by_cases hsd : t.sound = true
  · rw [hsd] at HC
    simp only [if_true] at HC
    simp only [Tn.sound, Bool.and_eq_true, decide_eq_true_eq] at hsd
    have hfo := formOf31 HTI.out hsd.1.1 hsd.1.2 hsd.2
    have HFO := hid hfo
    have HSD := hid hsd
    clear hX hY hbW hsW hTI h hfo hsd
    go_enter Try.func11, Try.ntmps11
    go_upto_region 1 with fail
    rw [← hx, ← hW]
    clear hW hx
    go_upto_region 3 with (first | (go_at_call 30; (with_reducible refine HC.mono ?_); rintro e w2 ⟨rfl, hb2⟩; have hX2 := (hb2.block x (by have := HSW.out; omega)).trans HX.out; clear q0 q1 q2 q3 q4 q5 q6 q7 q8; obtain ⟨q0, q1, q2, q3, q4, q5, q6, q7, q8⟩ := nine' hX2; have HC2 := HFO.out w2 (by have := HXE.out; have := HSW.out; have := hb2.size; omega) (fun c hc => hb2.block c (by have := HXE.out; have := HSW.out; omega)); have HB2 := hid hb2; clear hb2 hX2 HC))
    go_upto_region 4 with (first | (go_at_call 31; (with_reducible refine HC2.mono ?_); rintro e w3 ⟨f, rfl, hf, hb3⟩; have HF := hid hf; have HB3 := hid hb3; clear hf hb3 HC2))
    have hz2 : W.heap.size ≤ w2.heap.size := HB2.out.size
    have hz3 : w2.heap.size ≤ w3.heap.size := HB3.out.size
    have hAf : ∀ c, New (fun b => b < w.heap.size) w2 w3 c → c < w3.heap.size := New.low (fun c hc => by have := HSW.out; have := HXE.out; omega) hz3
    obtain ⟨hfa, N0, ev, hc, _⟩ := HF.out.cells
    have hfl := hAf f hfa
    obtain ⟨_, _, c10, c11⟩ := hc.num
    have hY3 := (HB3.out.block (x + 1) (by have := HSW.out; omega)).trans ((HB2.out.block (x + 1) (by have := HSW.out; omega)).trans HY.out)
    have f0 := Joins.unfrozen_of_block hY3 0
    have f1 := Joins.unfrozen_of_block hY3 1
    have f2 := Joins.unfrozen_of_block hY3 2
    have f3 := Joins.unfrozen_of_block hY3 3
    have f4 := Joins.unfrozen_of_block hY3 4
    have f5 := Joins.unfrozen_of_block hY3 5
    have f6 := Joins.unfrozen_of_block hY3 6
    have f7 := Joins.unfrozen_of_block hY3 7
    have f8 := Joins.unfrozen_of_block hY3 8
    clear q0 q1 q2 q3 q4 q5 q6 q7 q8
    obtain ⟨q0, q1, q2, q3, q4, q5, q6, q7, q8⟩ := nine' hY3
    have HY3 := hid hY3
    have hsound : t.sound = true := by simp only [Tn.sound, Bool.and_eq_true, decide_eq_true_eq]; exact HSD.out
    have hb13 : Below w.heap.size w w3 := (HBW.out.trans (Joins.below_le HB2.out (by have := HSW.out; have := HXE.out; omega))).trans (Joins.below_le HB3.out (by have := HSW.out; have := HXE.out; omega))
    have HB13 := hid hb13
    have HAF := hid hAf
    obtain ⟨m, hm⟩ : ∃ m, m = capN t.S.nodes := ⟨_, rfl⟩
    obtain ⟨d, hd⟩ : ∃ d, d = t.S.depth := ⟨_, rfl⟩
    rw [← hm] at c10
    rw [← hd] at c11
    by_cases hbig : t.bigS = true
    · have herr : errS t = 3 := by unfold errS; rw [hsound, hbig]; rfl
      have HSE : Hid (simT t = zeroT) := by unfold simT; rw [herr]; rfl
      have HER := hid herr
      clear herr hsound hb13 hAf hc hfa hY3
      simp only [Tn.bigS, Bool.or_eq_true, decide_eq_true_eq] at hbig
      by_cases hn : 200000 < m
      · have g1 : decide ((m : Int) > 200000) = true := by simp; omega
        clear hbig hm hd hn
        go_wp2
        all_goals
          obtain ⟨y1, y2, y3⟩ := tail_nine Zn HY3.out
          refine bodyPost_ret (results_cell_tmp rfl _ _ (x + 1) 25 _ (0, 0) _ rfl y1 Try.underlying25 rfl (by kernel_rfl)) rfl ?_
          exact ⟨Zn, (by rw [HER.out]; rfl), _, by rw [HSE.out]; exact to_zero _, (fun c hc => by rcases hc with h | h | ⟨_, _, h⟩; cases h; cases h; exact h.elim), y3 _ _ HB13.out (by have := HXE.out; omega)⟩
      · have g1 : decide ((m : Int) > 200000) = false := by simp; omega
        have g2 : decide ((d : Int) > 10000) = true := by
          simp
          have : ¬ 200000 < t.S.nodes := fun h => hn (by rw [hm]; unfold capN; omega)
          omega
        clear hbig hm hd hn
        go_wp2
        all_goals
          obtain ⟨y1, y2, y3⟩ := tail_nine Zn HY3.out
          refine bodyPost_ret (results_cell_tmp rfl _ _ (x + 1) 25 _ (0, 0) _ rfl y1 Try.underlying25 rfl (by kernel_rfl)) rfl ?_
          exact ⟨Zn, (by rw [HER.out]; rfl), _, by rw [HSE.out]; exact to_zero _, (fun c hc => by rcases hc with h | h | ⟨_, _, h⟩; cases h; cases h; exact h.elim), y3 _ _ HB13.out (by have := HXE.out; omega)⟩
    · have hbig' : t.bigS = false := by simpa using hbig
      have herr : errS t = 0 := by unfold errS; rw [hsound, hbig']; rfl
      have HSE : Hid (simT t = t.S) := by unfold simT; rw [herr]; rfl
      have HER := hid herr
      simp only [Tn.bigS, Bool.or_eq_false_iff, decide_eq_false_iff_not] at hbig'
      have g1 : decide ((m : Int) > 200000) = false := by
        have : m ≤ 200000 := by rw [hm]; unfold capN; omega
        simp; omega
      have g2 : decide ((d : Int) > 10000) = false := by simp; omega
      have HC3 := built_all 200001 (Nat.le_refl _) t.S w3 f _ (by omega) HF.out HAF.out
      unfold BP at HC3
      clear herr hsound hb13 hAf hc hfa hY3 hbig hbig' hm hd
      have hxy : x + 1 < w3.heap.size := by have := HSW.out; omega
      go_upto_region 6 with fail
      go_wp2_with (first | (go_at_call 32; (with_reducible refine HC3.mono ?_); rintro e w4 ⟨M, AA, rfl, hM, hAA, hb4⟩; have hY4 := (hb4.block (x + 1) hxy).trans HY3.out; clear q0 q1 q2 q3 q4 q5 q6 q7 q8 f0 f1 f2 f3 f4 f5 f6 f7 f8; have f0 := Joins.unfrozen_of_block hY4 0; have f1 := Joins.unfrozen_of_block hY4 1; have f2 := Joins.unfrozen_of_block hY4 2; have f3 := Joins.unfrozen_of_block hY4 3; have f4 := Joins.unfrozen_of_block hY4 4; have f5 := Joins.unfrozen_of_block hY4 5; have f6 := Joins.unfrozen_of_block hY4 6; have f7 := Joins.unfrozen_of_block hY4 7; have f8 := Joins.unfrozen_of_block hY4 8; obtain ⟨q0, q1, q2, q3, q4, q5, q6, q7, q8⟩ := nine' hY4; have HY4 := hid hY4; have HM := hid hM; have HAA := hid hAA; have HB4 := hid hb4; clear hY4 hM hAA hb4 HC3))
      all_goals
        obtain ⟨y1, y2, y3⟩ := tail_nine M HY4.out
        refine bodyPost_ret (results_cell_tmp rfl _ _ (x + 1) 25 _ (0, 0) _ rfl y1 Try.underlying25 rfl (by kernel_rfl)) rfl ?_
        have hxe := HXE.out
        have hz4 := HB13.out.size
        refine ⟨M, (by rw [HER.out]; rfl), AA, ?_, fun c hc => by have := HAA.out c hc; omega, y3 _ _ (HB13.out.trans (Joins.below_le HB4.out hz4)) (by omega)⟩
        rw [HSE.out]
        exact HM.out.kept fun c hc => y2 c (by have := HAA.out c hc; omega)
  · have hsd' : t.sound = false := by simpa using hsd
    rw [hsd'] at HC
    simp only [Bool.false_eq_true, if_false] at HC
    have herr : errS t = 50 := by unfold errS; rw [hsd']; rfl
    have HSE : Hid (simT t = zeroT) := by unfold simT; rw [herr]; rfl
    have HER := hid herr
    clear hX hY hbW hsW hTI h hsd hsd' herr
    go_enter Try.func11, Try.ntmps11
    go_upto_region 1 with fail
    rw [← hx, ← hW]
    clear hW hx
    go_wp2_with (first | (go_at_call 30; (with_reducible refine HC.mono ?_); rintro e w4 ⟨rfl, hb4⟩; have hY4 := (hb4.block (x + 1) (by have := HSW.out; omega)).trans HY.out; clear q0 q1 q2 q3 q4 q5 q6 q7 q8; have f0 := Joins.unfrozen_of_block hY4 0; have f1 := Joins.unfrozen_of_block hY4 1; have f2 := Joins.unfrozen_of_block hY4 2; have f3 := Joins.unfrozen_of_block hY4 3; have f4 := Joins.unfrozen_of_block hY4 4; have f5 := Joins.unfrozen_of_block hY4 5; have f6 := Joins.unfrozen_of_block hY4 6; have f7 := Joins.unfrozen_of_block hY4 7; have f8 := Joins.unfrozen_of_block hY4 8; obtain ⟨q0, q1, q2, q3, q4, q5, q6, q7, q8⟩ := nine' hY4; have HY4 := hid hY4; have HB4 := hid hb4; clear hY4 hb4 HC))
    all_goals
      obtain ⟨y1, y2, y3⟩ := tail_nine Zn HY4.out
      refine bodyPost_ret (results_cell_tmp rfl _ _ (x + 1) 25 _ (0, 0) _ rfl y1 Try.underlying25 rfl (by kernel_rfl)) rfl ?_
      exact ⟨Zn, (by rw [HER.out]; rfl), _, by rw [HSE.out]; exact to_zero _, (fun c hc => by rcases hc with h | h | ⟨_, _, h⟩; cases h; cases h; exact h.elim), y3 _ _ (HBW.out.trans (Joins.below_le HB4.out HBW.out.size)) (by have := HXE.out; omega)⟩
set_option maxRecDepth 100000 in
set_option maxHeartbeats 8000000 in
theorem size12 {w : World} {N : Nv} {t : Tn} (h : TI w w.heap.size N t) : Calls Try.prog 12 #[N.v] w fun e w' => e = .returned (.int .i64 ((sizeT t : Nat) : Int)) ∧ Below w.heap.size w w' := by
  have hTI : TI (w.alloc (.cells #[.int .i64 N.k, .slice N.r1 N.r2 N.r3, .int .i64 N.a2, .slice N.s1 N.s2 N.s3, .int .i64 N.a4, .int .i64 N.a5, .bool N.a6, .int .i64 N.a7, .string N.a8] 25)) w.heap.size N t := h.kept fun b hb => heap_alloc_old w _ hb
  obtain ⟨W, hW⟩ : ∃ W, W = w.alloc (.cells #[.int .i64 N.k, .slice N.r1 N.r2 N.r3, .int .i64 N.a2, .slice N.s1 N.s2 N.s3, .int .i64 N.a4, .int .i64 N.a5, .bool N.a6, .int .i64 N.a7, .string N.a8] 25) := ⟨_, rfl⟩
  have hbW : Below w.heap.size w W := by rw [hW]; exact Joins.below_alloc1 w _
  have hsW : W.heap.size = w.heap.size + 1 := by rw [hW]; simp
  have hX : BN W w.heap.size N := by rw [hW]; exact heap_alloc_new w _
  rw [← hW] at hTI
  have HC := sound29g (hTI.le (by omega))
  obtain ⟨x, hx⟩ : ∃ x, x = w.heap.size := ⟨_, rfl⟩
  rw [← hx] at hX hsW
  obtain ⟨k, r1, r2, r3, a2, s1, s2, s3, a4, a5, a6, a7, a8⟩ := N
  obtain ⟨q0, q1, q2, q3, q4, q5, q6, q7, q8⟩ := nine' hX
  have HX := hid hX
  have HBW := hid hbW
  have HSW := hid hsW
  have HXE := hid hx
  have HTI := hid hTI
  dsimp only at HC hW q0 q1 q2 q3 q4 q5 q6 q7 q8
  by_cases hsd : t.sound = true
  · rw [hsd] at HC
    simp only [if_true] at HC
    have HSZ : Hid (sizeT t = capN t.S.nodes) := by unfold sizeT; rw [hsd]; rfl
    simp only [Tn.sound, Bool.and_eq_true, decide_eq_true_eq] at hsd
    have HFO := hid (formOf31 HTI.out hsd.1.1 hsd.1.2 hsd.2)
    clear hX hbW hsW hTI h hsd
    go_enter Try.func12, Try.ntmps12
    go_upto_region 1 with fail
    rw [← hx, ← hW]
    clear hW hx
    go_upto_region 3 with (first | (go_at_call 30; (with_reducible refine HC.mono ?_); rintro e w2 ⟨rfl, hb2⟩; have hX2 := (hb2.block x (by have := HSW.out; omega)).trans HX.out; clear q0 q1 q2 q3 q4 q5 q6 q7 q8; obtain ⟨q0, q1, q2, q3, q4, q5, q6, q7, q8⟩ := nine' hX2; have HC2 := HFO.out w2 (by have := HXE.out; have := HSW.out; have := hb2.size; omega) (fun c hc => hb2.block c (by have := HXE.out; have := HSW.out; omega)); have HB2 := hid hb2; clear hb2 hX2 HC))
    go_wp2_with (first | (go_at_call 31; (with_reducible refine HC2.mono ?_); rintro e w3 ⟨f, rfl, hf, hb3⟩; obtain ⟨hfa, N0, ev, hc, _⟩ := hf.cells; obtain ⟨_, _, c10, c11⟩ := hc.num; have HB3 := hid hb3; clear hc hfa hf hb3 HC2))
    all_goals go_ret
    all_goals
      rw [HSZ.out]
      exact ⟨rfl, (HBW.out.trans (Joins.below_le HB2.out HBW.out.size)).trans (Joins.below_le HB3.out (Nat.le_trans HBW.out.size HB2.out.size))⟩
  · have hsd' : t.sound = false := by simpa using hsd
    rw [hsd'] at HC
    simp only [Bool.false_eq_true, if_false] at HC
    have HSZ : Hid (sizeT t = 0) := by unfold sizeT; rw [hsd']; rfl
    clear hX hbW hsW hTI h hsd hsd'
    go_enter Try.func12, Try.ntmps12
    go_upto_region 1 with fail
    rw [← hx, ← hW]
    clear hW hx
    go_wp2_with (first | (go_at_call 30; (with_reducible refine HC.mono ?_); rintro e w4 ⟨rfl, hb4⟩; have HB4 := hid hb4; clear hb4 HC))
    all_goals go_ret
    all_goals
      rw [HSZ.out]
      exact ⟨rfl, HBW.out.trans (Joins.below_le HB4.out HBW.out.size)⟩
end Go.Proofs.Ytdidopgenhpakaa
