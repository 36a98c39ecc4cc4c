/- HELPERS: a program in memory; Check. -/
import Derived.Test.YteanndophopplaaDoorCb
namespace Go.Proofs.YteanndophopplaaDoor
open Go.RowKit
set_option linter.unusedVariables false
set_option linter.unusedSimpArgs false
/-- the five cells of the i-th instruction of a row -/
def I5 (w : World) (b o i : Nat) (N : Iv) : Prop := w.cell? ⟨b, o + i * 5, none⟩ = some (.int .i64 N.op) ∧ w.cell? ⟨b, o + i * 5 + 1, none⟩ = some (.int .i64 N.x) ∧ w.cell? ⟨b, o + i * 5 + 2, none⟩ = some (.int .i64 N.y) ∧ w.cell? ⟨b, o + i * 5 + 3, none⟩ = some (.int .i64 N.a) ∧ w.cell? ⟨b, o + i * 5 + 4, none⟩ = some (.slice N.r1 N.r2 N.r3)
theorem I5.kept {w w' : World} {b o i : Nat} {N : Iv} (h : I5 w b o i N) (hk : w'.heap[b]? = w.heap[b]?) : I5 w' b o i N := by
  obtain ⟨h0, h1, h2, h3, h4⟩ := h
  exact ⟨(cell_eq hk _).trans h0, (cell_eq hk _).trans h1, (cell_eq hk _).trans h2, (cell_eq hk _).trans h3, (cell_eq hk _).trans h4⟩
/-- an instruction whose ranges lie in memory -/
structure IM (w : World) (B : Nat) (N : Iv) (I : In) : Prop where
  op : N.op = I.op
  x : N.x = I.x
  y : N.y = I.y
  a : N.a = I.a
  len : N.r2 = I.R.length
  sm : N.r2 * 16 ≤ 140737488351232
  row : RowAt B w (.slice N.r1 N.r2 N.r3) I.R
theorem IM.kept {w w' : World} {B B' : Nat} {N : Iv} {I : In} (h : IM w B N I) (hb : Below B w w') (hB : B ≤ B') : IM w' B' N I := ⟨h.op, h.x, h.y, h.a, h.len, h.sm, h.row.below hb (Nat.le_refl _) hB⟩
/-- a row of instructions in memory, below a block -/
structure PI (w : World) (B : Nat) (ad : Option Addr) (n : Nat) (l : List In) : Prop where
  len : n = l.length
  mem : 0 < n → ∃ (b o : Nat) (ND : Nat → Iv), ad = some ⟨b, o, none⟩ ∧ b < B ∧ ∀ i (hi : i < l.length), I5 w b o i (ND i) ∧ IM w B (ND i) l[i]
theorem PI.kept {w w' : World} {B B' : Nat} {ad : Option Addr} {n : Nat} {l : List In} (h : PI w B ad n l) (hb : Below B w w') (hB : B ≤ B') : PI w' B' ad n l := by
  refine ⟨h.len, fun hp => ?_⟩
  obtain ⟨b, o, ND, e, h1, h2⟩ := h.mem hp
  exact ⟨b, o, ND, e, by omega, fun i hi => ⟨(h2 i hi).1.kept (hb.block b h1), (h2 i hi).2.kept hb hB⟩⟩
def mayB (l : List In) (s k : Int) : Bool := decide (l.length ≤ 20000) && belowB s l.length && capsB k && l.all fun I => I.okB l.length k
abbrev pv (ad : Option Addr) (n c : Nat) (s k : Int) : Value := .agg #[.slice ad n c, .int .i64 s, .int .i64 k]
theorem head_no {l : List In} {s k : Int} (h : (decide (l.length ≤ 20000) && belowB s l.length && capsB k) = false) : mayB l s k = false := by
  unfold mayB
  rw [h]
  rfl
set_option maxRecDepth 100000 in
set_option maxHeartbeats 4000000 in
theorem maybe24_no {w : World} {ad : Option Addr} {n c : Nat} {l : List In} {s k : Int} (hl : n = l.length) (hno : (decide (l.length ≤ 20000) && belowB s l.length && capsB k) = false) :
    Calls Tryd.prog 58 #[pv ad n c s k] w fun e w' => e = .returned (.bool (mayB l s k)) ∧ Below w.heap.size w w' := by
  rw [head_no hno]
  rw [← hl] at hno
  clear hl
  have T1 := fun W => below38 s n W
  have T2 := fun W => caps39 k W
  by_cases hA : n ≤ 20000
  · have b1 : decide ((n : Int) > 20000) = false := by simp; omega
    have b1' : decide ((20000 : Int) < (n : Int)) = false := by simp; omega
    cases g1 : belowB s n
    · simp only [g1] at T1
      go_enter Tryd.func58, Tryd.ntmps58
      go_wp2_with (first | (go_at_call 68; (with_reducible refine (T1 _).mono ?_); rintro e w2 ⟨rfl, rfl⟩))
      all_goals go_ret
      all_goals exact ⟨rfl, Joins.below_alloc1 w _⟩
    · simp only [g1] at T1
      have g2 : capsB k = false := by simpa [g1, hA] using hno
      simp only [g2] at T2
      go_enter Tryd.func58, Tryd.ntmps58
      go_wp2_with (first | (go_at_call 68; (with_reducible refine (T1 _).mono ?_); rintro e w2 ⟨rfl, rfl⟩) | (go_at_call 69; (with_reducible refine (T2 _).mono ?_); rintro e w2 ⟨rfl, rfl⟩))
      all_goals go_ret
      all_goals exact ⟨rfl, Joins.below_alloc1 w _⟩
  · have b1 : decide ((n : Int) > 20000) = true := by simp; omega
    have b1' : decide ((20000 : Int) < (n : Int)) = true := by simp; omega
    go_enter Tryd.func58, Tryd.ntmps58
    go_wp2
    all_goals go_ret
    all_goals exact ⟨rfl, Joins.below_alloc1 w _⟩
theorem three_cells {w : World} {b : Nat} {v0 v1 v2 : Value} {t : TypeId} {fr : Nat × Nat} (h : w.heap[b]? = some (.cells #[v0, v1, v2] t fr)) : w.cell? ⟨b, 0, none⟩ = some v0 ∧ w.cell? ⟨b, 1, none⟩ = some v1 ∧ w.cell? ⟨b, 2, none⟩ = some v2 :=
  ⟨Joins.cell_of_block h 0, Joins.cell_of_block h 1, Joins.cell_of_block h 2⟩
set_option maxRecDepth 100000 in
set_option maxHeartbeats 4000000 in
theorem maybe24_ok {w : World} {ad : Option Addr} {n c : Nat} {l : List In} {s k : Int} (h : PI w w.heap.size ad n l) (hyes : (decide (l.length ≤ 20000) && belowB s l.length && capsB k) = true) :
    Calls Tryd.prog 58 #[pv ad n c s k] w fun e w' => e = .returned (.bool (mayB l s k)) ∧ Below w.heap.size w w' := by
  have hm : mayB l s k = l.all fun I => I.okB l.length k := by unfold mayB; rw [hyes]; rfl
  rw [hm]
  have hl := h.len
  rw [← hl] at hyes ⊢
  simp only [Bool.and_eq_true, decide_eq_true_eq] at hyes
  obtain ⟨⟨hA, g1⟩, g2⟩ := hyes
  have T1 := fun W => below38 s n W
  have T2 := fun W => caps39 k W
  simp only [g1] at T1
  simp only [g2] at T2
  have b1 : decide ((n : Int) > 20000) = false := by simp; omega
  have b1' : decide ((20000 : Int) < (n : Int)) = false := by simp; omega
  obtain ⟨U, hU⟩ : ∃ U, U = w.alloc (.cells #[.slice ad n c, .int .i64 s, .int .i64 k] 24) := ⟨_, rfl⟩
  have hb : Below w.heap.size w U := by rw [hU]; exact Joins.below_alloc1 w _
  have hX : U.heap[w.heap.size]? = some (.cells #[.slice ad n c, .int .i64 s, .int .i64 k] 24 (0, 0)) := by rw [hU]; exact heap_alloc_new w _
  have hsz : w.heap.size < U.heap.size := (Array.getElem?_eq_some_iff.1 hX).1
  have HP := hid' (h.kept hb hb.size)
  have HB := hid' hb
  have HX := hid' hX
  have HL := hid' hl
  have hz : w.heap.size ≤ w.heap.size := Nat.le_refl _
  clear h hl hb hX hm hz
  obtain ⟨b, hbe⟩ : ∃ b, b = w.heap.size := ⟨_, rfl⟩
  go_enter Tryd.func58, Tryd.ntmps58
  go_upto_region 1 with fail
  rw [← hU, ← hbe]
  rw [← hbe] at hsz HX HB
  have HBE := hid' hbe
  clear hU hbe
  obtain ⟨c0, c1, c2⟩ := three_cells HX.out
  go_wp2_with (first | (go_at_call 68; (with_reducible refine (T1 _).mono ?_); rintro e w2 ⟨rfl, hw⟩; have hw' := hw.symm; clear hw; subst hw') | (go_at_call 69; (with_reducible refine (T2 _).mono ?_); rintro e w2 ⟨rfl, hw⟩; have hw' := hw.symm; clear hw; subst hw'))
  clear c0 c1 c2 T1 T2 b1 b1'
  go_loopw [27] (fun y wq => ∃ i : Nat, y = .int .i64 (i : Int) ∧ i ≤ n ∧ Hid (Below U.heap.size U wq) ∧ Hid (∀ j (hj : j < l.length), j < i → (l[j]).okB n k = true)) (fun y _ => n - (intOf y).toNat)
  case atStart => exact ⟨0, rfl, by omega, Below.refl _ _, fun j hj h0 => by omega⟩
  case round =>
    obtain ⟨i, rfl, hi, BK, HA⟩ := hrel
    by_cases hil : i < n
    · have b1 : decide ((i : Int) < (n : Int)) = true := by simp; omega
      have b2 : (i : Int) < (n : Int) := by omega
      have ad1 : IntKind.i64.wrap ((i : Int) + 1) = (i : Int) + 1 := by simp [IntKind.wrap, IntKind.bits, IntKind.signed]; omega
      have hlt : i < l.length := by have := HL.out; omega
      obtain ⟨q, o, ND, e, hq, hcs⟩ := HP.out.mem (by omega)
      subst e
      obtain ⟨m0, m1, m2, m3, m4⟩ := (hcs i hlt).1.kept (BK.out.block q hq)
      have hIM := (hcs i hlt).2.kept BK.out BK.out.size
      obtain ⟨M, hM⟩ : ∃ M, M = ND i := ⟨_, rfl⟩
      rw [← hM] at m0 m1 m2 m3 m4 hIM
      have hbw : b < wr.heap.size := by have := BK.out.size; omega
      have hcc : wr.cell? ⟨b, 2, none⟩ = some (.int .i64 k) := (three_cells ((BK.out.block b hsz).trans HX.out)).2.2
      obtain ⟨V, hV⟩ : ∃ V, V = wr.alloc (.cells #[.int .i64 M.op, .int .i64 M.x, .int .i64 M.y, .int .i64 M.a, .slice M.r1 M.r2 M.r3] 49) := ⟨_, rfl⟩
      have hbV : Below wr.heap.size wr V := by rw [hV]; exact Joins.below_alloc1 wr _
      have hIV := hIM.kept hbV hbV.size
      have HC := inst40 M l[i].R n k V hIV.len hIV.sm hIV.row
      rw [hIV.op, hIV.x, hIV.y, hIV.a] at HC
      have HBV := hid' hbV
      have hVe : In.okB ⟨l[i].op, l[i].x, l[i].y, l[i].a, l[i].R⟩ n k = l[i].okB n k := rfl
      rw [hVe] at HC
      rw [hV] at HC HBV
      clear hM hIM hIV hbV hV hVe hcs
      cases g : l[i].okB n k
      · rw [g] at HC
        go_wp2_with (first | (go_at_call 70; (with_reducible refine HC.mono ?_); rintro e w2 ⟨rfl, hb2⟩; have HB2 := hid' hb2; clear hb2 HC))
        all_goals go_ret
        all_goals refine ⟨ret_bool ?_, ?_⟩
        · symm
          rw [List.all_eq_false]
          exact ⟨l[i], List.getElem_mem hlt, by rw [g]; simp⟩
        · rw [← HBE.out]
          exact HB.out.trans (Joins.below_le (BK.out.trans (Joins.below_le (HBV.out.trans (Joins.below_le HB2.out HBV.out.size)) BK.out.size)) (by omega))
      · rw [g] at HC
        go_wp2_with (first | (go_at_call 70; (with_reducible refine HC.mono ?_); rintro e w2 ⟨rfl, hb2⟩; have HB2 := hid' hb2; clear hb2 HC))
        refine ⟨⟨i + 1, by push_cast; rfl, by omega, BK.out.trans (Joins.below_le (HBV.out.trans (Joins.below_le HB2.out HBV.out.size)) BK.out.size), fun j hj h1 => ?_⟩, by simp [intOf]; omega⟩
        by_cases e : j = i
        · subst e; exact g
        · exact HA.out j hj (by omega)
    · have b1 : decide ((i : Int) < (n : Int)) = false := by simp; omega
      go_wp2
      all_goals go_ret
      all_goals refine ⟨ret_bool ?_, ?_⟩
      · symm
        rw [List.all_eq_true]
        intro I hI
        obtain ⟨j, hj, rfl⟩ := List.getElem_of_mem hI
        exact HA.out j hj (by have := HL.out; omega)
      · rw [← HBE.out]
        exact HB.out.trans (Joins.below_le BK.out (by omega))
theorem maybe24 {w : World} {ad : Option Addr} {n c : Nat} {l : List In} {s k : Int} (h : PI w w.heap.size ad n l) : Calls Tryd.prog 58 #[pv ad n c s k] w fun e w' => e = .returned (.bool (mayB l s k)) ∧ Below w.heap.size w w' := by
  cases hh : decide (l.length ≤ 20000) && belowB s l.length && capsB k with
  | false => exact maybe24_no h.len hh
  | true => exact maybe24_ok h hh
theorem check10 {w : World} {ad : Option Addr} {n c : Nat} {l : List In} {s k : Int} (h : PI w w.heap.size ad n l) : Calls Tryd.prog 37 #[pv ad n c s k] w fun e w' => e = .returned (.int .i64 (if mayB l s k then 0 else 90)) ∧ Below w.heap.size w w' := by
  have hb := Joins.below_alloc1 w (.cells #[.slice ad n c, .int .i64 s, .int .i64 k] 24)
  have HC := maybe24 (c := c) (s := s) (k := k) (h.kept hb hb.size)
  have HB := hid' hb
  clear h hb
  cases g : mayB l s k
  · rw [g] at HC
    go_enter Tryd.func37, Tryd.ntmps37
    go_wp2_with (first | (go_at_call 58; (with_reducible refine HC.mono ?_); rintro e w2 ⟨rfl, hb2⟩; have HB2 := hid' hb2; clear hb2 HC))
    all_goals go_ret
    all_goals exact ⟨rfl, HB.out.trans (Joins.below_le HB2.out HB.out.size)⟩
  · rw [g] at HC
    go_enter Tryd.func37, Tryd.ntmps37
    go_wp2_with (first | (go_at_call 58; (with_reducible refine HC.mono ?_); rintro e w2 ⟨rfl, hb2⟩; have HB2 := hid' hb2; clear hb2 HC))
    all_goals go_ret
    all_goals exact ⟨rfl, HB.out.trans (Joins.below_le HB2.out HB.out.size)⟩
end Go.Proofs.YteanndophopplaaDoor
