/- HELPERS: the contracts of same, lend and kept over ranges. -/
import Derived.Test.YtjglehklfdhgaaaDoorOwnP
import Derived.Laws.CopyRow
import Derived.OwnWalk
import Derived.Deep.Cut
import Derived.Deep.CutRange
namespace Go.Proofs.YtjglehklfdhgaaaDoor
open Go.RowKit Go.Mx
set_option linter.unusedVariables false
set_option linter.unusedSimpArgs false
set_option maxHeartbeats 2000000 in
set_option maxRecDepth 1000000 in
theorem same38 (A : List (Int × Int)) (aa ab : Option Addr) (n ca cb NA NB : Nat) (w : World) (hn : Hid (A.length = n)) (hS : n ≤ 100000000) (hA : Hid (RowAt NA w (.slice aa n ca) A)) (hB : Hid (RowAt NB w (.slice ab n cb) A)) :
    Calls Tryd.prog 38 #[.slice aa n ca, .slice ab n cb] w fun e w' => e = .returned (.bool true) ∧ ∃ q, w' = w.drewN q := by
  go_enter Tryd.func38, Tryd.ntmps38
  go_wp2
  go_loopw [5] (fun i wr => ∃ (k q : Nat), k ≤ n ∧ i = .int .i64 k ∧ wr = w.drewN q) (fun i _ => n - (intOf i).toNat)
  case atStart => exact ⟨0, 0, by omega, rfl, rfl⟩
  case round =>
    obtain ⟨k, q, hk, rfl, rfl⟩ := hrel
    by_cases hlt : k < n
    · obtain ⟨ad', cap', he, h | ⟨b, off, rfl, hbN, hc0, hc1⟩⟩ := hA.out
      · exact absurd h (by rw [hn.out]; omega)
      · simp only [Value.slice.injEq] at he
        obtain ⟨rfl, -, rfl⟩ := he
        obtain ⟨ad2, cap2, he2, h | ⟨b2, off2, rfl, hbN2, hd0, hd1⟩⟩ := hB.out
        · exact absurd h (by rw [hn.out]; omega)
        · simp only [Value.slice.injEq] at he2
          obtain ⟨rfl, -, rfl⟩ := he2
          have hn' := hn.out
          have d0 := hc0 k (by omega)
          have d1 := hc1 k (by omega)
          have d2 := hd0 k (by omega)
          have d3 := hd1 k (by omega)
          generalize A.getD k (0, 0) = g at d0 d1 d2 d3
          obtain ⟨lo, hi⟩ := g
          simp only at d0 d1 d2 d3
          clear hc0 hc1 hd0 hd1 hn'
          have hk2 : (k : Int) < (n : Int) := by omega
          go_wp2
          go_quiet (fail)
          go_wp2
          go_roundw
          case rel => exact ⟨k + 1, q + nq, by omega, by go_num, by simp⟩
          case measure => simp [intOf]; omega
    · obtain rfl : k = n := by omega
      go_wp2
      go_ret
      exact ⟨rfl, q, rfl⟩
/-- copy of elements of two cells -/
theorem run_copy_two {P : Program} (w : World) (dT sT ty elem : TypeId) (g o dLen dCap : Nat) (a : Addr) (sLen sCap : Nat) (cur : Array Value) (t : TypeId) (cs : List Value)
    (hu : P.underlying dT = some (.slice elem)) (hs : (P.info? elem).map (·.size) = some 2)
    (hg : w.heap[g]? = some (.cells cur t (0, 0))) (hn : cs.length = Nat.min sLen dLen * 2)
    (hsrc : ∀ j v, cs[j]? = some v → w.cell? (a.add j) = some v) (hfit : o + cs.length ≤ cur.size) (h1 : ∀ v ∈ cs, v.oneCell' = true) :
    (Builtin.copy_ #[dT, sT] ty #[.slice (some ⟨g, o, none⟩) dLen dCap, .slice (some a) sLen sCap]).run P w =
      .ok (goInt (Nat.min sLen dLen)) (w.setRow g (cur.toList.take o ++ cs ++ cur.toList.drop (o + cs.length)).toArray) := by
  have hl := run_loadCells_list (P := P) w a cs hsrc
  have hst := run_storeCells_at P g o t cs 0 cur w hg (by simpa using hfit) h1
  cases hq : P.info? elem with
  | none => simp [hq] at hs
  | some i =>
    have hi : i.size = 2 := by simpa [hq] using hs
    simp [Builtin.copy_, run_underlying hu, Builtin.lenOf, Builtin.firstCells, sizeOf, typeInfo, hq, hi, ← hn, hl, hst]
theorem wpList_copy_two {P : Program} {w : World} {ops : Array Oper} {rest : List Oper} {o : Oper} {a : Act} {Q : Exit → Act → World → Prop} (hgd : o.guard = none) (d s : Operand) (dT sT : TypeId)
    (ho : o.op = .call { callee := .builtin .copy, args := #[d, s], argTypes := #[dT, sT] }) (elem : TypeId) (hu : P.underlying dT = some (.slice elem)) (hsz : (P.info? elem).map (·.size) = some 2)
    (g dLen dCap : Nat) (sp : Option Addr) (sLen sCap : Nat) (hd : a.eval d = .slice (some ⟨g, 0, none⟩) dLen dCap) (hs : a.eval s = .slice sp sLen sCap)
    (cur : List Value) (t : TypeId) (hg : w.heap[g]? = some (.cells cur.toArray t (0, 0))) (cs : List Value) (hle : sLen ≤ dLen) (hn : cs.length = sLen * 2)
    (hsp : (sp = none ∧ sLen = 0 ∧ sCap = 0 ∧ cs = []) ∨ ∃ ad, sp = some ad ∧ ∀ j v, cs[j]? = some v → w.cell? (ad.add j) = some v) (hfit : cs.length ≤ cur.length) (h1 : ∀ v ∈ cs, v.oneCell' = true)
    (h : ∀ w', Hid (w'.heap[g]? = some (.cells (cs ++ cur.drop cs.length).toArray t (0, 0))) → Hid (Below g w w') → wpList P ops Q rest (a.put o.dst (goInt sLen)) w') : wpList P ops Q (o :: rest) a w := by
  have hmin : Nat.min sLen dLen = sLen := Nat.min_eq_left hle
  refine wpList_plain hgd fun K hK => ?_
  rcases hsp with ⟨rfl, rfl, rfl, rfl⟩ | ⟨ad, rfl, hsrc⟩
  · have hrun := run_copy_nil (P := P) w dT sT o.type elem ⟨g, 0, none⟩ dLen dCap hu (by rw [hsz]; rfl)
    unfold Oper.wp
    simp [execOp, ho, resolve, invoke, builtin, hd, hs, hrun, Result.andThen]
    exact hK _ _ (h w (show _ = _ by simpa using hg) (Below.refl _ _))
  · have hrun := run_copy_two (P := P) w dT sT o.type elem g 0 dLen dCap ad sLen sCap cur.toArray t cs hu hsz hg (by rw [hmin]; exact hn) hsrc (by simpa using hfit) h1
    rw [hmin] at hrun
    unfold Oper.wp
    simp [execOp, ho, resolve, invoke, builtin, hd, hs, hrun, Result.andThen]
    refine hK _ _ (h _ ?_ ?_)
    · show _ = _
      simpa using setRow_heap w g _ _ t _ hg
    · exact ⟨rfl, rfl, rfl, by simp [World.setRow], fun k hk => setRow_other w g k _ (by omega)⟩
/-- the block g is a row of ranges of the call's own -/
def RowR (w : World) (g : Nat) (L : List (Int × Int)) : Prop := w.heap[g]? = some (.cells (fl L).toArray 57 (0, 0))
theorem RowR.cells {w : World} {g : Nat} {L : List (Int × Int)} (h : RowR w g L) (k : Nat) (hk : k < L.length) : w.cell? ⟨g, k * 2, none⟩ = some (.int .i64 (L.getD k (0, 0)).1) ∧ w.cell? ⟨g, k * 2 + 1, none⟩ = some (.int .i64 (L.getD k (0, 0)).2) := by
  rw [cell_of_row w g (k * 2) _ 57 (0, 0) h, cell_of_row w g (k * 2 + 1) _ 57 (0, 0) h]
  have := fl_getD L k hk
  simpa using this
theorem RowR.frozen {w : World} {g : Nat} {L : List (Int × Int)} (h : RowR w g L) (k : Nat) : w.frozen? ⟨g, k, none⟩ = false := frozen_of_row w g k _ 57 h
theorem RowR.set {w : World} {g : Nat} {L : List (Int × Int)} (h : RowR w g L) (k : Nat) (c : Int × Int) (hk : k < L.length) : RowR ((w.setCell ⟨g, k * 2, none⟩ (.int .i64 c.1)).setCell ⟨g, k * 2 + 1, none⟩ (.int .i64 c.2)) g (L.set k c) := by
  have h1 := heap_setCell_same w g (k * 2) _ 57 (.int .i64 c.1) h
  have h2 := heap_setCell_same _ g (k * 2 + 1) _ 57 (.int .i64 c.2) h1
  unfold RowR
  rw [h2, fl_setP L k c hk]
  congr 2
  simp
theorem RowR.lt {w : World} {g : Nat} {L : List (Int × Int)} (h : RowR w g L) : g < w.heap.size := (Array.getElem?_eq_some_iff.1 h).1
theorem RowR.below {w w' : World} {N g : Nat} {L : List (Int × Int)} (h : RowR w g L) (hb : Below N w w') (hg : g < N) : RowR w' g L := by
  unfold RowR
  rw [hb.block g hg]; exact h
theorem RowR.row {w : World} {g n c : Nat} {L R : List (Int × Int)} (h : RowR w g (L ++ R)) (hn : L.length = n) : RowAt w.heap.size w (.slice (some ⟨g, 0, none⟩) n c) L := by
  subst hn
  refine ⟨_, _, rfl, .inr ⟨g, 0, rfl, h.lt, fun k hk => ?_, fun k hk => ?_⟩⟩
  · rw [Nat.zero_add, (h.cells k (by rw [List.length_append]; omega)).1]
    simp [List.getD_eq_getElem?_getD, List.getElem?_append_left hk]
  · rw [Nat.zero_add, (h.cells k (by rw [List.length_append]; omega)).2]
    simp [List.getD_eq_getElem?_getD, List.getElem?_append_left hk]
theorem made_fl (m : Nat) : (madeCells #[.int .i64 0, .int .i64 0] (m * 2)).toList = fl (List.replicate m (0, 0)) := by
  have h1 : fl (List.replicate m (0, 0)) = List.replicate (m * 2) (.int .i64 0) := by
    induction m with
    | zero => rfl
    | succ m ih =>
      rw [List.replicate_succ, show (m + 1) * 2 = m * 2 + 1 + 1 by omega, List.replicate_succ, List.replicate_succ, ← ih]
      rfl
  rw [h1]
  apply List.ext_getElem?
  intro j
  by_cases hj : j < m * 2
  · have h2 : j % 2 = 0 ∨ j % 2 = 1 := by omega
    rcases h2 with h2 | h2 <;> simp [madeCells, hj, h2]
  · simp [madeCells, hj]
theorem fl_drop (L : List (Int × Int)) (k : Nat) : (fl L).drop (k * 2) = fl (L.drop k) := by
  induction k generalizing L with
  | zero => simp
  | succ k ih =>
    cases L with
    | nil => simp [fl]
    | cons x t =>
      rw [show (k + 1) * 2 = k * 2 + 1 + 1 by omega]
      simp only [List.drop_succ_cons]
      rw [← ih t]
      simp [fl, encR]
set_option maxHeartbeats 2000000 in
set_option maxRecDepth 1000000 in
theorem lend24 (L : List (Int × Int)) (ad : Option Addr) (n cap : Nat) (w : World) (hn : Hid (L.length = n)) (hl : Hid (RowAt w.heap.size w (.slice ad n cap) L)) (hc : Hid (ad = none → cap = 0)) (hm : n ≤ 100000000) :
    Calls Tryd.prog 24 #[.slice ad n cap] w fun e w' => e = .returned (.slice (some ⟨w.heap.size, 0, none⟩) (n + 2) (n + 2)) ∧ RowR w' w.heap.size (L ++ [(-201, -1), (-202, -2)]) ∧ Below w.heap.size w w' := by
  obtain ⟨i0, hi, hz0, hz1, hz2⟩ := info_parts info57
  have hsz1 : (Tryd.prog.info? 57).map (·.size) = some 2 := by rw [hi]; simp [hz1]
  go_enter Tryd.func24, Tryd.ntmps24
  go_wp2_with (at_make; refine wpList_make_full _ rfl (.tmp 6) (.tmp 6) 42 rfl w.heap.size 57 i0 (.agg #[.int .i64 0, .int .i64 0]) 2 Tryd.underlying42 hi hz0 hz1 _ _ _ _ (n + 2) rfl rfl (by omega) (by omega) (by rw [hz2]; omega) (by unfold maxLen; omega) (Nat.le_refl _) ?_)
  intro w1 hown hgrow
  have hb1 : Below w.heap.size w w1 := (Below.refl _ _).grown hgrow (Nat.le_refl _) (fun k h => by cases h)
  have HG1 : Hid (w1.heap[w.heap.size]? = some (.cells (fl (List.replicate (n + 2) (0, 0))).toArray 57 (0, 0))) := by
    rcases hown.2 with ⟨h', _⟩ | ⟨g', cap', cur, h', hbg, hg, hnc, hcm, hcs, htake⟩
    · simp at h'
    · simp only [Value.slice.injEq, Option.some.injEq, Addr.mk.injEq, and_true, true_and] at h'
      obtain ⟨rfl, rfl⟩ := h'
      show w1.heap[w.heap.size]? = _
      rw [hg]
      congr 2
      have h2 : cur.toList.take ((n + 2) * 2) = cur.toList := List.take_of_length_le (by simp [hcs])
      rw [h2, made_fl] at htake
      apply Array.ext'
      rw [htake]
  have HSP : Hid ((ad = none ∧ n = 0 ∧ cap = 0 ∧ fl L = []) ∨ ∃ a, ad = some a ∧ ∀ j v, (fl L)[j]? = some v → w1.cell? (a.add j) = some v) := by
    rcases row_cells (hl.out.below hb1 (Nat.le_refl _) hb1.size) hc.out with ⟨h1, h2, h3, rfl⟩ | h
    · exact .inl ⟨h1, h2, h3, rfl⟩
    · exact .inr h
  have HLN : Hid ((fl L).length = n * 2) := by show _ = _; rw [fl_len, hn.out]
  have HFT : Hid ((fl L).length ≤ (fl (List.replicate (n + 2) ((0 : Int), (0 : Int)))).length) := by show _ ≤ _; rw [fl_len, fl_len, hn.out]; simp; omega
  have HEQ : Hid (fl L ++ (fl (List.replicate (n + 2) ((0 : Int), (0 : Int)))).drop (fl L).length = fl (L ++ [(0, 0), (0, 0)])) := by
    show _ = _
    rw [HLN.out, fl_drop, fl_append, List.drop_replicate, show n + 2 - n = 2 by omega]
    rfl
  clear hown hgrow
  have h1c := two_of_fl L
  generalize hX : fl L = X at *
  clear hX
  generalize hZ : fl (List.replicate (n + 2) ((0 : Int), (0 : Int))) = Z at *
  clear hZ
  go_wp2_with (refine wpList_copy_two rfl (.tmp 8) (.tmp 9) 42 42 rfl 57 Tryd.underlying42 hsz1 w.heap.size (n + 2) (n + 2) ad n cap rfl rfl Z 57 HG1.out X (by omega) HLN.out HSP.out HFT.out h1c ?_)
  intro w2 hg2 hb2
  have HR2 : Hid (RowR w2 w.heap.size (L ++ [(0, 0), (0, 0)])) := by
    show RowR _ _ _
    unfold RowR
    rw [hg2.out, HEQ.out]
  have hb3 : Below w.heap.size w w2 := hb1.trans hb2.out
  clear hg2 hb2 HEQ HFT HLN HSP HG1 h1c hb1
  have hL2 : (L ++ [((0 : Int), (0 : Int)), (0, 0)]).length = n + 2 := by rw [List.length_append, hn.out]; rfl
  obtain ⟨d0, d1⟩ := HR2.out.cells n (by omega)
  obtain ⟨d2, d3⟩ := HR2.out.cells (n + 1) (by omega)
  have f0 := HR2.out.frozen (n * 2)
  have f1 := HR2.out.frozen (n * 2 + 1)
  have f2 := HR2.out.frozen ((n + 1) * 2)
  have f3 := HR2.out.frozen ((n + 1) * 2 + 1)
  have HR3 : Hid (RowR ((((w2.setCell ⟨w.heap.size, n * 2, none⟩ (.int .i64 (-201))).setCell ⟨w.heap.size, n * 2 + 1, none⟩ (.int .i64 (-1))).setCell ⟨w.heap.size, (n + 1) * 2, none⟩ (.int .i64 (-202))).setCell ⟨w.heap.size, (n + 1) * 2 + 1, none⟩ (.int .i64 (-2))) w.heap.size (L ++ [(-201, -1), (-202, -2)])) := by
    have h1 := (HR2.out.set n (-201, -1) (by omega)).set (n + 1) (-202, -2) (by rw [List.length_set]; omega)
    have e : ((L ++ [((0 : Int), (0 : Int)), (0, 0)]).set n (-201, -1)).set (n + 1) (-202, -2) = L ++ [(-201, -1), (-202, -2)] := by
      rw [← hn.out]
      rw [List.set_append_right _ _ (by omega), List.set_append_right _ _ (by omega)]
      simp
    rw [e] at h1
    exact h1
  generalize (L ++ [((0 : Int), (0 : Int)), (0, 0)]).getD n (0, 0) = u0 at d0 d1
  generalize (L ++ [((0 : Int), (0 : Int)), (0, 0)]).getD (n + 1) (0, 0) = u1 at d2 d3
  clear HR2 hL2
  go_wp2
  go_ret
  exact ⟨rfl, HR3.out, (((hb3.setCell (Nat.le_refl _) _).setCell (Nat.le_refl _) _).setCell (Nat.le_refl _) _).setCell (Nat.le_refl _) _⟩
set_option maxHeartbeats 2000000 in
set_option maxRecDepth 1000000 in
theorem kept32 (L : List (Int × Int)) (ad : Option Addr) (n cap g N : Nat) (w : World) (hn : Hid (L.length = n)) (hl : Hid (RowAt N w (.slice ad n cap) L)) (hR : Hid (RowR w g (L ++ [(-201, -1), (-202, -2)]))) (hm : n ≤ 100000000) :
    Calls Tryd.prog 32 #[.slice (some ⟨g, 0, none⟩) (n + 2) (n + 2), .slice ad n cap] w fun e w' => e = .returned (.bool true) ∧ (∀ b, b ≠ g → w'.heap[b]? = w.heap[b]?) ∧ Below g w w' := by
  have hsm := same38 L (some ⟨g, 0, none⟩) ad n (n + 2) cap w.heap.size N w hn hm (hR.out.row hn.out) hl
  have hL2 : (L ++ [((-201 : Int), (-1 : Int)), (-202, -2)]).length = n + 2 := by rw [List.length_append, hn.out]; rfl
  have hd := hR.out.cells n (by omega)
  have hd' := hR.out.cells (n + 1) (by omega)
  have e0 : (L ++ [((-201 : Int), (-1 : Int)), (-202, -2)]).getD n (0, 0) = (-201, -1) := by rw [← hn.out]; simp [List.getD_eq_getElem?_getD]
  have e1 : (L ++ [((-201 : Int), (-1 : Int)), (-202, -2)]).getD (n + 1) (0, 0) = (-202, -2) := by rw [← hn.out]; simp [List.getD_eq_getElem?_getD]
  rw [e0] at hd
  rw [e1] at hd'
  obtain ⟨d0, d1⟩ := hd
  obtain ⟨d2, d3⟩ := hd'
  simp only at d0 d1 d2 d3
  have HL2 : Hid ((L ++ [((-201 : Int), (-1 : Int)), (-202, -2)]).length = n + 2) := hL2
  clear e0 e1 hL2
  go_enter Tryd.func32, Tryd.ntmps32
  go_wp2_with fail
  refine hsm.mono ?_
  rintro e w1 ⟨rfl, q, rfl⟩
  clear hsm
  go_wp2
  go_loopw [7] (fun i wr => ∃ (k : Nat), k ≤ n + 2 ∧ i = .int .i64 k ∧ Hid (∃ L', RowR wr g L' ∧ L'.length = n + 2) ∧ Hid (∀ b, b ≠ g → wr.heap[b]? = w.heap[b]?) ∧ Below g w wr) (fun i _ => n + 2 - (intOf i).toNat)
  case atStart => exact ⟨0, by omega, rfl, ⟨_, hR.out, HL2.out⟩, fun b _ => rfl, Joins.below_draws _ _ _⟩
  case round =>
    clear d0 d1 d2 d3
    obtain ⟨k, hk, rfl, HI, HO, hbw⟩ := hrel
    by_cases hlt : k < n + 2
    · obtain ⟨L', hR', hL'⟩ := HI.out
      obtain ⟨d0, d1⟩ := hR'.cells k (by omega)
      have f0 := hR'.frozen (k * 2)
      have f1 := hR'.frozen (k * 2 + 1)
      have HN : Hid (∃ L', RowR ((wr.setCell ⟨g, k * 2, none⟩ (.int .i64 7)).setCell ⟨g, k * 2 + 1, none⟩ (.int .i64 7)) g L' ∧ L'.length = n + 2) := ⟨L'.set k (7, 7), hR'.set k (7, 7) (by omega), by rw [List.length_set]; exact hL'⟩
      have HO2 : Hid (∀ b, b ≠ g → ((wr.setCell ⟨g, k * 2, none⟩ (.int .i64 7)).setCell ⟨g, k * 2 + 1, none⟩ (.int .i64 7)).heap[b]? = w.heap[b]?) := fun b hb => by
        rw [heap_setCell_other _ ⟨g, k * 2 + 1, none⟩ b _ hb, heap_setCell_other wr ⟨g, k * 2, none⟩ b _ hb]
        exact HO.out b hb
      have HB2 : Hid (Below g w ((wr.setCell ⟨g, k * 2, none⟩ (.int .i64 7)).setCell ⟨g, k * 2 + 1, none⟩ (.int .i64 7))) := (hbw.setCell (Nat.le_refl _) _).setCell (Nat.le_refl _) _
      have hkn : (k : Int) < (n : Int) + 2 := by omega
      generalize L'.getD k (0, 0) = u at d0 d1
      clear hR' hL' HI HO
      go_wp2
      go_roundw
      case rel => exact ⟨k + 1, by omega, by go_num, HN, HO2, HB2.out⟩
      case measure => simp [intOf]; omega
    · obtain rfl : k = n + 2 := by omega
      go_wp2
      go_ret
      exact ⟨rfl, HO.out, hbw⟩
end Go.Proofs.YtjglehklfdhgaaaDoor
