/- HELPERS: the document's beginning at a place. -/
import Derived.Test.YtodpmmlfdkdemaaCc
import Derived.Test.YtodpmmlfdkdemaaCd
import Derived.Test.YtodpmmlfdkdemaaLb
import Derived.Test.YtodpmmlfdkdemaaBh
import Derived.Deep.Slices
import Derived.Test.YtodpmmlfdkdemaaBK
import Derived.Deep.RegionHeld3
import Derived.Deep.LoopGhost
/- HELPERS: the document's Check. -/
namespace Go.Proofs.Ytodpmmlfdkdemaa
open Go.RowKit
set_option linter.unusedVariables false
set_option linter.unusedSimpArgs false
set_option maxRecDepth 100000 in
set_option maxHeartbeats 8000000 in
theorem rcheck9_no {w : World} {ad : Option Addr} {n c : Nat} {l : List In} {s k : Int} (hl : n = l.length) (hno : (decide (l.length ≤ 20000) && belowB s l.length && capsB k) = false) :
    Calls Try.prog 17 #[pv ad n c s k] w fun e w' => e = .returned (.int .i64 (if mayB l s k then 0 else 90)) ∧ Below w.heap.size w w' := by
  rw [head_no hno]
  rw [← hl] at hno
  clear hl
  by_cases h0 : n < 1
  · have b0 : decide ((n : Int) < 1) = true := by simp; omega
    clear hno
    go_enter Try.func17, Try.ntmps17
    go_wp2
    all_goals go_ret
    all_goals exact ⟨rfl, Joins.below_alloc1 w _⟩
  have b0 : decide ((n : Int) < 1) = false := by simp; omega
  by_cases h1 : 20000 < n
  · have b1 : decide ((n : Int) > 20000) = true := by simp; omega
    have b1x : decide ((20000 : Int) < (n : Int)) = true := by simp; omega
    clear hno
    go_enter Try.func17, Try.ntmps17
    go_wp2
    all_goals go_ret
    all_goals exact ⟨rfl, Joins.below_alloc1 w _⟩
  have b1 : decide ((n : Int) > 20000) = false := by simp; omega
  have b1x : decide ((20000 : Int) < (n : Int)) = false := by simp; omega
  by_cases h2 : s < 0
  · have b2 : decide (s < 0) = true := by simp; omega
    clear hno
    go_enter Try.func17, Try.ntmps17
    go_wp2
    all_goals go_ret
    all_goals exact ⟨rfl, Joins.below_alloc1 w _⟩
  have b2 : decide (s < 0) = false := by simp; omega
  by_cases h3 : (n : Int) ≤ s
  · have b3 : decide (s ≥ (n : Int)) = true := by simp; omega
    have b3x : decide ((n : Int) ≤ s) = true := by simp; omega
    clear hno
    go_enter Try.func17, Try.ntmps17
    go_wp2
    all_goals go_ret
    all_goals exact ⟨rfl, Joins.below_alloc1 w _⟩
  have b3 : decide (s ≥ (n : Int)) = false := by simp; omega
  have b3x : decide ((n : Int) ≤ s) = false := by simp; omega
  by_cases h4 : k < 2
  · have b4 : decide (k < 2) = true := by simp; omega
    clear hno
    go_enter Try.func17, Try.ntmps17
    go_wp2
    all_goals go_ret
    all_goals exact ⟨rfl, Joins.below_alloc1 w _⟩
  have b4 : decide (k < 2) = false := by simp; omega
  by_cases h5 : 1002 < k
  · have b5 : decide (k > 1002) = true := by simp; omega
    have b5x : decide ((1002 : Int) < k) = true := by simp; omega
    clear hno
    go_enter Try.func17, Try.ntmps17
    go_wp2
    all_goals go_ret
    all_goals exact ⟨rfl, Joins.below_alloc1 w _⟩
  have b5 : decide (k > 1002) = false := by simp; omega
  have b5x : decide ((1002 : Int) < k) = false := by simp; omega
  have hm : k.tmod 2 = 1 := by
    have h6 : ¬ k % 2 = 0 := fun h6 => by
      have : belowB s n = true := by simp [belowB]; omega
      have : capsB k = true := by simp [capsB]; omega
      simp_all
    rw [Int.tmod_eq_emod_of_nonneg (by omega)]
    omega
  have b6 : (k.tmod 2 == 1) = true := by rw [hm]; rfl
  clear hno h0 h1 h2 h3 h4 h5 hm
  go_enter Try.func17, Try.ntmps17
  go_wp2
  all_goals go_ret
  all_goals exact ⟨rfl, Joins.below_alloc1 w _⟩
set_option maxRecDepth 100000 in
set_option maxHeartbeats 8000000 in
theorem rcheck9_ok {w : World} {ad : Option Addr} {n c : Nat} {l : List In} {s k : Int} (h : PI w w.heap.size ad n l) (hyes : (decide (l.length ≤ 20000) && belowB s l.length && capsB k) = true) :
    Calls Try.prog 17 #[pv ad n c s k] w fun e w' => e = .returned (.int .i64 (if mayB l s k then 0 else 90)) ∧ Below w.heap.size w w' := by
  have hm : mayB l s k = l.all fun I => I.okB l.length k := by unfold mayB; rw [hyes]; rfl
  rw [hm]
  have hl := h.len
  rw [← hl] at hyes ⊢
  simp only [Bool.and_eq_true, decide_eq_true_eq, belowB, capsB, beq_iff_eq] at hyes
  obtain ⟨⟨hA, g1, g1'⟩, ⟨g2, g2'⟩, g3⟩ := hyes
  have b0 : decide ((n : Int) < 1) = false := by simp; omega
  have b1 : decide ((n : Int) > 20000) = false := by simp; omega
  have b1x : decide ((20000 : Int) < (n : Int)) = false := by simp; omega
  have b2 : decide (s < 0) = false := by simp; omega
  have b3 : decide (s ≥ (n : Int)) = false := by simp; omega
  have b3x : decide ((n : Int) ≤ s) = false := by simp; omega
  have b4 : decide (k < 2) = false := by simp; omega
  have b5 : decide (k > 1002) = false := by simp; omega
  have b5x : decide ((1002 : Int) < k) = false := by simp; omega
  have b6 : (k.tmod 2 == 1) = false := by rw [Int.tmod_eq_emod_of_nonneg (by omega), g3]; rfl
  obtain ⟨rv, hrv⟩ : ∃ rv : Int, rv = (if (l.all fun I => I.okB n k) = true then 0 else 90) := ⟨_, rfl⟩
  rw [← hrv]
  have HRES := hid' hrv
  clear hrv hm
  obtain ⟨U, hU⟩ : ∃ U, U = w.alloc (.cells #[.slice ad n c, .int .i64 s, .int .i64 k] 24) := ⟨_, rfl⟩
  have hb : Below w.heap.size w U := by rw [hU]; exact Joins.below_alloc1 w _
  have hX : U.heap[w.heap.size]? = some (.cells #[.slice ad n c, .int .i64 s, .int .i64 k] 24 (0, 0)) := by rw [hU]; exact heap_alloc_new w _
  have hsz : w.heap.size < U.heap.size := (Array.getElem?_eq_some_iff.1 hX).1
  have HP := hid' (h.kept hb hb.size)
  have HB := hid' hb
  have HX := hid' hX
  have HL := hid' hl
  clear h hl hb hX g1 g1' g2 g2' g3
  obtain ⟨b, hbe⟩ : ∃ b, b = w.heap.size := ⟨_, rfl⟩
  go_enter Try.func17, Try.ntmps17
  go_upto_region 1 with fail
  rw [← hU, ← hbe]
  rw [← hbe] at hsz HX HB
  have HBE := hid' hbe
  clear hU hbe
  obtain ⟨c0, c1, c2⟩ := three_cells HX.out
  go_wp2_with fail
  clear c0 c1 c2 b0 b1 b1x b2 b3 b3x b4 b5 b5x b6
  go_loopw [4] (fun y wq => ∃ i : Nat, y = .int .i64 (i : Int) ∧ i ≤ n ∧ Hid (Below U.heap.size U wq) ∧ Hid (∀ j (hj : j < l.length), j < i → (l[j]).okB n k = true)) (fun y _ => n - (intOf y).toNat)
  case atStart => exact ⟨0, rfl, by omega, Below.refl _ _, fun j hj h0 => by omega⟩
  case round =>
    obtain ⟨i, rfl, hi, BK, HA⟩ := hrel
    by_cases hil : i < n
    · have b1 : decide ((i : Int) < (n : Int)) = true := by simp; omega
      have b2 : (i : Int) < (n : Int) := by omega
      have ad1 : IntKind.i64.wrap ((i : Int) + 1) = (i : Int) + 1 := by simp [IntKind.wrap, IntKind.bits, IntKind.signed]; omega
      have hlt : i < l.length := by have := HL.out; omega
      obtain ⟨q, o, ND, e, hq, hcs⟩ := HP.out.mem (by omega)
      subst e
      obtain ⟨m0, m1, m2, m3, m4⟩ := (hcs i hlt).1.kept (BK.out.block q hq)
      have hIM := (hcs i hlt).2.kept BK.out BK.out.size
      obtain ⟨M, hM⟩ : ∃ M, M = ND i := ⟨_, rfl⟩
      rw [← hM] at m0 m1 m2 m3 m4 hIM
      have hbw : b < wr.heap.size := by have := BK.out.size; omega
      obtain ⟨p0, p1, p2⟩ := three_cells ((BK.out.block b hsz).trans HX.out)
      have HCw : ∀ W, W.heap = wr.heap → W.os = wr.os → W.tape = wr.tape → W.output = wr.output → Calls Try.prog 26 #[M.v, .int .i64 n, .int .i64 k] W fun e w' => e = .returned (.bool (l[i].okB n k)) ∧ Below wr.heap.size wr w' := by
        intro W e1 e2 e3 e4
        have hbW : Below wr.heap.size wr W := ⟨e2, e3, e4, by rw [e1]; exact Nat.le_refl _, fun k hk => by rw [e1]⟩
        have hIW := hIM.kept hbW hbW.size
        have HC := may23 M l[i].R n k W hIW.len hIW.sm hIW.row
        rw [hIW.op, hIW.x, hIW.y, hIW.a] at HC
        exact HC.mono fun e w' h => ⟨h.1, hbW.trans (Joins.below_le h.2 hbW.size)⟩
      have HCC := hid' HCw
      clear hM hIM hcs HCw
      cases g : l[i].okB n k
      · rw [g] at HCC
        go_wp2_with fail
        go_region_held3 (fun W => W.cell? ⟨b, 0, none⟩ = some (.slice (some ⟨q, o, none⟩) n c) ∧ W.cell? ⟨b, 2, none⟩ = some (.int .i64 k) ∧ W.cell? ⟨q, o + i * 5, none⟩ = some (.int .i64 M.op) ∧ W.cell? ⟨q, o + i * 5 + 1, none⟩ = some (.int .i64 M.x) ∧ W.cell? ⟨q, o + i * 5 + 2, none⟩ = some (.int .i64 M.y) ∧ W.cell? ⟨q, o + i * 5 + 3, none⟩ = some (.int .i64 M.a) ∧ W.cell? ⟨q, o + i * 5 + 4, none⟩ = some (.slice M.r1 M.r2 M.r3)) (first | (exact ⟨d0, d1, d2, d3, d4, d5, d6⟩) | (simp [*]; done)) (first | (go_at_call 26; (with_reducible refine (HCC.out _ ?_ ?_ ?_ ?_).mono ?_); (rfl); (rfl); (rfl); (rfl); rintro e w2 ⟨rfl, hb2⟩; have hq' : q < wr.heap.size := (by have := BK.out.size; omega); have d0 := (cell_eq (hb2.block b hbw) 0).trans p0; have d1 := (cell_eq (hb2.block b hbw) 2).trans p2; have d2 := (cell_eq (hb2.block q hq') _).trans m0; have d3 := (cell_eq (hb2.block q hq') _).trans m1; have d4 := (cell_eq (hb2.block q hq') _).trans m2; have d5 := (cell_eq (hb2.block q hq') _).trans m3; have d6 := (cell_eq (hb2.block q hq') _).trans m4; have HB2 := hid' hb2; clear hb2))
        all_goals go_wp2
        all_goals go_ret
        all_goals have hf : rv = 90 := (by rw [HRES.out, if_neg]; rw [Bool.not_eq_true, List.all_eq_false]; exact ⟨l[i], List.getElem_mem hlt, by rw [g]; simp⟩)
        all_goals refine ⟨by first | (rw [hf]; rfl) | exact ret_int hf.symm, ?_⟩
        all_goals rw [← HBE.out]
        all_goals exact HB.out.trans (Joins.below_le (BK.out.trans (Joins.below_le HB2.out BK.out.size)) (by omega))
      · rw [g] at HCC
        go_wp2_with fail
        go_region_held3 (fun W => W.cell? ⟨b, 0, none⟩ = some (.slice (some ⟨q, o, none⟩) n c) ∧ W.cell? ⟨b, 2, none⟩ = some (.int .i64 k) ∧ W.cell? ⟨q, o + i * 5, none⟩ = some (.int .i64 M.op) ∧ W.cell? ⟨q, o + i * 5 + 1, none⟩ = some (.int .i64 M.x) ∧ W.cell? ⟨q, o + i * 5 + 2, none⟩ = some (.int .i64 M.y) ∧ W.cell? ⟨q, o + i * 5 + 3, none⟩ = some (.int .i64 M.a) ∧ W.cell? ⟨q, o + i * 5 + 4, none⟩ = some (.slice M.r1 M.r2 M.r3)) (first | (exact ⟨d0, d1, d2, d3, d4, d5, d6⟩) | (simp [*]; done)) (first | (go_at_call 26; (with_reducible refine (HCC.out _ ?_ ?_ ?_ ?_).mono ?_); (rfl); (rfl); (rfl); (rfl); rintro e w2 ⟨rfl, hb2⟩; have hq' : q < wr.heap.size := (by have := BK.out.size; omega); have d0 := (cell_eq (hb2.block b hbw) 0).trans p0; have d1 := (cell_eq (hb2.block b hbw) 2).trans p2; have d2 := (cell_eq (hb2.block q hq') _).trans m0; have d3 := (cell_eq (hb2.block q hq') _).trans m1; have d4 := (cell_eq (hb2.block q hq') _).trans m2; have d5 := (cell_eq (hb2.block q hq') _).trans m3; have d6 := (cell_eq (hb2.block q hq') _).trans m4; have HB2 := hid' hb2; clear hb2))
        all_goals go_wp2
        all_goals refine ⟨⟨i + 1, by push_cast; rfl, by omega, BK.out.trans (Joins.below_le HB2.out BK.out.size), fun j hj h1 => ?_⟩, by simp [intOf]; omega⟩
        all_goals
          by_cases e : j = i
          · subst e; exact g
          · exact HA.out j hj (by omega)
    · have b1 : decide ((i : Int) < (n : Int)) = false := by simp; omega
      go_wp2
      all_goals go_ret
      all_goals have hf : rv = 0 := (by rw [HRES.out, if_pos]; rw [List.all_eq_true]; intro I hI; obtain ⟨j, hj, rfl⟩ := List.getElem_of_mem hI; exact HA.out j hj (by have := HL.out; omega))
      all_goals refine ⟨by first | (rw [hf]; rfl) | exact ret_int hf.symm, ?_⟩
      rw [← HBE.out]
      exact HB.out.trans (Joins.below_le BK.out (by omega))
theorem rcheck9 {w : World} {ad : Option Addr} {n c : Nat} {l : List In} {s k : Int} (h : PI w w.heap.size ad n l) : Calls Try.prog 17 #[pv ad n c s k] w fun e w' => e = .returned (.int .i64 (if mayB l s k then 0 else 90)) ∧ Below w.heap.size w w' := by
  cases hh : decide (l.length ≤ 20000) && belowB s l.length && capsB k with
  | false => exact rcheck9_no h.len hh
  | true => exact rcheck9_ok h hh
end Go.Proofs.Ytodpmmlfdkdemaa
/- HELPERS: what holds through the loops of owned. Made by tools/genowned.py. -/
namespace Go.Proofs.Ytodpmmlfdkdemaa
open Go.RowKit
set_option linter.unusedVariables false
set_option linter.unusedSimpArgs false
/-- all n cells of a slice are c -/
def Mark (w : World) (v : Value) (n : Nat) (c : Value) : Prop := ∃ ad cap, v = .slice ad n cap ∧ (n = 0 ∨ ∃ b, ad = some ⟨b, 0, none⟩ ∧ ∀ k, k < n → w.cell? ⟨b, k, none⟩ = some c)
theorem Mark.kept {w w' : World} {v : Value} {n : Nat} {c : Value} (h : Mark w v n c) (hk : ∀ b, v.ownBlock = some b → w'.heap[b]? = w.heap[b]?) : Mark w' v n c := by
  obtain ⟨ad, cap, rfl, h | ⟨b, rfl, hc⟩⟩ := h
  · exact ⟨ad, cap, rfl, .inl h⟩
  · exact ⟨_, cap, rfl, .inr ⟨b, rfl, fun k hk' => (World.cell?_of_block (a := ⟨b, k, none⟩) (hk b rfl)).trans (hc k hk')⟩⟩
theorem mark_own {w : World} {base e n : Nat} {v : Value} {c : Value} (h : w.ownsRow base e 1 v n (List.replicate n c)) : Mark w v n c := by
  rcases Joins.ownsRow_forms h with ⟨rfl, h0⟩ | ⟨g, cap, rfl⟩
  · exact ⟨none, 0, by rw [h0], .inl h0⟩
  · refine ⟨_, cap, rfl, .inr ⟨g, rfl, fun k hk => ?_⟩⟩
    rw [h.cellAt k (by omega)]
    simp [hk]
/-- a shorter slice at the head of an owned row's block -/
theorem mark_head {w : World} {base e n m : Nat} {v g : Value} {c : Value} (h : w.ownsRow base e 1 g m (List.replicate m c)) (hn : n ≤ m) (hf : ∃ ad cap, v = .slice ad n cap) (hb : ∀ ad cap, v = .slice ad n cap → 0 < n → ∃ b, ad = some ⟨b, 0, none⟩) (hbl : g.ownBlock = v.ownBlock) : Mark w v n c := by
  obtain ⟨ad, cap, rfl⟩ := hf
  by_cases h0 : n = 0
  · exact ⟨ad, cap, rfl, .inl h0⟩
  · obtain ⟨b, rfl⟩ := hb ad cap rfl (by omega)
    refine ⟨_, cap, rfl, .inr ⟨b, rfl, fun k hk => ?_⟩⟩
    rcases Joins.ownsRow_forms h with ⟨rfl, h1⟩ | ⟨g', cap', rfl⟩
    · simp [Value.ownBlock] at hbl
    · simp only [Value.ownBlock, Option.some.injEq] at hbl
      subst hbl
      rw [h.cellAt k (by omega)]
      simp [show k < m by omega]
/-- rows of one-cell elements of type E, in slices of type T, n of them; they lie as values in the block g; mk j is the j-th row's mark -/
structure Rws (E T : TypeId) (base g n : Nat) (v : Nat → Value) (len : Nat → Nat) (mk : Nat → Value) (w0 : World) : Prop where
  hg : g < w0.heap.size
  hgb : base ≤ w0.heap.size
  hd : ∀ i j, i < n → j < n → i ≠ j → ∀ b, (v i).ownBlock = some b → (v j).ownBlock ≠ some b
  hgv : ∀ j, j < n → (v j).ownBlock ≠ some g
  hlt : ∀ j, j < n → ∀ b, (v j).ownBlock = some b → base ≤ b ∧ b < w0.heap.size
  hone : ∀ j, (mk j).oneCell' = true
theorem own_kept {w w' : World} {base e n : Nat} {v : Value} {xs : List Value} (h : w.ownsRow base e 1 v n xs) (hk : ∀ b, v.ownBlock = some b → w'.heap[b]? = w.heap[b]?) : w'.ownsRow base e 1 v n xs := by
  refine ⟨h.1, ?_⟩
  rcases h.2 with hn | ⟨g, cap, cur, hv, hb, hg, rest⟩
  · exact .inl hn
  · exact .inr ⟨g, cap, cur, hv, hb, by rw [hk g (by rw [hv]; rfl)]; exact hg, rest⟩
section
variable {E T : TypeId} {base g n : Nat} {v : Nat → Value} {len : Nat → Nat} {mk : Nat → Value} {w0 : World}
/-- the first loops -/
structure I1 (E : TypeId) (base g n : Nat) (v : Nat → Value) (len : Nat → Nat) (w0 : World) (X : Nat → List Value) (w : World) : Prop where
  own : ∀ j, j < n → w.ownsRow base E 1 (v j) (len j) (X j)
  cel : ∀ j, j < n → w.cell? ⟨g, j, none⟩ = some (v j)
  siz : w.heap.size = w0.heap.size
  bel : Below base w0 w
def updR (X : Nat → List Value) (i : Nat) (l : List Value) : Nat → List Value := fun j => if j = i then l else X j
theorem I1.step {X : Nat → List Value} {w : World} (R : Rws E T base g n v len mk w0) (h : I1 E base g n v len w0 X w) {i k b cap : Nat} (hi : i < n) (hv : v i = .slice (some ⟨b, 0, none⟩) (len i) cap) (c : Value) :
    I1 E base g n v len w0 (updR X i ((X i).set k c)) (w.setCell ⟨b, k, none⟩ c) := by
  have hb : (v i).ownBlock = some b := by rw [hv]; rfl
  have hlt := R.hlt i hi b hb
  refine ⟨fun j hj => ?_, fun j hj => ?_, by simp [World.setCell, h.siz], h.bel.setCell hlt.1 _⟩
  · unfold updR
    split
    · rename_i e
      subst e
      have h1 := h.own j hj
      rw [hv] at h1 ⊢
      exact (h1.stored k c).1
    · rename_i e
      refine own_kept (h.own j hj) (fun b' hb' => heap_setCell_other w ⟨b, k, none⟩ b' c ?_)
      intro e2
      exact R.hd i j hi hj (fun e3 => e e3.symm) b hb (by rw [hb', e2])
  · rw [World.cell?_of_block (a := ⟨g, j, none⟩) (heap_setCell_other w ⟨b, k, none⟩ g c (fun e => R.hgv i hi (by rw [hb, e])))]
    exact h.cel j hj
def cnt (len : Nat → Nat) (q : Nat) : Nat := len (q / 2) + (if q % 2 = 1 then 5 else 0)
/-- where a value's block lies to the rest -/
def Sep (n : Nat) (v : Nat → Value) (w : World) (long : Value) (i : Nat) (x : Value) : Prop := ∀ b, x.ownBlock = some b → b < w.heap.size ∧ long.ownBlock ≠ some b ∧ ∀ t, i ≤ t → t < n → (v t).ownBlock ≠ some b
/-- the rows that are still to come, and what was kept -/
structure I3 (E T : TypeId) (base g n : Nat) (v : Nat → Value) (len : Nat → Nat) (mk : Nat → Value) (w0 : World) (i i' : Nat) (long : Value) (L : List Value) (w : World) : Prop where
  own : ∀ j, i' ≤ j → j < n → w.ownsRow base E 1 (v j) (len j) (List.replicate (len j) (mk j))
  cel : ∀ j, j < n → w.cell? ⟨g, j, none⟩ = some (v j)
  lon : w.ownsRow w0.heap.size T 1 long (2 * i) L
  mar : ∀ q, q < 2 * i → Mark w (L.getD q undef) (cnt len q) (mk (q / 2)) ∧ Sep n v w long i (L.getD q undef)
  siz : w0.heap.size ≤ w.heap.size
  bel : Below base w0 w
/-- what stays as it was where only one block, that of none of these, is written -/
theorem I3.kept {i i' : Nat} {long : Value} {L : List Value} {w w' : World} (R : Rws E T base g n v len mk w0) (h : I3 E T base g n v len mk w0 i i' long L w) (row : Option Nat)
    (hk : ∀ k, k < w.heap.size → row ≠ some k → w'.heap[k]? = w.heap[k]?) (hsz : w.heap.size ≤ w'.heap.size) (hb : Below base w0 w')
    (h1 : ∀ j, i' ≤ j → j < n → ∀ b, (v j).ownBlock = some b → row ≠ some b) (h2 : row ≠ some g) (h3 : ∀ b, long.ownBlock = some b → row ≠ some b) (h4 : ∀ q, q < 2 * i → ∀ b, (L.getD q undef).ownBlock = some b → row ≠ some b) :
    I3 E T base g n v len mk w0 i i' long L w' := by
  refine ⟨fun j hj hjn => own_kept (h.own j hj hjn) (fun b hb' => hk b (by have := (R.hlt j hjn b hb').2; have := h.siz; omega) (h1 j hj hjn b hb')), fun j hj => ?_, own_kept h.lon (fun b hb' => hk b (h.lon.lt b hb').2 (h3 b hb')), fun q hq => ?_, by have := h.siz; omega, hb⟩
  · rw [World.cell?_of_block (a := ⟨g, j, none⟩) (hk g (by have := R.hg; have := h.siz; omega) h2)]
    exact h.cel j hj
  · obtain ⟨hm, hs⟩ := h.mar q hq
    refine ⟨hm.kept (fun b hb' => hk b (hs b hb').1 (h4 q hq b hb')), fun b hb' => ?_⟩
    obtain ⟨s1, s2, s3⟩ := hs b hb'
    exact ⟨by omega, s2, s3⟩
/-- the row that grows -/
structure I4 (E T : TypeId) (base g n : Nat) (v : Nat → Value) (len : Nat → Nat) (mk : Nat → Value) (w0 : World) (i t : Nat) (long : Value) (L : List Value) (x : Value) (w : World) : Prop where
  inv : I3 E T base g n v len mk w0 i (i + 1) long L w
  mar : Mark w (v i) (len i) (mk i)
  own : w.ownsRow base E 1 x (len i + t) (List.replicate (len i + t) (mk i))
  blk : x.ownBlock = (v i).ownBlock ∨ ∃ b, x.ownBlock = some b ∧ w0.heap.size ≤ b ∧ long.ownBlock ≠ some b ∧ ∀ q, q < 2 * i → (L.getD q undef).ownBlock ≠ some b
theorem I4.start {i : Nat} {long : Value} {L : List Value} {w : World} (h : I3 E T base g n v len mk w0 i i long L w) (hi : i < n) : I4 E T base g n v len mk w0 i 0 long L (v i) w :=
  ⟨⟨fun j hj hjn => h.own j (by omega) hjn, h.cel, h.lon, h.mar, h.siz, h.bel⟩, mark_own (h.own i (Nat.le_refl _) hi), h.own i (Nat.le_refl _) hi, .inl rfl⟩
theorem form_head {w : World} {base e n : Nat} {v : Value} {xs : List Value} (h : w.ownsRow base e 1 v n xs) : (∃ ad cap, v = .slice ad n cap) ∧ ∀ ad cap, v = .slice ad n cap → 0 < n → ∃ b, ad = some ⟨b, 0, none⟩ := by
  rcases Joins.ownsRow_forms h with ⟨rfl, h0⟩ | ⟨g, cap, rfl⟩
  · refine ⟨⟨none, 0, by rw [h0]⟩, fun ad cap he hp => by omega⟩
  · refine ⟨⟨_, cap, rfl⟩, fun ad cap' he _ => ?_⟩
    simp only [Value.slice.injEq] at he
    exact ⟨g, he.1.symm⟩
theorem I4.step {i t : Nat} {long x x' : Value} {L : List Value} {w w' : World} {o : Obj} (R : Rws E T base g n v len mk w0) (h : I4 E T base g n v len mk w0 i t long L x w) (hi : i < n)
    (hf : ∃ ad cap, v i = .slice ad (len i) cap) (hfb : ∀ ad cap, v i = .slice ad (len i) cap → 0 < len i → ∃ b, ad = some ⟨b, 0, none⟩)
    (ho : w'.ownsRow base E 1 x' (len i + t + 1) (List.replicate (len i + t) (mk i) ++ [mk i])) (hm : Moved (w.alloc o) w' x x') : I4 E T base g n v len mk w0 i (t + 1) long L x' w' := by
  have ho' : w'.ownsRow base E 1 x' (len i + (t + 1)) (List.replicate (len i + (t + 1)) (mk i)) := by
    rw [← List.replicate_succ'] at ho
    exact ho
  have hsa : (w.alloc o).heap.size = w.heap.size + 1 := by simp
  have hBx : ∀ k, x.ownBlock = some k → base ≤ k ∧ k < w.heap.size := fun k hk => h.own.lt k hk
  -- which blocks are as they were
  have hkeep : ∀ k, k < w.heap.size → x.ownBlock ≠ some k → w'.heap[k]? = w.heap[k]? := by
    intro k hk hne
    have ha : (w.alloc o).heap[k]? = w.heap[k]? := heap_alloc_old w o hk
    rcases hm with ⟨_, hg⟩ | ⟨_, hg⟩
    · rw [hg.block k (by omega) (fun e => hne e.symm), ha]
    · rw [hg.block k (by omega) (by simp), ha]
  have hsz : w.heap.size ≤ w'.heap.size := by
    rcases hm with ⟨_, hg⟩ | ⟨_, hg⟩ <;> (have := hg.size; omega)
  have hbel : Below base w0 w' := by
    have hb0 : Below base w0 (w.alloc o) := h.inv.bel.alloc (by have := R.hgb; have := h.inv.siz; omega) o
    have hbs : base ≤ (w.alloc o).heap.size := by have := R.hgb; have := h.inv.siz; omega
    rcases hm with ⟨_, hg⟩ | ⟨_, hg⟩
    · exact hb0.grown hg hbs (fun k hk => (hBx k hk).1)
    · exact hb0.grown hg hbs (fun k hk => by cases hk)
  have hlong : ∀ b, long.ownBlock = some b → w0.heap.size ≤ b ∧ b < w.heap.size := fun b hb => h.inv.lon.lt b hb
  have hinv : I3 E T base g n v len mk w0 i (i + 1) long L w' := by
    refine h.inv.kept R x.ownBlock hkeep hsz hbel ?_ ?_ ?_ ?_
    · intro j hj hjn b hb e
      rcases h.blk with hx | ⟨b', hx, hb1, _, _⟩
      · exact R.hd i j hi hjn (by omega) b (by rw [← hx]; exact e) hb
      · have := (R.hlt j hjn b hb).2
        rw [hx] at e
        injection e with e
        omega
    · intro e
      rcases h.blk with hx | ⟨b', hx, hb1, _, _⟩
      · exact R.hgv i hi (by rw [← hx]; exact e)
      · have := R.hg
        rw [hx] at e
        injection e with e
        omega
    · intro b hb e
      rcases h.blk with hx | ⟨b', hx, _, hl, _⟩
      · have h1 := hlong b hb
        have h2 := (R.hlt i hi b (by rw [← hx]; exact e)).2
        omega
      · rw [hx] at e
        exact hl (by rw [hb, e])
    · intro q hq b hb e
      rcases h.blk with hx | ⟨b', hx, _, _, hl⟩
      · exact ((h.inv.mar q hq).2 b hb).2.2 i (Nat.le_refl _) hi (by rw [← hx]; exact e)
      · rw [hx] at e
        exact hl q hq (by rw [hb, e])
  refine ⟨hinv, ?_, ho', ?_⟩
  · by_cases hsame : x.ownBlock = (v i).ownBlock
    · rcases hm with ⟨h5, hg⟩ | ⟨h5, hg⟩
      · exact mark_head ho' (by omega) hf hfb (by rw [h5, hsame])
      · refine h.mar.kept (fun b hb => ?_)
        have hbl := (R.hlt i hi b hb).2
        have := h.inv.siz
        rw [hg.block b (by omega) (by simp), heap_alloc_old w o (by omega)]
    · refine h.mar.kept (fun b hb => hkeep b (by have := (R.hlt i hi b hb).2; have := h.inv.siz; omega) (fun e => hsame (by rw [hb, e])))
  · rcases hm with ⟨h5, hg⟩ | ⟨h5, hg⟩
    · rw [h5]; exact h.blk
    · right
      have := h.inv.siz
      refine ⟨_, h5, by omega, fun e => ?_, fun q hq e => ?_⟩
      · have := (hlong _ e).2; omega
      · have := ((h.inv.mar q hq).2 _ e).1; omega
/-- the two that are put behind -/
theorem I4.put {i : Nat} {long long' x : Value} {L : List Value} {w w' : World} {o : Obj} (R : Rws E T base g n v len mk w0) (h : I4 E T base g n v len mk w0 i 5 long L x w) (hi : i < n)
    (ho : w'.ownsRow w0.heap.size T 1 long' (2 * i + 2) (L ++ [v i, x])) (hm : Moved (w.alloc o) w' long long') : I3 E T base g n v len mk w0 (i + 1) (i + 1) long' (L ++ [v i, x]) w' := by
  have hsa : (w.alloc o).heap.size = w.heap.size + 1 := by simp
  have hlong : ∀ b, long.ownBlock = some b → w0.heap.size ≤ b ∧ b < w.heap.size := fun b hb => h.inv.lon.lt b hb
  have hsiz := h.inv.siz
  have hkeep : ∀ k, k < w.heap.size → long.ownBlock ≠ some k → w'.heap[k]? = w.heap[k]? := by
    intro k hk hne
    have ha : (w.alloc o).heap[k]? = w.heap[k]? := heap_alloc_old w o hk
    rcases hm with ⟨_, hg⟩ | ⟨_, hg⟩
    · rw [hg.block k (by omega) (fun e => hne e.symm), ha]
    · rw [hg.block k (by omega) (by simp), ha]
  have hsz : w.heap.size ≤ w'.heap.size := by
    rcases hm with ⟨_, hg⟩ | ⟨_, hg⟩ <;> (have := hg.size; omega)
  have hbel : Below base w0 w' := by
    have hb0 : Below base w0 (w.alloc o) := h.inv.bel.alloc (by have := R.hgb; omega) o
    have hbs : base ≤ (w.alloc o).heap.size := by have := R.hgb; omega
    rcases hm with ⟨_, hg⟩ | ⟨_, hg⟩
    · exact hb0.grown hg hbs (fun k hk => by have := (hlong k hk).1; have := R.hgb; omega)
    · exact hb0.grown hg hbs (fun k hk => by cases hk)
  have hlong' : ∀ b, long'.ownBlock = some b → w0.heap.size ≤ b := fun b hb => (ho.lt b hb).1
  have hneL : ∀ b, b < w.heap.size → long.ownBlock ≠ some b → long'.ownBlock ≠ some b := by
    intro b hb hne
    rcases hm with ⟨h5, _⟩ | ⟨h5, _⟩
    · rw [h5]; exact hne
    · rw [h5]; intro e; injection e with e; omega
  have hvi : ∀ j, j < n → ∀ b, (v j).ownBlock = some b → b < w.heap.size ∧ long.ownBlock ≠ some b := fun j hj b hb => by
    have h1 := (R.hlt j hj b hb).2
    exact ⟨by omega, fun e => by have := (hlong b e).1; omega⟩
  have hx : ∀ b, x.ownBlock = some b → b < w.heap.size ∧ long.ownBlock ≠ some b ∧ ∀ t, i + 1 ≤ t → t < n → (v t).ownBlock ≠ some b := by
    intro b hb
    have hlt := (h.own.lt b hb).2
    rcases h.blk with hxv | ⟨b', hxb, hb1, hl, _⟩
    · rw [hxv] at hb
      exact ⟨hlt, (hvi i hi b hb).2, fun t ht htn => R.hd i t hi htn (by omega) b hb⟩
    · rw [hxb] at hb
      injection hb with hb
      subst hb
      exact ⟨hlt, hl, fun t ht htn e => by have := (R.hlt t htn _ e).2; omega⟩
  have hLl : L.length = 2 * i := by have := h.inv.lon.1; omega
  refine ⟨fun j hj hjn => own_kept (h.inv.own j hj hjn) (fun b hb => hkeep b (hvi j hjn b hb).1 (hvi j hjn b hb).2), fun j hj => ?_, ?_, fun q hq => ?_, by omega, hbel⟩
  · rw [World.cell?_of_block (a := ⟨g, j, none⟩) (hkeep g (by have := R.hg; omega) (fun e => by have := (hlong g e).1; have := R.hg; omega))]
    exact h.inv.cel j hj
  · exact ho
  · by_cases h1 : q < 2 * i
    · have e : (L ++ [v i, x]).getD q undef = L.getD q undef := by simp [List.getD_eq_getElem?_getD, List.getElem?_append_left (show q < L.length by omega)]
      rw [e]
      obtain ⟨hmk, hs⟩ := h.inv.mar q h1
      refine ⟨hmk.kept (fun b hb => hkeep b (hs b hb).1 (hs b hb).2.1), fun b hb => ?_⟩
      obtain ⟨s1, s2, s3⟩ := hs b hb
      exact ⟨by omega, hneL b s1 s2, fun t ht htn => s3 t (by omega) htn⟩
    · by_cases h2 : q = 2 * i + 1
      · subst h2
        have e : (L ++ [v i, x]).getD (2 * i + 1) undef = x := by simp [List.getD_eq_getElem?_getD, ← hLl]
        have ec : cnt len (2 * i + 1) = len i + 5 := by unfold cnt; rw [show (2 * i + 1) / 2 = i by omega, show (2 * i + 1) % 2 = 1 by omega]; rfl
        rw [e, ec, show (2 * i + 1) / 2 = i by omega]
        refine ⟨(mark_own h.own).kept (fun b hb => hkeep b (hx b hb).1 (hx b hb).2.1), fun b hb => ?_⟩
        obtain ⟨s1, s2, s3⟩ := hx b hb
        exact ⟨by omega, hneL b s1 s2, s3⟩
      · have h3 : q = 2 * i := by omega
        subst h3
        have e : (L ++ [v i, x]).getD (2 * i) undef = v i := by simp [List.getD_eq_getElem?_getD, ← hLl]
        have ec : cnt len (2 * i) = len i := by unfold cnt; rw [show 2 * i / 2 = i by omega, show 2 * i % 2 = 0 by omega]; rfl
        rw [e, ec, show 2 * i / 2 = i by omega]
        refine ⟨h.mar.kept (fun b hb => hkeep b (hvi i hi b hb).1 (hvi i hi b hb).2), fun b hb => ?_⟩
        exact ⟨by have := (hvi i hi b hb).1; omega, hneL b (hvi i hi b hb).1 (hvi i hi b hb).2, fun t ht htn => R.hd i t hi htn (by omega) b hb⟩
end
end Go.Proofs.Ytodpmmlfdkdemaa
/- HELPERS: the contract of owned. Made by tools/genowned.py. -/
namespace Go.Proofs.Ytodpmmlfdkdemaa
open Go.RowKit
set_option linter.unusedVariables false
set_option linter.unusedSimpArgs false
theorem infoInts : (Try.prog.info? 25).map (fun i => (i.zero, i.size, i.bytes)) = some (some (.slice none 0 0), 1, 24) := by kernel_rfl
def mk64 (j : Nat) : Value := .int .i64 (-9 - (j : Int))
theorem news_one (w : World) (u : Value) (t : TypeId) (G : Nat) (hG : G = w.heap.size) : ∀ (j : Nat) (y : Value), [u][j]? = some y → (w.alloc (.cells #[u] t)).cell? ((⟨G, 0, none⟩ : Addr).add j) = some y := by
  subst hG
  intro j y hj
  match j, hj with
  | 0, hj => simp at hj; subst hj; simp [Addr.add]
theorem cell_two_new (w : World) (a b : Value) (t : TypeId) : ∀ (j : Nat) (u : Value), [a, b][j]? = some u → (w.alloc (.cells #[a, b] t)).cell? ((⟨w.heap.size, 0, none⟩ : Addr).add j) = some u := by
  intro j u hj
  match j, hj with
  | 0, hj => simp at hj; subst hj; simp [Addr.add]
  | 1, hj => simp at hj; subst hj; simp [Addr.add]
theorem one_cell_int (k : IntKind) (z : Int) : ∀ u ∈ [Value.int k z], u.oneCell' = true := by
  intro u hu
  simp at hu
  subst hu
  rfl
theorem take_set_snoc (X : List Value) (t m : Nat) (c : Value) (hX : X.length = m) (ht : t < m) (h : X.take t = List.replicate t c) : (X.set t c).take (t + 1) = List.replicate (t + 1) c := by
  rw [List.take_set, List.take_succ_eq_append_getElem (by omega), h, List.replicate_succ']
  simp
set_option maxHeartbeats 8000000 in
set_option maxRecDepth 1000000 in
theorem owned13 (base g n cp : Nat) (v : Nat → Value) (len : Nat → Nat) (w0 : World) (hn : n ≤ 1048578) (R : Hid (Rws 3 25 base g n v len mk64 w0)) (hO : Hid (∀ j, j < n → ∃ X, w0.ownsRow base 3 1 (v j) (len j) X)) (hc : Hid (∀ j, j < n → w0.cell? ⟨g, j, none⟩ = some (v j)))
    (hl : Hid (∀ j, j < n → len j ≤ 100000000)) :
    Calls Try.prog 13 #[.slice (some ⟨g, 0, none⟩) n cp] w0 fun e w' => e = .returned (.bool true) ∧ Below base w0 w' := by
  obtain ⟨i0, hi0, hz0, hz1, hz2⟩ := info_parts info3
  obtain ⟨i1, hj0, hy0, hy1, hy2⟩ := info_parts infoInts
  go_enter Try.func13, Try.ntmps13
  go_wp2
  go_loopw [3] (fun i wr => ∃ (k : Nat), k ≤ n ∧ i = .int .i64 k ∧ Hid (∃ X, I1 3 base g n v len w0 X wr ∧ ∀ j, j < k → X j = List.replicate (len j) (mk64 j))) (fun i _ => n - (intOf i).toNat)
  case atStart =>
    refine ⟨0, by omega, rfl, ?_⟩
    obtain ⟨X, hX⟩ := Deep.choose_lt (α := List Value) (n := n) (p := fun j X => w0.ownsRow base 3 1 (v j) (len j) X) hO.out
    exact ⟨X, ⟨hX, hc.out, rfl, Below.refl _ _⟩, fun j hj => absurd hj (by omega)⟩
  case round =>
    obtain ⟨k, hk, rfl, HI⟩ := hrel
    by_cases hlt : k < n
    · have hform : ∃ ad m cap, v k = .slice ad m cap ∧ m = len k ∧ (0 < m → ∃ b, ad = some ⟨b, 0, none⟩) := by
        obtain ⟨X, h1, _⟩ := HI.out
        obtain ⟨⟨ad, cap, he⟩, hb⟩ := form_head (h1.own k hlt)
        exact ⟨ad, _, cap, he, rfl, fun hp => hb ad cap he hp⟩
      obtain ⟨ad, m, cap, hv, hm, hb⟩ := hform
      have HV : Hid (v k = .slice ad m cap) := hv
      have HM : Hid (m = len k) := hm
      have HB : Hid (0 < m → ∃ b, ad = some ⟨b, 0, none⟩) := hb
      have hm8 : m ≤ 100000000 := by rw [hm]; exact hl.out k hlt
      clear hv hm hb
      go_wp2
      go_loopw [4] (fun i wr => ∃ (t : Nat), t ≤ m ∧ i = .int .i64 t ∧ Hid (∃ X, I1 3 base g n v len w0 X wr ∧ (∀ j, j < k → X j = List.replicate (len j) (mk64 j)) ∧ (X k).take t = List.replicate t (mk64 k))) (fun i _ => m - (intOf i).toNat)
      case atStart =>
        refine ⟨0, by omega, rfl, ?_⟩
        obtain ⟨X, h1, h2⟩ := HI.out
        exact ⟨X, h1, h2, rfl⟩
      case round =>
        clear HI
        obtain ⟨t, ht, rfl, HT⟩ := hrel
        have c0 : wr.cell? ⟨g, k, none⟩ = some (.slice ad m cap) := by
          obtain ⟨X, h1, _⟩ := HT.out
          rw [h1.cel k hlt, HV.out]
        by_cases hlt2 : t < m
        · obtain ⟨b, rfl⟩ := HB.out (by omega)
          have hcell : ∃ y, wr.cell? ⟨b, t, none⟩ = some y := by
            obtain ⟨X, h1, _⟩ := HT.out
            have ho := h1.own k hlt
            rw [HV.out, ← HM.out] at ho
            refine ⟨_, (ho.cellAt t (by omega)).trans (List.getElem?_eq_getElem (by have := ho.1; omega))⟩
          have hfr : wr.frozen? ⟨b, t, none⟩ = false := by
            obtain ⟨X, h1, _⟩ := HT.out
            have ho := h1.own k hlt
            rw [HV.out, ← HM.out] at ho
            exact ho.frozenAt t
          obtain ⟨y, hy⟩ := hcell
          have HN : Hid (∃ X, I1 3 base g n v len w0 X (wr.setCell ⟨b, t, none⟩ (mk64 k)) ∧ (∀ j, j < k → X j = List.replicate (len j) (mk64 j)) ∧ (X k).take (t + 1) = List.replicate (t + 1) (mk64 k)) := by
            obtain ⟨X, h1, h2, h3⟩ := HT.out
            refine ⟨updR X k ((X k).set t (mk64 k)), h1.step R.out hlt (by rw [HV.out, HM.out]) _, fun j hj => ?_, ?_⟩
            · unfold updR
              rw [if_neg (by omega)]
              exact h2 j hj
            · unfold updR
              rw [if_pos rfl]
              exact take_set_snoc _ _ m _ (by have := (h1.own k hlt).1; rw [this, HM.out]; omega) hlt2 h3
          clear HT
          go_wp2
          go_roundw
          case rel => exact ⟨t + 1, by omega, by go_num, HN⟩
          case measure => simp [intOf]; omega
        · have htm : t = m := by omega
          have HN : Hid (∃ X, I1 3 base g n v len w0 X wr ∧ ∀ j, j < k + 1 → X j = List.replicate (len j) (mk64 j)) := by
            obtain ⟨X, h1, h2, h3⟩ := HT.out
            refine ⟨X, h1, fun j hj => ?_⟩
            by_cases hjk : j = k
            · subst hjk
              rw [htm, List.take_of_length_le (by have := (h1.own j hlt).1; rw [this, HM.out]; omega)] at h3
              rw [h3, HM.out]
            · exact h2 j (by omega)
          clear HT
          go_wp2
          go_roundw
          case rel => exact ⟨k + 1, by omega, by go_num, HN⟩
          case measure => simp [intOf]; omega
    · have hkn : k = n := by omega
      have HS : Hid (I3 3 25 base g n v len mk64 w0 0 0 (.slice none 0 0) [] wr) := by
        obtain ⟨X, h1, h2⟩ := HI.out
        refine ⟨fun j _ hj => by rw [← h2 j (by omega)]; exact h1.own j hj, h1.cel, World.ownsRow_nil _ _ _ _, fun q hq => absurd hq (by omega), by rw [h1.siz]; exact Nat.le_refl _, h1.bel⟩
      clear HI hO hc hkn
      go_wp2
      go_loopw [5, 6] (fun lo i wr => ∃ (k : Nat) (L : List Value) (lo' : Value), k ≤ n ∧ i = .int .i64 k ∧ lo' = lo ∧ Hid (I3 3 25 base g n v len mk64 w0 k k lo' L wr)) (fun _ i _ => n - (intOf i).toNat)
      case atStart => exact ⟨0, [], _, by omega, rfl, rfl, HS⟩
      case round =>
        clear HS
        obtain ⟨k, L, lo, hk, rfl, rfl, HI⟩ := hrel
        by_cases hlt : k < n
        · have c0 := HI.out.cel k hlt
          have H4 : Hid (I4 3 25 base g n v len mk64 w0 k 0 lo L (v k) wr) := I4.start HI.out hlt
          have HF := form_head (HI.out.own k (Nat.le_refl _) hlt)
          have HF1 : Hid (∃ ad cap, v k = .slice ad (len k) cap) := HF.1
          have HF2 : Hid (∀ ad cap, v k = .slice ad (len k) cap → 0 < len k → ∃ b, ad = some ⟨b, 0, none⟩) := HF.2
          have hm8 := hl.out k hlt
          clear HF HI
          obtain ⟨vk, hvk⟩ : ∃ vk, vk = v k := ⟨_, rfl⟩
          rw [← hvk] at c0 H4
          have HVK : Hid (vk = v k) := hvk
          clear hvk
          go_wp2
          go_loopw [7, 8] (fun x i wr => ∃ (t : Nat) (x' : Value), t ≤ 5 ∧ i = .int .i64 t ∧ x' = x ∧ Hid (I4 3 25 base g n v len mk64 w0 k t lo L x' wr)) (fun _ i _ => 5 - (intOf i).toNat)
          case atStart => exact ⟨0, _, by omega, rfl, rfl, H4⟩
          case round =>
            clear H4 c0
            obtain ⟨t, x, ht, rfl, rfl, H4⟩ := hrel
            by_cases hlt2 : t < 5
            · go_wp2_with (at_builtin; refine wpList_append_move rfl (.tmp 48) (.tmp 51) 25 rfl base 3 i0 (.int .i64 0) 8 Try.underlying25 hi0 hz0 hz1 hz2 rfl x (len k + t) _ rfl (H4.out.own.alloc _) ⟨wr.heap.size, 0, none⟩ 1 1 [.int .i64 (-9 - (k : Int))] rfl rfl (by decide) (by exact news_one _ _ _ _ rfl) (one_cell_int _ _) (by unfold maxLen; omega) (by omega) (by have := H4.out.inv.siz; have := R.out.hgb; simp; omega) ?_; intro x' w' ho hmv)
              have HN : Hid (I4 3 25 base g n v len mk64 w0 k (t + 1) lo L x' w') := H4.out.step R.out hlt HF1.out HF2.out ho.out hmv.out
              clear ho hmv H4
              go_wp2
              go_roundw
              case rel => exact ⟨t + 1, _, by omega, by go_num, rfl, HN⟩
              case measure => simp [intOf]; omega
            · have ht9 : t = 5 := by omega
              subst ht9
              have c0 := H4.out.inv.cel k hlt
              rw [← HVK.out] at c0
              obtain ⟨⟨adx, capx, hex⟩, -⟩ := form_head H4.out.own
              obtain ⟨lx, hlx⟩ : ∃ lx, lx = len k + 5 := ⟨_, rfl⟩
              rw [← hlx] at hex
              obtain ⟨adv, capv, hev0⟩ := HF1.out
              obtain ⟨lv, hlv⟩ : ∃ lv, lv = len k := ⟨_, rfl⟩
              rw [← hlv] at hev0
              have hev : vk = .slice adv lv capv := by rw [HVK.out]; exact hev0
              subst hex hev
              clear hlx hlv hev0
              have n1 : ∀ (j : Nat) (u : Value), [Value.slice adv lv capv, .slice adx lx capx][j]? = some u → (wr.alloc (.cells #[.slice adv lv capv, .slice adx lx capx] 25)).cell? ((⟨wr.heap.size, 0, none⟩ : Addr).add j) = some u := cell_two_new wr _ _ 25
              have n2 : ∀ u ∈ [Value.slice adv lv capv, .slice adx lx capx], u.oneCell' = true := by
                intro u hu
                simp only [List.mem_cons, List.not_mem_nil, or_false] at hu
                rcases hu with rfl | rfl <;> rfl
              have N1 : Hid (∀ (j : Nat) (u : Value), [Value.slice adv lv capv, .slice adx lx capx][j]? = some u → (wr.alloc (.cells #[.slice adv lv capv, .slice adx lx capx] 25)).cell? ((⟨wr.heap.size, 0, none⟩ : Addr).add j) = some u) := n1
              have N2 : Hid (∀ u ∈ [Value.slice adv lv capv, .slice adx lx capx], u.oneCell' = true) := n2
              clear n1 n2
              go_wp2_with (at_builtin; refine wpList_append_move rfl (.tmp 53) (.tmp 59) 40 rfl w0.heap.size 25 i1 (.slice none 0 0) 24 Try.underlying40 hj0 hy0 hy1 hy2 rfl lo (2 * k) L rfl (H4.out.inv.lon.alloc _) ⟨wr.heap.size, 0, none⟩ 2 2 [.slice adv lv capv, .slice adx lx capx] rfl rfl (by decide) N1.out N2.out (by unfold maxLen; omega) (by omega) (by have := H4.out.inv.siz; simp; omega) ?_; intro lo2 w' ho hmv)
              have HN : Hid (∃ L', I3 3 25 base g n v len mk64 w0 (k + 1) (k + 1) lo2 L' w') := by
                have ho' := ho.out
                rw [HVK.out] at ho'
                exact ⟨_, H4.out.put R.out hlt ho' hmv.out⟩
              obtain ⟨L2, hN⟩ := HN.out
              have HN2 : Hid (I3 3 25 base g n v len mk64 w0 (k + 1) (k + 1) lo2 L2 w') := hN
              clear ho hmv H4 HN hN N1 N2
              go_wp2
              go_roundw
              case rel => exact ⟨k + 1, L2, _, by omega, by go_num, rfl, HN2⟩
              case measure => simp [intOf]; omega
        · have hkn2 : k = n := by omega
          rw [hkn2] at HI
          clear hkn2
          have hLf : ∃ adL capL, lo = .slice adL (2 * n) capL ∧ (0 < 2 * n → ∃ b, adL = some ⟨b, 0, none⟩) := by
            obtain ⟨⟨ad, cap, he⟩, hb⟩ := form_head HI.out.lon
            exact ⟨ad, cap, he, fun hp => hb ad cap he hp⟩
          obtain ⟨adL, capL, rfl, hLb⟩ := hLf
          have HLB : Hid (0 < 2 * n → ∃ b, adL = some ⟨b, 0, none⟩) := hLb
          clear hLb
          go_wp2
          go_loopw [9] (fun i wr' => ∃ (q : Nat), q ≤ 2 * n ∧ i = .int .i64 q ∧ wr' = wr) (fun i _ => 2 * n - (intOf i).toNat)
          case atStart => exact ⟨0, by omega, rfl, rfl⟩
          case round =>
            obtain ⟨q, hq, rfl, rfl⟩ := hrel
            by_cases hlq : q < 2 * n
            · obtain ⟨gL, rfl⟩ := HLB.out (by omega)
              have c0 : wr.cell? ⟨gL, q, none⟩ = some (L.getD q undef) := by
                have hll := HI.out.lon.1
                rw [HI.out.lon.cellAt q (by omega)]
                simp [show q < L.length by omega]
              obtain ⟨ad, cap, hv, hmk⟩ := (HI.out.mar q hlq).1
              have hm8 : cnt len q ≤ 100000100 := by
                have := hl.out (q / 2) (by omega)
                unfold cnt
                split <;> omega
              rw [hv] at c0
              generalize cnt len q = m at c0 hmk hm8
              have HMK : Hid (m = 0 ∨ ∃ b, ad = some ⟨b, 0, none⟩ ∧ ∀ k, k < m → wr.cell? ⟨b, k, none⟩ = some (mk64 (q / 2))) := hmk
              clear hv hmk
              go_wp2
              go_loopw [10] (fun i wr' => ∃ (t : Nat), t ≤ m ∧ i = .int .i64 t ∧ wr' = wr) (fun i _ => m - (intOf i).toNat)
              case atStart => exact ⟨0, by omega, rfl, rfl⟩
              case round =>
                obtain ⟨t, ht, rfl, rfl⟩ := hrel
                by_cases hlt3 : t < m
                · obtain ⟨b, rfl, hcb⟩ := HMK.out.resolve_left (by omega)
                  have d0 : wr.cell? ⟨b, t, none⟩ = some (.int .i64 (-9 - (q : Int) / 2)) := by
                    have := hcb t hlt3
                    rw [mk64, show ((q / 2 : Nat) : Int) = (q : Int) / 2 by omega] at this
                    exact this
                  clear hcb
                  go_wp2
                  go_roundw
                  case rel => exact ⟨t + 1, by omega, by go_num, trivial⟩
                  case measure => simp [intOf]; omega
                · have htm : t = m := by omega
                  go_wp2
                  go_roundw
                  case rel => exact ⟨q + 1, by omega, by go_num, trivial⟩
                  case measure => simp [intOf]; omega
            · have hqn : q = 2 * n := by omega
              have HBX : Hid (Below base w0 wr) := HI.out.bel
              clear HI
              go_wp2
              go_ret
              exact ⟨rfl, HBX.out⟩
end Go.Proofs.Ytodpmmlfdkdemaa
/- HELPERS: the document's machine of layer 12 in memory. -/
namespace Go.Proofs.Ytodpmmlfdkdemaa
open Go.RowKit Go.Lk
set_option linter.unusedVariables false
set_option linter.unusedSimpArgs false
def Tk.ds : Tk → List Value
  | .go i j => [.bool false, .int .i64 (i : Int), .int .i64 (j : Int), .int .i64 0, .int .i64 0]
  | .un a o => [.bool true, .int .i64 0, .int .i64 0, .int .i64 (a : Int), .int .i64 o]
theorem Tk.ds_len (t : Tk) : t.ds.length = 5 := by cases t <;> rfl
/-- the stack's cells, its top last -/
def sdk : List Tk → List Value
  | [] => []
  | t :: st => sdk st ++ t.ds
theorem sdk_len (st : List Tk) : (sdk st).length = st.length * 5 := by
  induction st with
  | nil => rfl
  | cons t st ih => rw [sdk, List.length_append, ih, Tk.ds_len, List.length_cons]; omega
theorem sdk_top (t : Tk) (st : List Tk) (k : Nat) (hk : k < 5) : (sdk (t :: st))[st.length * 5 + k]? = t.ds[k]? := by
  rw [sdk, List.getElem?_append_right (by rw [sdk_len]; omega), sdk_len]
  congr 1
  omega
/-- what of the machine's cells stays -/
structure Ck where
  ad : Option Addr
  n : Nat
  c : Nat
  S : Nat
  K : Nat
  tad : Option Addr
  tn : Nat
  tc : Nat
  a : Nat
  gm : Nat
  M : Nat
/-- what of them turns -/
structure Cv where
  u1 : Option Addr
  u2 : Nat
  u3 : Nat
  st : Nat
  wh : Int
  z1 : Option Addr
  z2 : Nat
  z3 : Nat
abbrev dcs (C : Ck) (V : Cv) : Array Value := #[.slice C.ad C.n C.c, .int .i64 (C.S : Int), .int .i64 (C.K : Int), .slice C.tad C.tn C.tc, .int .i64 (C.a : Int), .slice (some ⟨C.gm, 0, none⟩) C.M C.M, .slice V.u1 V.u2 V.u3, .int .i64 (V.st : Int), .int .i64 V.wh, .slice V.z1 V.z2 V.z3]
def DM (w : World) (b : Nat) (C : Ck) (V : Cv) : Prop := w.heap[b]? = some (.cells (dcs C V) 49 (0, 0))
theorem DM.c {w : World} {b : Nat} {C : Ck} {V : Cv} (h : DM w b C V) (k : Nat) : w.cell? ⟨b, k, none⟩ = (dcs C V)[k]? := Joins.cell_of_block h k
theorem DM.u {w : World} {b : Nat} {C : Ck} {V : Cv} (h : DM w b C V) (k : Nat) : w.frozen? ⟨b, k, none⟩ = false := Joins.unfrozen_of_block h k
theorem DM.lt {w : World} {b : Nat} {C : Ck} {V : Cv} (h : DM w b C V) : b < w.heap.size := (Array.getElem?_eq_some_iff.1 h).1
theorem DM.kept {w w' : World} {b : Nat} {C : Ck} {V : Cv} (h : DM w b C V) (hk : w'.heap[b]? = w.heap[b]?) : DM w' b C V := hk.trans h
theorem DM.upd {w : World} {b : Nat} {C : Ck} {V V' : Cv} (h : DM w b C V) (k : Nat) (v : Value) (e : (dcs C V).setIfInBounds k v = dcs C V') : DM (w.setCell ⟨b, k, none⟩ v) b C V' := by
  have := Joins.block_setCell (i := k) h v
  rw [e] at this
  exact this
/-- what is asked and told by the cells -/
structure DC (l : List In) (tx : List Int) (C : Ck) : Prop where
  len : C.n = l.length
  may : mayB l (C.S : Int) (C.K : Int) = true
  tn : C.tn = tx.length
  tl : C.tn ≤ 4194304
  at_ : C.a ≤ C.tn
  M : C.M = C.n * (C.tn - C.a + 1)
  big : C.M ≤ 16777216
/-- the map of what was met -/
def Mets (w : World) (C : Ck) (m : List Pt) : Prop := ∃ arr : Array Value, w.heap[C.gm]? = some (.cells arr 4 (0, 0)) ∧ arr.size = C.M ∧ ∀ i j, i < C.n → C.a ≤ j → j ≤ C.tn → arr[i * (C.tn - C.a + 1) + (j - C.a)]? = some (.bool (decide ((i, j) ∈ m)))
/-- the document's machine while it searches -/
structure DI (w : World) (B b : Nat) (l : List In) (tx : List Int) (C : Ck) (V : Cv) (st : List Tk) (m : List Pt) (cp : List Int) : Prop where
  mb : DM w b C V
  lo : B ≤ b
  lg : B ≤ C.gm
  pi : PI w B C.ad C.n l
  tx : TextAt B w C.tad C.tn tx
  cap : w.ownsRow B 3 1 (.slice V.u1 V.u2 V.u3) V.u2 (I64 cp)
  row : w.ownsRow B 79 5 (.slice V.z1 V.z2 V.z3) V.z2 (sdk st)
  met : Mets w C m
  zl : V.z2 = st.length
  okm : OkP C.n C.a C.tn m
  okt : ∀ t ∈ st, t.ok C.n C.a C.tn C.K
  stl : st.length ≤ m.length + 1
section
variable {w w' : World} {B b : Nat} {l : List In} {tx : List Int} {C : Ck} {V V' : Cv} {st : List Tk} {m : List Pt} {cp : List Int}
theorem DI.size (h : DI w B b l tx C V st m cp) : B ≤ w.heap.size := by have := h.lo; have := h.mb.lt; omega
theorem Mets.keep (h : Mets w C m) (hk : w'.heap[C.gm]? = w.heap[C.gm]?) : Mets w' C m := by
  obtain ⟨arr, h1, h2⟩ := h
  exact ⟨arr, hk.trans h1, h2⟩
theorem Mets.lt (h : Mets w C m) : C.gm < w.heap.size := by
  obtain ⟨arr, h1, _⟩ := h
  exact (Array.getElem?_eq_some_iff.1 h1).1
theorem DI.below (h : DI w B b l tx C V st m cp) (hb : Below w.heap.size w w') : DI w' B b l tx C V st m cp :=
  ⟨h.mb.kept (hb.block _ h.mb.lt), h.lo, h.lg, h.pi.kept (Joins.below_le hb h.size) (Nat.le_refl _), h.tx.below (Joins.below_le hb h.size), row_kept h.cap (fun k hk => hb.block k (h.cap.lt k hk).2), row_kept h.row (fun k hk => hb.block k (h.row.lt k hk).2), h.met.keep (hb.block _ h.met.lt), h.zl, h.okm, h.okt, h.stl⟩
theorem DI.row_b (h : DI w B b l tx C V st m cp) : (Value.slice V.z1 V.z2 V.z3).ownBlock ≠ some b := own_ne h.row h.mb (by decide)
theorem DI.cap_b (h : DI w B b l tx C V st m cp) : (Value.slice V.u1 V.u2 V.u3).ownBlock ≠ some b := own_ne h.cap h.mb (by decide)
theorem DI.gm_b (h : DI w B b l tx C V st m cp) : C.gm ≠ b := fun e => by
  obtain ⟨arr, h1, _⟩ := h.met
  have h2 : w.heap[b]? = _ := h.mb
  rw [← e, h1] at h2
  simp at h2
theorem DI.row_gm (h : DI w B b l tx C V st m cp) : (Value.slice V.z1 V.z2 V.z3).ownBlock ≠ some C.gm := by
  obtain ⟨arr, h1, _⟩ := h.met
  exact own_ne h.row h1 (by decide)
theorem DI.cap_gm (h : DI w B b l tx C V st m cp) : (Value.slice V.u1 V.u2 V.u3).ownBlock ≠ some C.gm := by
  obtain ⟨arr, h1, _⟩ := h.met
  exact own_ne h.cap h1 (by decide)
/-- the machine's own cells are written -/
theorem DI.put (h : DI w B b l tx C V st m cp) (k : Nat) (v : Value) (e : (dcs C V).setIfInBounds k v = dcs C V') (e1 : V'.z1 = V.z1 ∧ V'.z2 = V.z2 ∧ V'.z3 = V.z3) (e2 : V'.u1 = V.u1 ∧ V'.u2 = V.u2 ∧ V'.u3 = V.u3) :
    DI (w.setCell ⟨b, k, none⟩ v) B b l tx C V' st m cp ∧ Below B w (w.setCell ⟨b, k, none⟩ v) := by
  have hb : Below B w (w.setCell ⟨b, k, none⟩ v) := (Below.refl B w).setCell (p := ⟨b, k, none⟩) h.lo _
  have ho : ∀ q, q ≠ b → (w.setCell ⟨b, k, none⟩ v).heap[q]? = w.heap[q]? := fun q hq => Below.heap_setCell _ _ _ _ hq
  refine ⟨⟨h.mb.upd k v e, h.lo, h.lg, h.pi.kept hb (Nat.le_refl _), h.tx.below hb, ?_, ?_, h.met.keep (ho _ h.gm_b), ?_, h.okm, h.okt, h.stl⟩, hb⟩
  · rw [e2.1, e2.2.1, e2.2.2]
    exact row_kept h.cap (fun q hq => ho q (fun e => h.cap_b (by rw [← e]; exact hq)))
  · rw [e1.1, e1.2.1, e1.2.2]
    exact row_kept h.row (fun q hq => ho q (fun e => h.row_b (by rw [← e]; exact hq)))
  · rw [e1.2.1]; exact h.zl
/-- a capture is written -/
theorem DI.setc {ub : Nat} (h : DI w B b l tx C V st m cp) (hu : V.u1 = some ⟨ub, 0, none⟩) (k : Nat) (v : Int) : DI (w.setCell ⟨ub, k, none⟩ (.int .i64 v)) B b l tx C V st m (cp.set k v) ∧ Below B w (w.setCell ⟨ub, k, none⟩ (.int .i64 v)) := by
  have hcap := h.cap
  rw [hu] at hcap
  have hgc := hcap.lt ub rfl
  have hb : Below B w (w.setCell ⟨ub, k, none⟩ (.int .i64 v)) := (Below.refl B w).setCell (p := ⟨ub, k, none⟩) hgc.1 _
  have ho : ∀ q, q ≠ ub → (w.setCell ⟨ub, k, none⟩ (.int .i64 v)).heap[q]? = w.heap[q]? := fun q hq => Below.heap_setCell _ _ _ _ hq
  have hc := row_setC hcap k (.int .i64 v)
  rw [show (I64 cp).set k (.int .i64 v) = I64 (cp.set k v) by simp [I64, List.map_set]] at hc
  refine ⟨⟨h.mb.kept (ho b (fun e => h.cap_b (by rw [hu, e]; rfl))), h.lo, h.lg, h.pi.kept hb (Nat.le_refl _), h.tx.below hb, by rw [hu]; exact hc, row_kept h.row (fun q hq => ho q (fun e => own_apart h.row h.cap (by decide) hq (by rw [hu, e]; rfl))), h.met.keep (ho _ (fun e => h.cap_gm (by rw [hu, e]; rfl))), h.zl, h.okm, h.okt, h.stl⟩, hb⟩
theorem DI.marked {i j k : Nat} (h : DI w B b l tx C V st m cp) (hc : DC l tx C) (hi : i < C.n) (ha : C.a ≤ j) (hj : j ≤ C.tn) (hm : (i, j) ∉ m) (hk : k = i * (C.tn - C.a + 1) + (j - C.a)) :
    DI (w.setCell ⟨C.gm, k, none⟩ (.bool true)) B b l tx C V st (m ++ [(i, j)]) cp ∧ Below B w (w.setCell ⟨C.gm, k, none⟩ (.bool true)) := by
  obtain ⟨arr, h1, h2, h3⟩ := h.met
  have hb : Below B w (w.setCell ⟨C.gm, k, none⟩ (.bool true)) := (Below.refl B w).setCell (p := ⟨C.gm, k, none⟩) h.lg _
  have ho : ∀ q, q ≠ C.gm → (w.setCell ⟨C.gm, k, none⟩ (.bool true)).heap[q]? = w.heap[q]? := fun q hq => Below.heap_setCell _ _ _ _ hq
  have hnew := Joins.block_setCell (i := k) h1 (.bool true)
  have hkl : k < arr.size := by
    have := h3 i j hi ha hj
    rw [← hk] at this
    exact (Array.getElem?_eq_some_iff.1 this).1
  refine ⟨⟨h.mb.kept (ho b (fun e => h.gm_b e.symm)), h.lo, h.lg, h.pi.kept hb (Nat.le_refl _), h.tx.below hb, row_kept h.cap (fun q hq => ho q (fun e => h.cap_gm (by rw [← e]; exact hq))), row_kept h.row (fun q hq => ho q (fun e => h.row_gm (by rw [← e]; exact hq))), ⟨_, hnew, by simpa using h2, fun x y hx hax hy => ?_⟩, h.zl, h.okm.add hm hi ha hj, h.okt, by have := h.stl; simp; omega⟩, hb⟩
  by_cases e : x = i ∧ y = j
  · obtain ⟨rfl, rfl⟩ := e
    rw [← hk]
    simp [hkl]
  · have hne : k ≠ x * (C.tn - C.a + 1) + (y - C.a) := fun e' => e (by
      have := enc_inj (show j - C.a < C.tn - C.a + 1 by omega) (show y - C.a < C.tn - C.a + 1 by omega) (hk.symm.trans e')
      omega)
    rw [Array.getElem?_setIfInBounds_ne hne, h3 x y hx hax hy]
    simp only [List.mem_append, List.mem_singleton, Prod.mk.injEq, e, or_false]
/-- tasks are pushed -/
theorem DI.pushed {A w3 : World} {ts : List Tk} {y1 : Option Addr} {y3 k : Nat} (h : DI w B b l tx C V st m cp) (hA : Below w.heap.size w A) (ht : ∀ t ∈ ts, t.ok C.n C.a C.tn C.K) (hst : (ts ++ st).length ≤ m.length + 1) (hk : k = V.z2 + ts.length)
    (ho : w3.ownsRow B 79 5 (.slice y1 k y3) k (sdk st ++ sdk ts)) (hf : Frm A w3 (.slice V.z1 V.z2 V.z3) (.slice y1 k y3)) :
    DI (w3.setCell ⟨b, 9, none⟩ (.slice y1 k y3)) B b l tx C { V with z1 := y1, z2 := k, z3 := y3 } (ts ++ st) m cp ∧ Below B w (w3.setCell ⟨b, 9, none⟩ (.slice y1 k y3)) ∧ DM w3 b C V := by
  have hs := hA.size
  have hkk : ∀ k, k < w.heap.size → (Value.slice V.z1 V.z2 V.z3).ownBlock ≠ some k → w3.heap[k]? = w.heap[k]? := fun k hk hn => (hf.block k (by omega) hn).trans (hA.block k hk)
  have hbz : (Value.slice y1 k y3).ownBlock ≠ some b := fun e => by
    rcases hf.own b e with h' | h'
    · exact h.row_b h'
    · have := h.mb.lt; omega
  have hb3 : w3.heap[b]? = w.heap[b]? := hkk b h.mb.lt h.row_b
  have hB3 : Below B w w3 := ⟨hf.os.trans hA.os, hf.tape.trans hA.tape, hf.output.trans hA.output, by have := hf.size; omega, fun k hk => hkk k (by have := h.size; omega) (fun e => by have := (h.row.lt k e).1; omega)⟩
  have hB4 : Below B w (w3.setCell ⟨b, 9, none⟩ (.slice y1 k y3)) := hB3.setCell (p := ⟨b, 9, none⟩) h.lo _
  have ho4 : ∀ q, q ≠ b → (w3.setCell ⟨b, 9, none⟩ (.slice y1 k y3)).heap[q]? = w3.heap[q]? := fun q hq => Below.heap_setCell _ _ _ _ hq
  have hst2 : sdk (ts ++ st) = sdk st ++ sdk ts := by
    clear hf ho ht hst hk hbz
    induction ts with
    | nil => simp [sdk]
    | cons t ts ih => rw [List.cons_append, sdk, ih, sdk, List.append_assoc]
  refine ⟨⟨(h.mb.kept hb3).upd 9 _ rfl, h.lo, h.lg, h.pi.kept hB4 (Nat.le_refl _), h.tx.below hB4, row_kept h.cap (fun q hq => ?_), by rw [hst2]; exact own_setCell ho hbz, h.met.keep ((ho4 _ h.gm_b).trans (hkk _ h.met.lt h.row_gm)), by show k = _; rw [hk, h.zl, List.length_append]; omega, h.okm, fun u hu => ?_, hst⟩, hB4, h.mb.kept hb3⟩
  · exact (ho4 _ (fun e => h.cap_b (by rw [← e]; exact hq))).trans (hkk _ (h.cap.lt _ hq).2 (own_apart h.cap h.row (by decide) hq))
  · rcases List.mem_append.1 hu with hu | hu
    · exact ht u hu
    · exact h.okt u hu
/-- a task is popped -/
theorem DI.popped {t : Tk} (h : DI w B b l tx C V (t :: st) m cp) : DI (w.setCell ⟨b, 9, none⟩ (.slice V.z1 st.length V.z3)) B b l tx C { V with z2 := st.length } st m cp ∧ Below B w (w.setCell ⟨b, 9, none⟩ (.slice V.z1 st.length V.z3)) := by
  have hz2 : V.z2 = st.length + 1 := h.zl
  have hrow := h.row
  rw [hz2, sdk] at hrow
  have r2 := own_pop hrow (sdk_len st)
  have hb : Below B w (w.setCell ⟨b, 9, none⟩ (.slice V.z1 st.length V.z3)) := (Below.refl B w).setCell (p := ⟨b, 9, none⟩) h.lo _
  have ho : ∀ q, q ≠ b → (w.setCell ⟨b, 9, none⟩ (.slice V.z1 st.length V.z3)).heap[q]? = w.heap[q]? := fun q hq => Below.heap_setCell _ _ _ _ hq
  have hbl : (Value.slice V.z1 st.length V.z3).ownBlock = (Value.slice V.z1 V.z2 V.z3).ownBlock := by cases V.z1 <;> rfl
  refine ⟨⟨h.mb.upd 9 _ rfl, h.lo, h.lg, h.pi.kept hb (Nat.le_refl _), h.tx.below hb, row_kept h.cap (fun q hq => ho q (fun e => h.cap_b (by rw [← e]; exact hq))), row_kept r2 (fun q hq => ho q (fun e => h.row_b (by rw [← hbl, ← e]; exact hq))), h.met.keep (ho _ h.gm_b), rfl, h.okm, fun u hu => h.okt u (List.mem_cons_of_mem _ hu), ?_⟩, hb⟩
  have := h.stl
  simp only [List.length_cons] at this
  omega
end
end Go.Proofs.Ytodpmmlfdkdemaa
/- HELPERS: the document's meet, by the instruction's operation. Made by tools/gen_eb.py. -/
namespace Go.Proofs.Ytodpmmlfdkdemaa
open Go.RowKit Go.Lk
set_option linter.unusedVariables false
set_option linter.unusedSimpArgs false
theorem info79 : (Try.prog.info? 79).map (fun i => (i.zero, i.size, i.bytes)) = some (some (.agg #[.bool false, .int .i64 0, .int .i64 0, .int .i64 0, .int .i64 0]), 5, 40) := by kernel_rfl
theorem lt_of_cell' {w : World} {b o : Nat} {v : Value} (h : w.cell? ⟨b, o, none⟩ = some v) : b < w.heap.size := by
  rcases Nat.lt_or_ge b w.heap.size with h1 | h1
  · exact h1
  · have : w.heap[b]? = none := Array.getElem?_eq_none h1
    simp [World.cell?, this] at h
theorem met_at {w : World} {C : Ck} {m : List Pt} {i j : Nat} (h : Mets w C m) (hi : i < C.n) (ha : C.a ≤ j) (hj : j ≤ C.tn) : w.cell? ⟨C.gm, i * (C.tn - C.a + 1) + (j - C.a), none⟩ = some (.bool (decide ((i, j) ∈ m))) ∧ w.frozen? ⟨C.gm, i * (C.tn - C.a + 1) + (j - C.a), none⟩ = false := by
  obtain ⟨arr, h1, h2, h3⟩ := h
  exact ⟨by rw [Joins.cell_of_block h1]; exact h3 i j hi ha hj, Joins.unfrozen_of_block h1 _⟩
theorem Eqw.kept {w w' : World} (h : Eqw w w') {B b : Nat} {l : List In} {tx : List Int} {C : Ck} {V : Cv} {st : List Tk} {m : List Pt} {cp : List Int} (hd : DI w B b l tx C V st m cp) : DI w' B b l tx C V st m cp := hd.below (h.below _)
theorem Eqw.refl' (w : World) : Eqw w w := ⟨rfl, rfl, rfl, rfl⟩
set_option maxRecDepth 100000 in
set_option maxHeartbeats 4000000 in
theorem meet_old {w : World} {B b i j : Nat} {l : List In} {tx : List Int} {C : Ck} {V : Cv} {st : List Tk} {m : List Pt} {cp : List Int} (h : DI w B b l tx C V st m cp) (hc : DC l tx C) (hok : (Tk.go i j).ok C.n C.a C.tn C.K) (hvs : V.st ≤ 16777216) (hsl : st.length ≤ m.length) (hml : m.length ≤ 16777216) (hm : (i, j) ∈ m) :
    Calls Try.prog 27 #[.pointer (some ⟨b, 0, none⟩), .int .i64 (i : Int), .int .i64 (j : Int)] w fun e w' => e = .returned (.bool false) ∧ Eqw w w' := by
  obtain ⟨hi, ha, hj⟩ := hok
  have hmo := may_ok hc.may
  have hn20 : C.n ≤ 20000 := by have := hc.len; omega
  have htl := hc.tl
  have hK2 : C.K ≤ 1002 := by omega
  have hil : i < l.length := by have := hc.len; omega
  obtain ⟨k, hk⟩ : ∃ k, k = i * (C.tn - C.a + 1) + (j - C.a) := ⟨_, rfl⟩
  obtain ⟨mt, mf⟩ := met_at h.met hi ha hj
  rw [← hk] at mt mf
  have hkM : k < C.M := by
    obtain ⟨arr, h1, h2, h3⟩ := h.met
    have := h3 i j hi ha hj
    rw [← hk] at this
    have := (Array.getElem?_eq_some_iff.1 this).1
    omega
  have hMb := hc.big
  obtain ⟨d, hd⟩ : ∃ d, d = C.tn - C.a := ⟨_, rfl⟩
  obtain ⟨q, hq⟩ : ∃ q, q = C.tn - C.a + 1 := ⟨_, rfl⟩
  obtain ⟨e, he⟩ : ∃ e, e = i * q := ⟨_, rfl⟩
  have hek : e + (j - C.a) = k := by rw [hk, he, hq]
  have a0 : IntKind.i64.wrap ((C.tn : Int) - (C.a : Int)) = (d : Int) := by rw [wrap_ok _ (by omega) (by omega)]; omega
  have a1 : IntKind.i64.wrap ((d : Int) + 1) = (q : Int) := by rw [wrap_ok _ (by omega) (by omega)]; omega
  have a2 : IntKind.i64.wrap ((i : Int) * (q : Int)) = (e : Int) := by
    have : (i : Int) * (q : Int) = (e : Int) := by rw [he]; push_cast; rfl
    rw [this]; exact wrap_ok _ (by omega) (by omega)
  obtain ⟨f, hf⟩ : ∃ f, f = e + j := ⟨_, rfl⟩
  have a3 : IntKind.i64.wrap ((e : Int) + (j : Int)) = (f : Int) := by rw [wrap_ok _ (by omega) (by omega)]; omega
  have a4 : IntKind.i64.wrap ((f : Int) - (C.a : Int)) = (k : Int) := by rw [wrap_ok _ (by omega) (by omega)]; omega
  have b2 : (k : Int) < (C.M : Int) := by omega
  have c3 := h.mb.c 3
  have c4 := h.mb.c 4
  have c5 := h.mb.c 5
  simp at c3 c4 c5
  have H0 := hid h
  have HC := hid hc
  have HK := hid hk
  rw [show decide ((i, j) ∈ m) = true by simp [hm]] at mt
  clear hm
  clear h hc hk hd hq he hek hf hmo
  go_enter Try.func27, Try.ntmps27
  go_upto_region 1 with fail
  go_quiet (fail)
  obtain ⟨W0, hW0⟩ : ∃ W0, W0 = w.drewN nq := ⟨_, rfl⟩
  rw [← hW0]
  have HE0 : Hid (Eqw w W0) := by rw [hW0]; exact Eqw.drewN w nq
  clear hW0 c3 c4 a0 a1 a2 a3 a4
  replace c5 := (cell_eq (HE0.out.blk b) 5).trans c5
  replace mt := (cell_eq (HE0.out.blk C.gm) k).trans mt
  replace mf := (frz_eq (HE0.out.blk C.gm) k).trans mf
  go_wp2
  all_goals go_ret
  all_goals exact ⟨rfl, HE0.out⟩
set_option maxRecDepth 100000 in
set_option maxHeartbeats 8000000 in
theorem meet_fail {w : World} {B b i j : Nat} {l : List In} {tx : List Int} {C : Ck} {V : Cv} {st : List Tk} {m : List Pt} {cp : List Int} (h : DI w B b l tx C V st m cp) (hc : DC l tx C) (hok : (Tk.go i j).ok C.n C.a C.tn C.K) (hvs : V.st ≤ 16777216) (hsl : st.length ≤ m.length) (hml : m.length ≤ 16777216) (hm : (i, j) ∉ m) (hil0 : i < l.length) (hop : l[i].op = 6) :
    Calls Try.prog 27 #[.pointer (some ⟨b, 0, none⟩), .int .i64 (i : Int), .int .i64 (j : Int)] w fun e w' => e = .returned (.bool false) ∧ ∃ y1 y2 y3, DI w' B b l tx C { V with st := V.st + 1, z1 := y1, z2 := y2, z3 := y3 } st (m ++ [(i, j)]) cp ∧ Below B w w' ∧ act l tx j i = .stop := by
  obtain ⟨hi, ha, hj⟩ := hok
  have hmo := may_ok hc.may
  have hn20 : C.n ≤ 20000 := by have := hc.len; omega
  have htl := hc.tl
  have hK2 : C.K ≤ 1002 := by omega
  have hil : i < l.length := by have := hc.len; omega
  obtain ⟨k, hk⟩ : ∃ k, k = i * (C.tn - C.a + 1) + (j - C.a) := ⟨_, rfl⟩
  obtain ⟨mt, mf⟩ := met_at h.met hi ha hj
  rw [← hk] at mt mf
  have hkM : k < C.M := by
    obtain ⟨arr, h1, h2, h3⟩ := h.met
    have := h3 i j hi ha hj
    rw [← hk] at this
    have := (Array.getElem?_eq_some_iff.1 this).1
    omega
  have hMb := hc.big
  obtain ⟨d, hd⟩ : ∃ d, d = C.tn - C.a := ⟨_, rfl⟩
  obtain ⟨q, hq⟩ : ∃ q, q = C.tn - C.a + 1 := ⟨_, rfl⟩
  obtain ⟨e, he⟩ : ∃ e, e = i * q := ⟨_, rfl⟩
  have hek : e + (j - C.a) = k := by rw [hk, he, hq]
  have a0 : IntKind.i64.wrap ((C.tn : Int) - (C.a : Int)) = (d : Int) := by rw [wrap_ok _ (by omega) (by omega)]; omega
  have a1 : IntKind.i64.wrap ((d : Int) + 1) = (q : Int) := by rw [wrap_ok _ (by omega) (by omega)]; omega
  have a2 : IntKind.i64.wrap ((i : Int) * (q : Int)) = (e : Int) := by
    have : (i : Int) * (q : Int) = (e : Int) := by rw [he]; push_cast; rfl
    rw [this]; exact wrap_ok _ (by omega) (by omega)
  obtain ⟨f, hf⟩ : ∃ f, f = e + j := ⟨_, rfl⟩
  have a3 : IntKind.i64.wrap ((e : Int) + (j : Int)) = (f : Int) := by rw [wrap_ok _ (by omega) (by omega)]; omega
  have a4 : IntKind.i64.wrap ((f : Int) - (C.a : Int)) = (k : Int) := by rw [wrap_ok _ (by omega) (by omega)]; omega
  have b2 : (k : Int) < (C.M : Int) := by omega
  have c3 := h.mb.c 3
  have c4 := h.mb.c 4
  have c5 := h.mb.c 5
  simp at c3 c4 c5
  have H0 := hid h
  have HC := hid hc
  have HK := hid hk
  rw [show decide ((i, j) ∈ m) = false by simp [hm]] at mt
  have HM := hid hm
  have hmk := (Eqw.refl' w).kept h
  clear hm hmk
  clear h hc hk hd hq he hek hf hmo
  go_enter Try.func27, Try.ntmps27
  go_upto_region 1 with fail
  go_quiet (fail)
  obtain ⟨W0, hW0⟩ : ∃ W0, W0 = w.drewN nq := ⟨_, rfl⟩
  rw [← hW0]
  have HE0 : Hid (Eqw w W0) := by rw [hW0]; exact Eqw.drewN w nq
  clear hW0 c3 c4 a0 a1 a2 a3 a4
  replace c5 := (cell_eq (HE0.out.blk b) 5).trans c5
  replace mt := (cell_eq (HE0.out.blk C.gm) k).trans mt
  replace mf := (frz_eq (HE0.out.blk C.gm) k).trans mf
  have hD0 := HE0.out.kept H0.out
  obtain ⟨hD1, hB1⟩ := hD0.marked HC.out hi ha hj HM.out HK.out
  have r7 := hD1.mb.c 7
  have u7 := hD1.mb.u 7
  simp at r7
  obtain ⟨W1, hW1⟩ : ∃ W1, W1 = W0.setCell ⟨C.gm, k, none⟩ (.bool true) := ⟨_, rfl⟩
  rw [← hW1] at hD1 hB1 r7 u7
  have HW1 := hid hW1
  clear hW1
  obtain ⟨s1, hs1⟩ : ∃ s1, s1 = V.st + 1 := ⟨_, rfl⟩
  have a7 : IntKind.i64.wrap ((V.st : Int) + 1) = (s1 : Int) := by rw [wrap_ok _ (by omega) (by omega)]; omega
  obtain ⟨hD2, hB2⟩ := hD1.put (V' := { V with st := s1 }) 7 (.int .i64 (s1 : Int)) rfl ⟨rfl, rfl, rfl⟩ ⟨rfl, rfl, rfl⟩
  obtain ⟨W2, hW2⟩ : ∃ W2, W2 = W1.setCell ⟨b, 7, none⟩ (.int .i64 (s1 : Int)) := ⟨_, rfl⟩
  rw [← hW2] at hD2 hB2
  have HW2 := hid hW2
  have HS1 := hid hs1
  have HB2 := hid (((HE0.out.below B).trans hB1).trans hB2)
  have HD2 := hid hD2
  clear hW2 hs1 hD0 hD1 hB1 hB2
  go_upto_region 5 with fail
  rw [← HW1.out]
  clear HW1 c5 mt mf
  go_upto_region 6 with fail
  rw [← HW2.out]
  clear HW2 r7 u7 a7
  obtain ⟨pb, po, r1, r2, r3, hpa, hr2, hcs⟩ := pi_inst HD2.out.pi hil
  obtain ⟨⟨m0, n1, n2, n3, n4⟩, hrow⟩ := hcs W2 (Below.refl _ _)
  have hpb : pb < B := by
    obtain ⟨pb', po', ND, e', hpb', _⟩ := HD2.out.pi.mem (by have := HD2.out.pi.len; omega)
    rw [e'] at hpa
    simp only [Option.some.injEq, Addr.mk.injEq] at hpa
    omega
  have c0 := HD2.out.mb.c 0
  simp at c0
  rw [hpa] at c0
  have hin : (i : Int) < (C.n : Int) := by omega
  have HIOK := hid ((may_ok HC.out.may).2.2.2.2.2 _ (List.getElem_mem hil))
  obtain ⟨I, hI⟩ : ∃ I, I = l[i] := ⟨_, rfl⟩
  rw [← hI] at m0 n1 n2 n3 hr2 hrow HIOK hop
  have HI := hid hI
  have HACT : Hid (act l tx j i = actI tx I j) := by show act l tx j i = _; unfold act; rw [getD_in' hil, ← hI]
  have HR2 := hid hr2
  have HROW := hid hrow
  clear hI hr2 hrow hcs hpa
  rw [hop] at m0
  have HOP := hid hop
  clear hop
  have HN2 : Hid ((m ++ [(i, j)]).length ≤ 16777216) := by show _ ≤ _; have := HD2.out.okm.small; have := HC.out.M; omega
  obtain ⟨U, hU⟩ : ∃ U, U = W2.alloc (.cells #[.int .i64 6, .int .i64 I.x, .int .i64 I.y, .int .i64 I.a, .slice r1 r2 r3] 53) := ⟨_, rfl⟩
  obtain ⟨x, hx⟩ : ∃ x, x = W2.heap.size := ⟨_, rfl⟩
  have hbU : Below W2.heap.size W2 U := by rw [hU]; exact Joins.below_alloc1 W2 _
  have hX0 : U.heap[x]? = some (.cells #[.int .i64 6, .int .i64 I.x, .int .i64 I.y, .int .i64 I.a, .slice r1 r2 r3] 53 (0, 0)) := by rw [hU, hx]; exact heap_alloc_new W2 _
  have x0 := Joins.cell_of_block hX0 0
  have x1 := Joins.cell_of_block hX0 1
  have x2 := Joins.cell_of_block hX0 2
  have x3 := Joins.cell_of_block hX0 3
  have x4 := Joins.cell_of_block hX0 4
  simp at x0 x1 x2 x3 x4
  have hDU := HD2.out.below hbU
  have HDU := hid hDU
  have hBs := HD2.out.size
  have HBU := hid (HB2.out.trans (Joins.below_le hbU hBs))
  have hxU : x < U.heap.size := (Array.getElem?_eq_some_iff.1 hX0).1
  have hbx : b < x := by have := HD2.out.mb.lt; omega
  have hxb : x ≠ b := by omega
  have HBU2 := hid hbU
  have HXE := hid hx
  have HUE := hid hU
  have HXB := hid hX0
  clear hX0 hDU hbU hx hU
  go_upto_region 7 with fail
  rw [← HUE.out, ← HXE.out]
  clear HUE m0 n1 n2 n3 n4 c0
  go_wp2
  all_goals go_ret
  all_goals exact ⟨rfl, V.z1, V.z2, V.z3, by rw [← HS1.out]; exact HDU.out, HBU.out, by rw [HACT.out]; unfold actI; rw [HOP.out]; simp⟩
set_option maxRecDepth 100000 in
set_option maxHeartbeats 8000000 in
theorem meet_match {w : World} {B b i j : Nat} {l : List In} {tx : List Int} {C : Ck} {V : Cv} {st : List Tk} {m : List Pt} {cp : List Int} (h : DI w B b l tx C V st m cp) (hc : DC l tx C) (hok : (Tk.go i j).ok C.n C.a C.tn C.K) (hvs : V.st ≤ 16777216) (hsl : st.length ≤ m.length) (hml : m.length ≤ 16777216) (hm : (i, j) ∉ m) (hil0 : i < l.length) (hop : l[i].op = 5) :
    Calls Try.prog 27 #[.pointer (some ⟨b, 0, none⟩), .int .i64 (i : Int), .int .i64 (j : Int)] w fun e w' => e = .returned (.bool true) ∧ (∃ y, act l tx j i = .fit y ∧ DI w' B b l tx C { V with st := V.st + 1, wh := y } st (m ++ [(i, j)]) cp) ∧ Below B w w' := by
  obtain ⟨hi, ha, hj⟩ := hok
  have hmo := may_ok hc.may
  have hn20 : C.n ≤ 20000 := by have := hc.len; omega
  have htl := hc.tl
  have hK2 : C.K ≤ 1002 := by omega
  have hil : i < l.length := by have := hc.len; omega
  obtain ⟨k, hk⟩ : ∃ k, k = i * (C.tn - C.a + 1) + (j - C.a) := ⟨_, rfl⟩
  obtain ⟨mt, mf⟩ := met_at h.met hi ha hj
  rw [← hk] at mt mf
  have hkM : k < C.M := by
    obtain ⟨arr, h1, h2, h3⟩ := h.met
    have := h3 i j hi ha hj
    rw [← hk] at this
    have := (Array.getElem?_eq_some_iff.1 this).1
    omega
  have hMb := hc.big
  obtain ⟨d, hd⟩ : ∃ d, d = C.tn - C.a := ⟨_, rfl⟩
  obtain ⟨q, hq⟩ : ∃ q, q = C.tn - C.a + 1 := ⟨_, rfl⟩
  obtain ⟨e, he⟩ : ∃ e, e = i * q := ⟨_, rfl⟩
  have hek : e + (j - C.a) = k := by rw [hk, he, hq]
  have a0 : IntKind.i64.wrap ((C.tn : Int) - (C.a : Int)) = (d : Int) := by rw [wrap_ok _ (by omega) (by omega)]; omega
  have a1 : IntKind.i64.wrap ((d : Int) + 1) = (q : Int) := by rw [wrap_ok _ (by omega) (by omega)]; omega
  have a2 : IntKind.i64.wrap ((i : Int) * (q : Int)) = (e : Int) := by
    have : (i : Int) * (q : Int) = (e : Int) := by rw [he]; push_cast; rfl
    rw [this]; exact wrap_ok _ (by omega) (by omega)
  obtain ⟨f, hf⟩ : ∃ f, f = e + j := ⟨_, rfl⟩
  have a3 : IntKind.i64.wrap ((e : Int) + (j : Int)) = (f : Int) := by rw [wrap_ok _ (by omega) (by omega)]; omega
  have a4 : IntKind.i64.wrap ((f : Int) - (C.a : Int)) = (k : Int) := by rw [wrap_ok _ (by omega) (by omega)]; omega
  have b2 : (k : Int) < (C.M : Int) := by omega
  have c3 := h.mb.c 3
  have c4 := h.mb.c 4
  have c5 := h.mb.c 5
  simp at c3 c4 c5
  have H0 := hid h
  have HC := hid hc
  have HK := hid hk
  rw [show decide ((i, j) ∈ m) = false by simp [hm]] at mt
  have HM := hid hm
  have hmk := (Eqw.refl' w).kept h
  clear hm hmk
  clear h hc hk hd hq he hek hf hmo
  go_enter Try.func27, Try.ntmps27
  go_upto_region 1 with fail
  go_quiet (fail)
  obtain ⟨W0, hW0⟩ : ∃ W0, W0 = w.drewN nq := ⟨_, rfl⟩
  rw [← hW0]
  have HE0 : Hid (Eqw w W0) := by rw [hW0]; exact Eqw.drewN w nq
  clear hW0 c3 c4 a0 a1 a2 a3 a4
  replace c5 := (cell_eq (HE0.out.blk b) 5).trans c5
  replace mt := (cell_eq (HE0.out.blk C.gm) k).trans mt
  replace mf := (frz_eq (HE0.out.blk C.gm) k).trans mf
  have hD0 := HE0.out.kept H0.out
  obtain ⟨hD1, hB1⟩ := hD0.marked HC.out hi ha hj HM.out HK.out
  have r7 := hD1.mb.c 7
  have u7 := hD1.mb.u 7
  simp at r7
  obtain ⟨W1, hW1⟩ : ∃ W1, W1 = W0.setCell ⟨C.gm, k, none⟩ (.bool true) := ⟨_, rfl⟩
  rw [← hW1] at hD1 hB1 r7 u7
  have HW1 := hid hW1
  clear hW1
  obtain ⟨s1, hs1⟩ : ∃ s1, s1 = V.st + 1 := ⟨_, rfl⟩
  have a7 : IntKind.i64.wrap ((V.st : Int) + 1) = (s1 : Int) := by rw [wrap_ok _ (by omega) (by omega)]; omega
  obtain ⟨hD2, hB2⟩ := hD1.put (V' := { V with st := s1 }) 7 (.int .i64 (s1 : Int)) rfl ⟨rfl, rfl, rfl⟩ ⟨rfl, rfl, rfl⟩
  obtain ⟨W2, hW2⟩ : ∃ W2, W2 = W1.setCell ⟨b, 7, none⟩ (.int .i64 (s1 : Int)) := ⟨_, rfl⟩
  rw [← hW2] at hD2 hB2
  have HW2 := hid hW2
  have HS1 := hid hs1
  have HB2 := hid (((HE0.out.below B).trans hB1).trans hB2)
  have HD2 := hid hD2
  clear hW2 hs1 hD0 hD1 hB1 hB2
  go_upto_region 5 with fail
  rw [← HW1.out]
  clear HW1 c5 mt mf
  go_upto_region 6 with fail
  rw [← HW2.out]
  clear HW2 r7 u7 a7
  obtain ⟨pb, po, r1, r2, r3, hpa, hr2, hcs⟩ := pi_inst HD2.out.pi hil
  obtain ⟨⟨m0, n1, n2, n3, n4⟩, hrow⟩ := hcs W2 (Below.refl _ _)
  have hpb : pb < B := by
    obtain ⟨pb', po', ND, e', hpb', _⟩ := HD2.out.pi.mem (by have := HD2.out.pi.len; omega)
    rw [e'] at hpa
    simp only [Option.some.injEq, Addr.mk.injEq] at hpa
    omega
  have c0 := HD2.out.mb.c 0
  simp at c0
  rw [hpa] at c0
  have hin : (i : Int) < (C.n : Int) := by omega
  have HIOK := hid ((may_ok HC.out.may).2.2.2.2.2 _ (List.getElem_mem hil))
  obtain ⟨I, hI⟩ : ∃ I, I = l[i] := ⟨_, rfl⟩
  rw [← hI] at m0 n1 n2 n3 hr2 hrow HIOK hop
  have HI := hid hI
  have HACT : Hid (act l tx j i = actI tx I j) := by show act l tx j i = _; unfold act; rw [getD_in' hil, ← hI]
  have HR2 := hid hr2
  have HROW := hid hrow
  clear hI hr2 hrow hcs hpa
  rw [hop] at m0
  have HOP := hid hop
  clear hop
  have HN2 : Hid ((m ++ [(i, j)]).length ≤ 16777216) := by show _ ≤ _; have := HD2.out.okm.small; have := HC.out.M; omega
  obtain ⟨U, hU⟩ : ∃ U, U = W2.alloc (.cells #[.int .i64 5, .int .i64 I.x, .int .i64 I.y, .int .i64 I.a, .slice r1 r2 r3] 53) := ⟨_, rfl⟩
  obtain ⟨x, hx⟩ : ∃ x, x = W2.heap.size := ⟨_, rfl⟩
  have hbU : Below W2.heap.size W2 U := by rw [hU]; exact Joins.below_alloc1 W2 _
  have hX0 : U.heap[x]? = some (.cells #[.int .i64 5, .int .i64 I.x, .int .i64 I.y, .int .i64 I.a, .slice r1 r2 r3] 53 (0, 0)) := by rw [hU, hx]; exact heap_alloc_new W2 _
  have x0 := Joins.cell_of_block hX0 0
  have x1 := Joins.cell_of_block hX0 1
  have x2 := Joins.cell_of_block hX0 2
  have x3 := Joins.cell_of_block hX0 3
  have x4 := Joins.cell_of_block hX0 4
  simp at x0 x1 x2 x3 x4
  have hDU := HD2.out.below hbU
  have HDU := hid hDU
  have hBs := HD2.out.size
  have HBU := hid (HB2.out.trans (Joins.below_le hbU hBs))
  have hxU : x < U.heap.size := (Array.getElem?_eq_some_iff.1 hX0).1
  have hbx : b < x := by have := HD2.out.mb.lt; omega
  have hxb : x ≠ b := by omega
  have HBU2 := hid hbU
  have HXE := hid hx
  have HUE := hid hU
  have HXB := hid hX0
  clear hX0 hDU hbU hx hU
  go_upto_region 7 with fail
  rw [← HUE.out, ← HXE.out]
  clear HUE m0 n1 n2 n3 n4 c0
  have c8 := HDU.out.mb.c 8
  have u8 := HDU.out.mb.u 8
  simp at c8
  have HPU := hid (HDU.out.put (V' := { V with st := s1, wh := I.a }) 8 (.int .i64 I.a) rfl ⟨rfl, rfl, rfl⟩ ⟨rfl, rfl, rfl⟩)
  go_wp2
  all_goals go_ret
  all_goals exact ⟨rfl, ⟨I.a, by rw [HACT.out]; unfold actI; rw [HOP.out]; simp, by rw [← HS1.out]; exact HPU.out.1⟩, HBU.out.trans HPU.out.2⟩
set_option maxRecDepth 100000 in
set_option maxHeartbeats 8000000 in
theorem meet_nop {w : World} {B b i j : Nat} {l : List In} {tx : List Int} {C : Ck} {V : Cv} {st : List Tk} {m : List Pt} {cp : List Int} (h : DI w B b l tx C V st m cp) (hc : DC l tx C) (hok : (Tk.go i j).ok C.n C.a C.tn C.K) (hvs : V.st ≤ 16777216) (hsl : st.length ≤ m.length) (hml : m.length ≤ 16777216) (hm : (i, j) ∉ m) (hil0 : i < l.length) (hop : l[i].op = 7) :
    Calls Try.prog 27 #[.pointer (some ⟨b, 0, none⟩), .int .i64 (i : Int), .int .i64 (j : Int)] w fun e w' => e = .returned (.bool false) ∧ (∃ x, act l tx j i = .go x ∧ ∃ y1 y2 y3, DI w' B b l tx C { V with st := V.st + 1, z1 := y1, z2 := y2, z3 := y3 } (.go x j :: st) (m ++ [(i, j)]) cp) ∧ Below B w w' := by
  obtain ⟨hi, ha, hj⟩ := hok
  have hmo := may_ok hc.may
  have hn20 : C.n ≤ 20000 := by have := hc.len; omega
  have htl := hc.tl
  have hK2 : C.K ≤ 1002 := by omega
  have hil : i < l.length := by have := hc.len; omega
  obtain ⟨k, hk⟩ : ∃ k, k = i * (C.tn - C.a + 1) + (j - C.a) := ⟨_, rfl⟩
  obtain ⟨mt, mf⟩ := met_at h.met hi ha hj
  rw [← hk] at mt mf
  have hkM : k < C.M := by
    obtain ⟨arr, h1, h2, h3⟩ := h.met
    have := h3 i j hi ha hj
    rw [← hk] at this
    have := (Array.getElem?_eq_some_iff.1 this).1
    omega
  have hMb := hc.big
  obtain ⟨d, hd⟩ : ∃ d, d = C.tn - C.a := ⟨_, rfl⟩
  obtain ⟨q, hq⟩ : ∃ q, q = C.tn - C.a + 1 := ⟨_, rfl⟩
  obtain ⟨e, he⟩ : ∃ e, e = i * q := ⟨_, rfl⟩
  have hek : e + (j - C.a) = k := by rw [hk, he, hq]
  have a0 : IntKind.i64.wrap ((C.tn : Int) - (C.a : Int)) = (d : Int) := by rw [wrap_ok _ (by omega) (by omega)]; omega
  have a1 : IntKind.i64.wrap ((d : Int) + 1) = (q : Int) := by rw [wrap_ok _ (by omega) (by omega)]; omega
  have a2 : IntKind.i64.wrap ((i : Int) * (q : Int)) = (e : Int) := by
    have : (i : Int) * (q : Int) = (e : Int) := by rw [he]; push_cast; rfl
    rw [this]; exact wrap_ok _ (by omega) (by omega)
  obtain ⟨f, hf⟩ : ∃ f, f = e + j := ⟨_, rfl⟩
  have a3 : IntKind.i64.wrap ((e : Int) + (j : Int)) = (f : Int) := by rw [wrap_ok _ (by omega) (by omega)]; omega
  have a4 : IntKind.i64.wrap ((f : Int) - (C.a : Int)) = (k : Int) := by rw [wrap_ok _ (by omega) (by omega)]; omega
  have b2 : (k : Int) < (C.M : Int) := by omega
  have c3 := h.mb.c 3
  have c4 := h.mb.c 4
  have c5 := h.mb.c 5
  simp at c3 c4 c5
  have H0 := hid h
  have HC := hid hc
  have HK := hid hk
  rw [show decide ((i, j) ∈ m) = false by simp [hm]] at mt
  have HM := hid hm
  have hmk := (Eqw.refl' w).kept h
  clear hm hmk
  clear h hc hk hd hq he hek hf hmo
  go_enter Try.func27, Try.ntmps27
  go_upto_region 1 with fail
  go_quiet (fail)
  obtain ⟨W0, hW0⟩ : ∃ W0, W0 = w.drewN nq := ⟨_, rfl⟩
  rw [← hW0]
  have HE0 : Hid (Eqw w W0) := by rw [hW0]; exact Eqw.drewN w nq
  clear hW0 c3 c4 a0 a1 a2 a3 a4
  replace c5 := (cell_eq (HE0.out.blk b) 5).trans c5
  replace mt := (cell_eq (HE0.out.blk C.gm) k).trans mt
  replace mf := (frz_eq (HE0.out.blk C.gm) k).trans mf
  have hD0 := HE0.out.kept H0.out
  obtain ⟨hD1, hB1⟩ := hD0.marked HC.out hi ha hj HM.out HK.out
  have r7 := hD1.mb.c 7
  have u7 := hD1.mb.u 7
  simp at r7
  obtain ⟨W1, hW1⟩ : ∃ W1, W1 = W0.setCell ⟨C.gm, k, none⟩ (.bool true) := ⟨_, rfl⟩
  rw [← hW1] at hD1 hB1 r7 u7
  have HW1 := hid hW1
  clear hW1
  obtain ⟨s1, hs1⟩ : ∃ s1, s1 = V.st + 1 := ⟨_, rfl⟩
  have a7 : IntKind.i64.wrap ((V.st : Int) + 1) = (s1 : Int) := by rw [wrap_ok _ (by omega) (by omega)]; omega
  obtain ⟨hD2, hB2⟩ := hD1.put (V' := { V with st := s1 }) 7 (.int .i64 (s1 : Int)) rfl ⟨rfl, rfl, rfl⟩ ⟨rfl, rfl, rfl⟩
  obtain ⟨W2, hW2⟩ : ∃ W2, W2 = W1.setCell ⟨b, 7, none⟩ (.int .i64 (s1 : Int)) := ⟨_, rfl⟩
  rw [← hW2] at hD2 hB2
  have HW2 := hid hW2
  have HS1 := hid hs1
  have HB2 := hid (((HE0.out.below B).trans hB1).trans hB2)
  have HD2 := hid hD2
  clear hW2 hs1 hD0 hD1 hB1 hB2
  go_upto_region 5 with fail
  rw [← HW1.out]
  clear HW1 c5 mt mf
  go_upto_region 6 with fail
  rw [← HW2.out]
  clear HW2 r7 u7 a7
  obtain ⟨pb, po, r1, r2, r3, hpa, hr2, hcs⟩ := pi_inst HD2.out.pi hil
  obtain ⟨⟨m0, n1, n2, n3, n4⟩, hrow⟩ := hcs W2 (Below.refl _ _)
  have hpb : pb < B := by
    obtain ⟨pb', po', ND, e', hpb', _⟩ := HD2.out.pi.mem (by have := HD2.out.pi.len; omega)
    rw [e'] at hpa
    simp only [Option.some.injEq, Addr.mk.injEq] at hpa
    omega
  have c0 := HD2.out.mb.c 0
  simp at c0
  rw [hpa] at c0
  have hin : (i : Int) < (C.n : Int) := by omega
  have HIOK := hid ((may_ok HC.out.may).2.2.2.2.2 _ (List.getElem_mem hil))
  obtain ⟨I, hI⟩ : ∃ I, I = l[i] := ⟨_, rfl⟩
  rw [← hI] at m0 n1 n2 n3 hr2 hrow HIOK hop
  have HI := hid hI
  have HACT : Hid (act l tx j i = actI tx I j) := by show act l tx j i = _; unfold act; rw [getD_in' hil, ← hI]
  have HR2 := hid hr2
  have HROW := hid hrow
  clear hI hr2 hrow hcs hpa
  rw [hop] at m0
  have HOP := hid hop
  clear hop
  have HN2 : Hid ((m ++ [(i, j)]).length ≤ 16777216) := by show _ ≤ _; have := HD2.out.okm.small; have := HC.out.M; omega
  have hx' := ok_x HIOK.out (by rw [HOP.out]; rfl)
  obtain ⟨xx, hxe⟩ := Int.eq_ofNat_of_zero_le hx'.1
  have hxl : xx < C.n := by have := HC.out.len; omega
  have HXX := hid hxe
  rw [hxe] at n1
  obtain ⟨U, hU⟩ : ∃ U, U = W2.alloc (.cells #[.int .i64 7, .int .i64 (xx : Int), .int .i64 I.y, .int .i64 I.a, .slice r1 r2 r3] 53) := ⟨_, rfl⟩
  obtain ⟨x, hx⟩ : ∃ x, x = W2.heap.size := ⟨_, rfl⟩
  have hbU : Below W2.heap.size W2 U := by rw [hU]; exact Joins.below_alloc1 W2 _
  have hX0 : U.heap[x]? = some (.cells #[.int .i64 7, .int .i64 (xx : Int), .int .i64 I.y, .int .i64 I.a, .slice r1 r2 r3] 53 (0, 0)) := by rw [hU, hx]; exact heap_alloc_new W2 _
  have x0 := Joins.cell_of_block hX0 0
  have x1 := Joins.cell_of_block hX0 1
  have x2 := Joins.cell_of_block hX0 2
  have x3 := Joins.cell_of_block hX0 3
  have x4 := Joins.cell_of_block hX0 4
  simp at x0 x1 x2 x3 x4
  have hDU := HD2.out.below hbU
  have HDU := hid hDU
  have hBs := HD2.out.size
  have HBU := hid (HB2.out.trans (Joins.below_le hbU hBs))
  have hxU : x < U.heap.size := (Array.getElem?_eq_some_iff.1 hX0).1
  have hbx : b < x := by have := HD2.out.mb.lt; omega
  have hxb : x ≠ b := by omega
  have HBU2 := hid hbU
  have HXE := hid hx
  have HUE := hid hU
  have HXB := hid hX0
  clear hX0 hDU hbU hx hU
  go_upto_region 7 with fail
  rw [← HUE.out, ← HXE.out]
  clear HUE m0 n1 n2 n3 n4 c0
  have hzx : (Value.slice V.z1 V.z2 V.z3).ownBlock ≠ some x := fun e => by have := (HD2.out.row.lt x e).2; have := HXE.out; omega
  go_upto_region 28 with fail
  have HXLT : Hid (x < U.heap.size) := hxU
  have z9 := HDU.out.mb.c 9
  simp at z9
  refine wp_region_lex 9 13 (fun W => W.cell? ⟨b, 9, none⟩ = some (.slice V.z1 V.z2 V.z3) ∧ W.cell? ⟨x, 1, none⟩ = some (.int .i64 (xx : Int))) (by kernel_rfl) (by kernel_rfl) (by decide) (by kernel_rfl) (by kernel_rfl) ⟨z9, x1⟩ ?_
  simp only [List.take_succ_cons, List.take_zero, List.drop_succ_cons, List.drop_zero]
  iterate 9
    refine lex_cons ?_ rfl (fun W hW => ?_) (fun _ _ _ h => h) ?_
    rotate_left
    · obtain ⟨s0, s1⟩ := hW
      go_simp <;> with_reducible rfl
    simp only [Act.put, List.setIfInBounds_toArray, List.set_cons_zero, List.set_cons_succ]
  obtain ⟨A, hA⟩ : ∃ A, A = (U.alloc (.cells #[.bool false, .int .i64 (xx : Int), .int .i64 (j : Int), .int .i64 0, .int .i64 0] 79)).drew := ⟨_, rfl⟩
  have hAw : Below U.heap.size U A := by rw [hA]; exact (Joins.below_alloc1 U _).trans ((Eqw.drew _).below _)
  have hAX : A.heap[U.heap.size]? = some (.cells #[.bool false, .int .i64 (xx : Int), .int .i64 (j : Int), .int .i64 0, .int .i64 0] 79 (0, 0)) := by rw [hA]; exact heap_alloc_new U _
  have hDA := HDU.out.below hAw
  have HROWA := hid hDA.row
  have hAs : B ≤ A.heap.size := hDA.size
  have a9 : A.cell? ⟨b, 9, none⟩ = some (.slice V.z1 V.z2 V.z3) := by have := hDA.mb.c 9; simpa using this
  have as0 : A.cell? ⟨x, 1, none⟩ = some (.int .i64 (xx : Int)) := (hAw.cell (p := ⟨x, 1, none⟩) (lt_of_cell' x1)).trans x1
  have hzl := HDU.out.zl
  have hstl := HDU.out.stl
  have HZL := hid hzl
  dsimp only at hzl HROWA
  have hzs : V.z2 ≤ 16777300 := by have := HN2.out; (try simp only [List.length_cons] at hzl); simp only [List.length_append, List.length_cons, List.length_nil] at this hstl; omega
  have HAW := hid hAw
  obtain ⟨wl, hwl⟩ : ∃ wl, wl = U.heap.size := ⟨_, rfl⟩
  rw [← hwl] at hAX
  have HAE := hid hA
  have HWL := hid hwl
  clear hDA hAw hzl hstl hA hwl
  refine lex_nil (tail_cons fun KK hKK => ?_)
  go_simp
  rw [← HAE.out, ← HWL.out]
  refine hKK.out _ _ (fun _ => ⟨a9, as0⟩) (tail_cons fun KK hKK => ?_)
  obtain ⟨i2, hi2, hz20, hz21, hz22⟩ := info_parts info79
  refine step_append_row rfl (.tmp 173) (.tmp 178) 47 rfl B 79 i2 (.agg #[.bool false, .int .i64 0, .int .i64 0, .int .i64 0, .int .i64 0]) 5 40 Try.underlying47 hi2 hz20 hz21 hz22 rfl (by decide) (.slice V.z1 V.z2 V.z3) V.z2 (sdk st) (by simp [Act.eval, Act.put]) (by exact HROWA.out) wl 1 1 #[.bool false, .int .i64 (xx : Int), .int .i64 (j : Int), .int .i64 0, .int .i64 0] 79 (by simp [Act.eval, Act.put]) hAX rfl (by decide) (by simp [Value.oneCell']) (by unfold maxLen; omega) (by omega) hAs ?_
  intro v3 wa ho3 hf3
  obtain ⟨y1, y3, rfl, _⟩ := row_shape ho3.out
  obtain ⟨p1, p2, p3⟩ := HDU.out.pushed (ts := [.go xx j]) (k := V.z2 + 1) HAW.out (fun t ht => by simp at ht; subst ht; exact ⟨hxl, ha, hj⟩) (by simp; omega) rfl ho3.out hf3.out
  have w9 := p3.c 9
  have v9 := p3.u 9
  simp at w9
  have ws0 : wa.cell? ⟨x, 1, none⟩ = some (.int .i64 (xx : Int)) := (cell_eq (hf3.out.block x (lt_of_cell' as0) hzx) 1).trans as0
  have HSS : Hid (wa.cell? ⟨b, 9, none⟩ = some (.slice V.z1 V.z2 V.z3) ∧ wa.cell? ⟨x, 1, none⟩ = some (.int .i64 (xx : Int))) := ⟨w9, ws0⟩
  have hkx0 : (wa.setCell ⟨b, 9, none⟩ (.slice y1 (V.z2 + 1) y3)).heap[x]? = U.heap[x]? := (Below.heap_setCell _ _ _ _ hxb).trans ((hf3.out.block x (Nat.lt_of_lt_of_le HXLT.out HAW.out.size) hzx).trans (HAW.out.block x HXLT.out))
  have HP1 := hid p1
  have HP2 := hid p2
  have HKX := hid hkx0
  clear p1 p2 p3
  refine hKK.out _ _ (fun _ => HSS.out) (tail_cons fun KK hKK => ?_)
  simp only [Act.put, List.setIfInBounds_toArray, List.set_cons_zero, List.set_cons_succ]
  go_simp
  refine hKK.out _ _ (fun _ => HSS.out) (tail_cons fun KK hKK => ?_)
  simp only [Act.put, List.setIfInBounds_toArray, List.set_cons_zero, List.set_cons_succ]
  go_simp
  refine hKK.out _ _ (fun _ => HSS.out) (tail_cons fun KK hKK => ?_)
  simp only [Act.put, List.setIfInBounds_toArray, List.set_cons_zero, List.set_cons_succ]
  go_simp
  refine hKK.out _ _ (fun h => absurd rfl h) (tail_nil ?_)
  obtain ⟨WF, hWF⟩ : ∃ WF, WF = wa.setCell ⟨b, 9, none⟩ (.slice y1 (V.z2 + 1) y3) := ⟨_, rfl⟩
  rw [← hWF] at HP1 HP2 HKX ⊢
  clear hkx0 hWF w9 v9 ho3 hf3 HSS HROWA a9 hAX z9 HAE HWL HAW
  go_wp2
  all_goals go_ret
  all_goals exact ⟨rfl, ⟨xx, by rw [HACT.out]; unfold actI; rw [HOP.out, HXX.out]; simp, _, _, _, by rw [← HS1.out]; exact HP1.out⟩, HBU.out.trans HP2.out⟩
set_option maxRecDepth 100000 in
set_option maxHeartbeats 8000000 in
theorem meet_alt {w : World} {B b i j : Nat} {l : List In} {tx : List Int} {C : Ck} {V : Cv} {st : List Tk} {m : List Pt} {cp : List Int} (h : DI w B b l tx C V st m cp) (hc : DC l tx C) (hok : (Tk.go i j).ok C.n C.a C.tn C.K) (hvs : V.st ≤ 16777216) (hsl : st.length ≤ m.length) (hml : m.length ≤ 16777216) (hm : (i, j) ∉ m) (hil0 : i < l.length) (hop : l[i].op = 2) :
    Calls Try.prog 27 #[.pointer (some ⟨b, 0, none⟩), .int .i64 (i : Int), .int .i64 (j : Int)] w fun e w' => e = .returned (.bool false) ∧ (∃ x y, act l tx j i = .alt x y ∧ ∃ y1 y2 y3, DI w' B b l tx C { V with st := V.st + 1, z1 := y1, z2 := y2, z3 := y3 } (.go x j :: .go y j :: st) (m ++ [(i, j)]) cp) ∧ Below B w w' := by
  obtain ⟨hi, ha, hj⟩ := hok
  have hmo := may_ok hc.may
  have hn20 : C.n ≤ 20000 := by have := hc.len; omega
  have htl := hc.tl
  have hK2 : C.K ≤ 1002 := by omega
  have hil : i < l.length := by have := hc.len; omega
  obtain ⟨k, hk⟩ : ∃ k, k = i * (C.tn - C.a + 1) + (j - C.a) := ⟨_, rfl⟩
  obtain ⟨mt, mf⟩ := met_at h.met hi ha hj
  rw [← hk] at mt mf
  have hkM : k < C.M := by
    obtain ⟨arr, h1, h2, h3⟩ := h.met
    have := h3 i j hi ha hj
    rw [← hk] at this
    have := (Array.getElem?_eq_some_iff.1 this).1
    omega
  have hMb := hc.big
  obtain ⟨d, hd⟩ : ∃ d, d = C.tn - C.a := ⟨_, rfl⟩
  obtain ⟨q, hq⟩ : ∃ q, q = C.tn - C.a + 1 := ⟨_, rfl⟩
  obtain ⟨e, he⟩ : ∃ e, e = i * q := ⟨_, rfl⟩
  have hek : e + (j - C.a) = k := by rw [hk, he, hq]
  have a0 : IntKind.i64.wrap ((C.tn : Int) - (C.a : Int)) = (d : Int) := by rw [wrap_ok _ (by omega) (by omega)]; omega
  have a1 : IntKind.i64.wrap ((d : Int) + 1) = (q : Int) := by rw [wrap_ok _ (by omega) (by omega)]; omega
  have a2 : IntKind.i64.wrap ((i : Int) * (q : Int)) = (e : Int) := by
    have : (i : Int) * (q : Int) = (e : Int) := by rw [he]; push_cast; rfl
    rw [this]; exact wrap_ok _ (by omega) (by omega)
  obtain ⟨f, hf⟩ : ∃ f, f = e + j := ⟨_, rfl⟩
  have a3 : IntKind.i64.wrap ((e : Int) + (j : Int)) = (f : Int) := by rw [wrap_ok _ (by omega) (by omega)]; omega
  have a4 : IntKind.i64.wrap ((f : Int) - (C.a : Int)) = (k : Int) := by rw [wrap_ok _ (by omega) (by omega)]; omega
  have b2 : (k : Int) < (C.M : Int) := by omega
  have c3 := h.mb.c 3
  have c4 := h.mb.c 4
  have c5 := h.mb.c 5
  simp at c3 c4 c5
  have H0 := hid h
  have HC := hid hc
  have HK := hid hk
  rw [show decide ((i, j) ∈ m) = false by simp [hm]] at mt
  have HM := hid hm
  have hmk := (Eqw.refl' w).kept h
  clear hm hmk
  clear h hc hk hd hq he hek hf hmo
  go_enter Try.func27, Try.ntmps27
  go_upto_region 1 with fail
  go_quiet (fail)
  obtain ⟨W0, hW0⟩ : ∃ W0, W0 = w.drewN nq := ⟨_, rfl⟩
  rw [← hW0]
  have HE0 : Hid (Eqw w W0) := by rw [hW0]; exact Eqw.drewN w nq
  clear hW0 c3 c4 a0 a1 a2 a3 a4
  replace c5 := (cell_eq (HE0.out.blk b) 5).trans c5
  replace mt := (cell_eq (HE0.out.blk C.gm) k).trans mt
  replace mf := (frz_eq (HE0.out.blk C.gm) k).trans mf
  have hD0 := HE0.out.kept H0.out
  obtain ⟨hD1, hB1⟩ := hD0.marked HC.out hi ha hj HM.out HK.out
  have r7 := hD1.mb.c 7
  have u7 := hD1.mb.u 7
  simp at r7
  obtain ⟨W1, hW1⟩ : ∃ W1, W1 = W0.setCell ⟨C.gm, k, none⟩ (.bool true) := ⟨_, rfl⟩
  rw [← hW1] at hD1 hB1 r7 u7
  have HW1 := hid hW1
  clear hW1
  obtain ⟨s1, hs1⟩ : ∃ s1, s1 = V.st + 1 := ⟨_, rfl⟩
  have a7 : IntKind.i64.wrap ((V.st : Int) + 1) = (s1 : Int) := by rw [wrap_ok _ (by omega) (by omega)]; omega
  obtain ⟨hD2, hB2⟩ := hD1.put (V' := { V with st := s1 }) 7 (.int .i64 (s1 : Int)) rfl ⟨rfl, rfl, rfl⟩ ⟨rfl, rfl, rfl⟩
  obtain ⟨W2, hW2⟩ : ∃ W2, W2 = W1.setCell ⟨b, 7, none⟩ (.int .i64 (s1 : Int)) := ⟨_, rfl⟩
  rw [← hW2] at hD2 hB2
  have HW2 := hid hW2
  have HS1 := hid hs1
  have HB2 := hid (((HE0.out.below B).trans hB1).trans hB2)
  have HD2 := hid hD2
  clear hW2 hs1 hD0 hD1 hB1 hB2
  go_upto_region 5 with fail
  rw [← HW1.out]
  clear HW1 c5 mt mf
  go_upto_region 6 with fail
  rw [← HW2.out]
  clear HW2 r7 u7 a7
  obtain ⟨pb, po, r1, r2, r3, hpa, hr2, hcs⟩ := pi_inst HD2.out.pi hil
  obtain ⟨⟨m0, n1, n2, n3, n4⟩, hrow⟩ := hcs W2 (Below.refl _ _)
  have hpb : pb < B := by
    obtain ⟨pb', po', ND, e', hpb', _⟩ := HD2.out.pi.mem (by have := HD2.out.pi.len; omega)
    rw [e'] at hpa
    simp only [Option.some.injEq, Addr.mk.injEq] at hpa
    omega
  have c0 := HD2.out.mb.c 0
  simp at c0
  rw [hpa] at c0
  have hin : (i : Int) < (C.n : Int) := by omega
  have HIOK := hid ((may_ok HC.out.may).2.2.2.2.2 _ (List.getElem_mem hil))
  obtain ⟨I, hI⟩ : ∃ I, I = l[i] := ⟨_, rfl⟩
  rw [← hI] at m0 n1 n2 n3 hr2 hrow HIOK hop
  have HI := hid hI
  have HACT : Hid (act l tx j i = actI tx I j) := by show act l tx j i = _; unfold act; rw [getD_in' hil, ← hI]
  have HR2 := hid hr2
  have HROW := hid hrow
  clear hI hr2 hrow hcs hpa
  rw [hop] at m0
  have HOP := hid hop
  clear hop
  have HN2 : Hid ((m ++ [(i, j)]).length ≤ 16777216) := by show _ ≤ _; have := HD2.out.okm.small; have := HC.out.M; omega
  have hx' := ok_x HIOK.out (by rw [HOP.out]; rfl)
  obtain ⟨xx, hxe⟩ := Int.eq_ofNat_of_zero_le hx'.1
  have hxl : xx < C.n := by have := HC.out.len; omega
  have HXX := hid hxe
  rw [hxe] at n1
  have hy' := ok_y HIOK.out (by rw [HOP.out]; rfl)
  obtain ⟨yy, hye⟩ := Int.eq_ofNat_of_zero_le hy'.1
  have hyl : yy < C.n := by have := HC.out.len; omega
  have HYY := hid hye
  rw [hye] at n2
  obtain ⟨U, hU⟩ : ∃ U, U = W2.alloc (.cells #[.int .i64 2, .int .i64 (xx : Int), .int .i64 (yy : Int), .int .i64 I.a, .slice r1 r2 r3] 53) := ⟨_, rfl⟩
  obtain ⟨x, hx⟩ : ∃ x, x = W2.heap.size := ⟨_, rfl⟩
  have hbU : Below W2.heap.size W2 U := by rw [hU]; exact Joins.below_alloc1 W2 _
  have hX0 : U.heap[x]? = some (.cells #[.int .i64 2, .int .i64 (xx : Int), .int .i64 (yy : Int), .int .i64 I.a, .slice r1 r2 r3] 53 (0, 0)) := by rw [hU, hx]; exact heap_alloc_new W2 _
  have x0 := Joins.cell_of_block hX0 0
  have x1 := Joins.cell_of_block hX0 1
  have x2 := Joins.cell_of_block hX0 2
  have x3 := Joins.cell_of_block hX0 3
  have x4 := Joins.cell_of_block hX0 4
  simp at x0 x1 x2 x3 x4
  have hDU := HD2.out.below hbU
  have HDU := hid hDU
  have hBs := HD2.out.size
  have HBU := hid (HB2.out.trans (Joins.below_le hbU hBs))
  have hxU : x < U.heap.size := (Array.getElem?_eq_some_iff.1 hX0).1
  have hbx : b < x := by have := HD2.out.mb.lt; omega
  have hxb : x ≠ b := by omega
  have HBU2 := hid hbU
  have HXE := hid hx
  have HUE := hid hU
  have HXB := hid hX0
  clear hX0 hDU hbU hx hU
  go_upto_region 7 with fail
  rw [← HUE.out, ← HXE.out]
  clear HUE m0 n1 n2 n3 n4 c0
  have hzx : (Value.slice V.z1 V.z2 V.z3).ownBlock ≠ some x := fun e => by have := (HD2.out.row.lt x e).2; have := HXE.out; omega
  go_upto_region 14 with fail
  have HXLT : Hid (x < U.heap.size) := hxU
  have z9 := HDU.out.mb.c 9
  simp at z9
  refine wp_region_lex 13 17 (fun W => W.cell? ⟨b, 9, none⟩ = some (.slice V.z1 V.z2 V.z3) ∧ W.cell? ⟨x, 1, none⟩ = some (.int .i64 (xx : Int)) ∧ W.cell? ⟨x, 2, none⟩ = some (.int .i64 (yy : Int))) (by kernel_rfl) (by kernel_rfl) (by decide) (by kernel_rfl) (by kernel_rfl) ⟨z9, x1, x2⟩ ?_
  simp only [List.take_succ_cons, List.take_zero, List.drop_succ_cons, List.drop_zero]
  iterate 13
    refine lex_cons ?_ rfl (fun W hW => ?_) (fun _ _ _ h => h) ?_
    rotate_left
    · obtain ⟨s0, s1, s2⟩ := hW
      go_simp <;> with_reducible rfl
    simp only [Act.put, List.setIfInBounds_toArray, List.set_cons_zero, List.set_cons_succ]
  obtain ⟨A, hA⟩ : ∃ A, A = (U.alloc (.cells #[.bool false, .int .i64 (yy : Int), .int .i64 (j : Int), .int .i64 0, .int .i64 0, .bool false, .int .i64 (xx : Int), .int .i64 (j : Int), .int .i64 0, .int .i64 0] 79)).drew := ⟨_, rfl⟩
  have hAw : Below U.heap.size U A := by rw [hA]; exact (Joins.below_alloc1 U _).trans ((Eqw.drew _).below _)
  have hAX : A.heap[U.heap.size]? = some (.cells #[.bool false, .int .i64 (yy : Int), .int .i64 (j : Int), .int .i64 0, .int .i64 0, .bool false, .int .i64 (xx : Int), .int .i64 (j : Int), .int .i64 0, .int .i64 0] 79 (0, 0)) := by rw [hA]; exact heap_alloc_new U _
  have hDA := HDU.out.below hAw
  have HROWA := hid hDA.row
  have hAs : B ≤ A.heap.size := hDA.size
  have a9 : A.cell? ⟨b, 9, none⟩ = some (.slice V.z1 V.z2 V.z3) := by have := hDA.mb.c 9; simpa using this
  have as0 : A.cell? ⟨x, 1, none⟩ = some (.int .i64 (xx : Int)) := (hAw.cell (p := ⟨x, 1, none⟩) (lt_of_cell' x1)).trans x1
  have as1 : A.cell? ⟨x, 2, none⟩ = some (.int .i64 (yy : Int)) := (hAw.cell (p := ⟨x, 2, none⟩) (lt_of_cell' x2)).trans x2
  have hzl := HDU.out.zl
  have hstl := HDU.out.stl
  have HZL := hid hzl
  dsimp only at hzl HROWA
  have hzs : V.z2 ≤ 16777300 := by have := HN2.out; (try simp only [List.length_cons] at hzl); simp only [List.length_append, List.length_cons, List.length_nil] at this hstl; omega
  have HAW := hid hAw
  obtain ⟨wl, hwl⟩ : ∃ wl, wl = U.heap.size := ⟨_, rfl⟩
  rw [← hwl] at hAX
  have HAE := hid hA
  have HWL := hid hwl
  clear hDA hAw hzl hstl hA hwl
  refine lex_nil (tail_cons fun KK hKK => ?_)
  go_simp
  rw [← HAE.out, ← HWL.out]
  refine hKK.out _ _ (fun _ => ⟨a9, as0, as1⟩) (tail_cons fun KK hKK => ?_)
  obtain ⟨i2, hi2, hz20, hz21, hz22⟩ := info_parts info79
  refine step_append_row rfl (.tmp 104) (.tmp 113) 47 rfl B 79 i2 (.agg #[.bool false, .int .i64 0, .int .i64 0, .int .i64 0, .int .i64 0]) 5 40 Try.underlying47 hi2 hz20 hz21 hz22 rfl (by decide) (.slice V.z1 V.z2 V.z3) V.z2 (sdk st) (by simp [Act.eval, Act.put]) (by exact HROWA.out) wl 2 2 #[.bool false, .int .i64 (yy : Int), .int .i64 (j : Int), .int .i64 0, .int .i64 0, .bool false, .int .i64 (xx : Int), .int .i64 (j : Int), .int .i64 0, .int .i64 0] 79 (by simp [Act.eval, Act.put]) hAX rfl (by decide) (by simp [Value.oneCell']) (by unfold maxLen; omega) (by omega) hAs ?_
  intro v3 wa ho3 hf3
  obtain ⟨y1, y3, rfl, _⟩ := row_shape ho3.out
  obtain ⟨p1, p2, p3⟩ := HDU.out.pushed (ts := [.go xx j, .go yy j]) (k := V.z2 + 2) HAW.out (fun t ht => by simp at ht; rcases ht with rfl | rfl; exact ⟨hxl, ha, hj⟩; exact ⟨hyl, ha, hj⟩) (by simp; omega) rfl ho3.out hf3.out
  have w9 := p3.c 9
  have v9 := p3.u 9
  simp at w9
  have ws0 : wa.cell? ⟨x, 1, none⟩ = some (.int .i64 (xx : Int)) := (cell_eq (hf3.out.block x (lt_of_cell' as0) hzx) 1).trans as0
  have ws1 : wa.cell? ⟨x, 2, none⟩ = some (.int .i64 (yy : Int)) := (cell_eq (hf3.out.block x (lt_of_cell' as1) hzx) 2).trans as1
  have HSS : Hid (wa.cell? ⟨b, 9, none⟩ = some (.slice V.z1 V.z2 V.z3) ∧ wa.cell? ⟨x, 1, none⟩ = some (.int .i64 (xx : Int)) ∧ wa.cell? ⟨x, 2, none⟩ = some (.int .i64 (yy : Int))) := ⟨w9, ws0, ws1⟩
  have hkx0 : (wa.setCell ⟨b, 9, none⟩ (.slice y1 (V.z2 + 2) y3)).heap[x]? = U.heap[x]? := (Below.heap_setCell _ _ _ _ hxb).trans ((hf3.out.block x (Nat.lt_of_lt_of_le HXLT.out HAW.out.size) hzx).trans (HAW.out.block x HXLT.out))
  have HP1 := hid p1
  have HP2 := hid p2
  have HKX := hid hkx0
  clear p1 p2 p3
  refine hKK.out _ _ (fun _ => HSS.out) (tail_cons fun KK hKK => ?_)
  simp only [Act.put, List.setIfInBounds_toArray, List.set_cons_zero, List.set_cons_succ]
  go_simp
  refine hKK.out _ _ (fun _ => HSS.out) (tail_cons fun KK hKK => ?_)
  simp only [Act.put, List.setIfInBounds_toArray, List.set_cons_zero, List.set_cons_succ]
  go_simp
  refine hKK.out _ _ (fun _ => HSS.out) (tail_cons fun KK hKK => ?_)
  simp only [Act.put, List.setIfInBounds_toArray, List.set_cons_zero, List.set_cons_succ]
  go_simp
  refine hKK.out _ _ (fun h => absurd rfl h) (tail_nil ?_)
  obtain ⟨WF, hWF⟩ : ∃ WF, WF = wa.setCell ⟨b, 9, none⟩ (.slice y1 (V.z2 + 2) y3) := ⟨_, rfl⟩
  rw [← hWF] at HP1 HP2 HKX ⊢
  clear hkx0 hWF w9 v9 ho3 hf3 HSS HROWA a9 hAX z9 HAE HWL HAW
  go_wp2
  all_goals go_ret
  all_goals exact ⟨rfl, ⟨xx, yy, by rw [HACT.out]; unfold actI; rw [HOP.out, HXX.out, HYY.out]; simp, _, _, _, by rw [← HS1.out]; exact HP1.out⟩, HBU.out.trans HP2.out⟩
set_option maxRecDepth 100000 in
set_option maxHeartbeats 8000000 in
theorem meet_assert_f {w : World} {B b i j : Nat} {l : List In} {tx : List Int} {C : Ck} {V : Cv} {st : List Tk} {m : List Pt} {cp : List Int} (h : DI w B b l tx C V st m cp) (hc : DC l tx C) (hok : (Tk.go i j).ok C.n C.a C.tn C.K) (hvs : V.st ≤ 16777216) (hsl : st.length ≤ m.length) (hml : m.length ≤ 16777216) (hm : (i, j) ∉ m) (hil0 : i < l.length) (hop : l[i].op = 4) (hX : holdsB l[i].a (atP tx j) = false) :
    Calls Try.prog 27 #[.pointer (some ⟨b, 0, none⟩), .int .i64 (i : Int), .int .i64 (j : Int)] w fun e w' => e = .returned (.bool false) ∧ act l tx j i = .stop ∧ (∃ y1 y2 y3, DI w' B b l tx C { V with st := V.st + 1, z1 := y1, z2 := y2, z3 := y3 } st (m ++ [(i, j)]) cp) ∧ Below B w w' := by
  obtain ⟨hi, ha, hj⟩ := hok
  have hmo := may_ok hc.may
  have hn20 : C.n ≤ 20000 := by have := hc.len; omega
  have htl := hc.tl
  have hK2 : C.K ≤ 1002 := by omega
  have hil : i < l.length := by have := hc.len; omega
  obtain ⟨k, hk⟩ : ∃ k, k = i * (C.tn - C.a + 1) + (j - C.a) := ⟨_, rfl⟩
  obtain ⟨mt, mf⟩ := met_at h.met hi ha hj
  rw [← hk] at mt mf
  have hkM : k < C.M := by
    obtain ⟨arr, h1, h2, h3⟩ := h.met
    have := h3 i j hi ha hj
    rw [← hk] at this
    have := (Array.getElem?_eq_some_iff.1 this).1
    omega
  have hMb := hc.big
  obtain ⟨d, hd⟩ : ∃ d, d = C.tn - C.a := ⟨_, rfl⟩
  obtain ⟨q, hq⟩ : ∃ q, q = C.tn - C.a + 1 := ⟨_, rfl⟩
  obtain ⟨e, he⟩ : ∃ e, e = i * q := ⟨_, rfl⟩
  have hek : e + (j - C.a) = k := by rw [hk, he, hq]
  have a0 : IntKind.i64.wrap ((C.tn : Int) - (C.a : Int)) = (d : Int) := by rw [wrap_ok _ (by omega) (by omega)]; omega
  have a1 : IntKind.i64.wrap ((d : Int) + 1) = (q : Int) := by rw [wrap_ok _ (by omega) (by omega)]; omega
  have a2 : IntKind.i64.wrap ((i : Int) * (q : Int)) = (e : Int) := by
    have : (i : Int) * (q : Int) = (e : Int) := by rw [he]; push_cast; rfl
    rw [this]; exact wrap_ok _ (by omega) (by omega)
  obtain ⟨f, hf⟩ : ∃ f, f = e + j := ⟨_, rfl⟩
  have a3 : IntKind.i64.wrap ((e : Int) + (j : Int)) = (f : Int) := by rw [wrap_ok _ (by omega) (by omega)]; omega
  have a4 : IntKind.i64.wrap ((f : Int) - (C.a : Int)) = (k : Int) := by rw [wrap_ok _ (by omega) (by omega)]; omega
  have b2 : (k : Int) < (C.M : Int) := by omega
  have c3 := h.mb.c 3
  have c4 := h.mb.c 4
  have c5 := h.mb.c 5
  simp at c3 c4 c5
  have H0 := hid h
  have HC := hid hc
  have HK := hid hk
  rw [show decide ((i, j) ∈ m) = false by simp [hm]] at mt
  have HM := hid hm
  have hmk := (Eqw.refl' w).kept h
  clear hm hmk
  clear h hc hk hd hq he hek hf hmo
  go_enter Try.func27, Try.ntmps27
  go_upto_region 1 with fail
  go_quiet (fail)
  obtain ⟨W0, hW0⟩ : ∃ W0, W0 = w.drewN nq := ⟨_, rfl⟩
  rw [← hW0]
  have HE0 : Hid (Eqw w W0) := by rw [hW0]; exact Eqw.drewN w nq
  clear hW0 c3 c4 a0 a1 a2 a3 a4
  replace c5 := (cell_eq (HE0.out.blk b) 5).trans c5
  replace mt := (cell_eq (HE0.out.blk C.gm) k).trans mt
  replace mf := (frz_eq (HE0.out.blk C.gm) k).trans mf
  have hD0 := HE0.out.kept H0.out
  obtain ⟨hD1, hB1⟩ := hD0.marked HC.out hi ha hj HM.out HK.out
  have r7 := hD1.mb.c 7
  have u7 := hD1.mb.u 7
  simp at r7
  obtain ⟨W1, hW1⟩ : ∃ W1, W1 = W0.setCell ⟨C.gm, k, none⟩ (.bool true) := ⟨_, rfl⟩
  rw [← hW1] at hD1 hB1 r7 u7
  have HW1 := hid hW1
  clear hW1
  obtain ⟨s1, hs1⟩ : ∃ s1, s1 = V.st + 1 := ⟨_, rfl⟩
  have a7 : IntKind.i64.wrap ((V.st : Int) + 1) = (s1 : Int) := by rw [wrap_ok _ (by omega) (by omega)]; omega
  obtain ⟨hD2, hB2⟩ := hD1.put (V' := { V with st := s1 }) 7 (.int .i64 (s1 : Int)) rfl ⟨rfl, rfl, rfl⟩ ⟨rfl, rfl, rfl⟩
  obtain ⟨W2, hW2⟩ : ∃ W2, W2 = W1.setCell ⟨b, 7, none⟩ (.int .i64 (s1 : Int)) := ⟨_, rfl⟩
  rw [← hW2] at hD2 hB2
  have HW2 := hid hW2
  have HS1 := hid hs1
  have HB2 := hid (((HE0.out.below B).trans hB1).trans hB2)
  have HD2 := hid hD2
  clear hW2 hs1 hD0 hD1 hB1 hB2
  go_upto_region 5 with fail
  rw [← HW1.out]
  clear HW1 c5 mt mf
  go_upto_region 6 with fail
  rw [← HW2.out]
  clear HW2 r7 u7 a7
  obtain ⟨pb, po, r1, r2, r3, hpa, hr2, hcs⟩ := pi_inst HD2.out.pi hil
  obtain ⟨⟨m0, n1, n2, n3, n4⟩, hrow⟩ := hcs W2 (Below.refl _ _)
  have hpb : pb < B := by
    obtain ⟨pb', po', ND, e', hpb', _⟩ := HD2.out.pi.mem (by have := HD2.out.pi.len; omega)
    rw [e'] at hpa
    simp only [Option.some.injEq, Addr.mk.injEq] at hpa
    omega
  have c0 := HD2.out.mb.c 0
  simp at c0
  rw [hpa] at c0
  have hin : (i : Int) < (C.n : Int) := by omega
  have HIOK := hid ((may_ok HC.out.may).2.2.2.2.2 _ (List.getElem_mem hil))
  obtain ⟨I, hI⟩ : ∃ I, I = l[i] := ⟨_, rfl⟩
  rw [← hI] at m0 n1 n2 n3 hr2 hrow HIOK hop
  have HI := hid hI
  have HACT : Hid (act l tx j i = actI tx I j) := by show act l tx j i = _; unfold act; rw [getD_in' hil, ← hI]
  have HR2 := hid hr2
  have HROW := hid hrow
  clear hI hr2 hrow hcs hpa
  rw [hop] at m0
  have HOP := hid hop
  clear hop
  have HN2 : Hid ((m ++ [(i, j)]).length ≤ 16777216) := by show _ ≤ _; have := HD2.out.okm.small; have := HC.out.M; omega
  rw [← HI.out] at hX
  have hx' := ok_x HIOK.out (by rw [HOP.out]; rfl)
  obtain ⟨xx, hxe⟩ := Int.eq_ofNat_of_zero_le hx'.1
  have hxl : xx < C.n := by have := HC.out.len; omega
  have HXX := hid hxe
  rw [hxe] at n1
  obtain ⟨oa, hoa⟩ : ∃ oa, oa = I.a := ⟨_, rfl⟩
  rw [← hoa] at n3
  obtain ⟨t, ht⟩ : ∃ t, t = atP tx j := ⟨_, rfl⟩
  have HOA := hid hoa
  have HTT := hid ht
  clear hoa ht
  obtain ⟨U, hU⟩ : ∃ U, U = W2.alloc (.cells #[.int .i64 4, .int .i64 (xx : Int), .int .i64 I.y, .int .i64 oa, .slice r1 r2 r3] 53) := ⟨_, rfl⟩
  obtain ⟨x, hx⟩ : ∃ x, x = W2.heap.size := ⟨_, rfl⟩
  have hbU : Below W2.heap.size W2 U := by rw [hU]; exact Joins.below_alloc1 W2 _
  have hX0 : U.heap[x]? = some (.cells #[.int .i64 4, .int .i64 (xx : Int), .int .i64 I.y, .int .i64 oa, .slice r1 r2 r3] 53 (0, 0)) := by rw [hU, hx]; exact heap_alloc_new W2 _
  have x0 := Joins.cell_of_block hX0 0
  have x1 := Joins.cell_of_block hX0 1
  have x2 := Joins.cell_of_block hX0 2
  have x3 := Joins.cell_of_block hX0 3
  have x4 := Joins.cell_of_block hX0 4
  simp at x0 x1 x2 x3 x4
  have hDU := HD2.out.below hbU
  have HDU := hid hDU
  have hBs := HD2.out.size
  have HBU := hid (HB2.out.trans (Joins.below_le hbU hBs))
  have hxU : x < U.heap.size := (Array.getElem?_eq_some_iff.1 hX0).1
  have hbx : b < x := by have := HD2.out.mb.lt; omega
  have hxb : x ≠ b := by omega
  have HBU2 := hid hbU
  have HXE := hid hx
  have HUE := hid hU
  have HXB := hid hX0
  clear hX0 hDU hbU hx hU
  go_upto_region 7 with fail
  rw [← HUE.out, ← HXE.out]
  clear HUE m0 n1 n2 n3 n4 c0
  have hzx : (Value.slice V.z1 V.z2 V.z3).ownBlock ≠ some x := fun e => by have := (HD2.out.row.lt x e).2; have := HXE.out; omega
  have HA := ref_in tx C.tad C.tn C.tc j U B HDU.out.tx hj
  rw [← HTT.out] at HA
  have HH := holds57 oa t U
  have t3 := HDU.out.mb.c 3
  simp at t3
  rw [← HOA.out, ← HTT.out] at hX
  rw [hX] at HH
  have HX := hid hX
  clear hX
  go_wp2_with (first | (go_at_call 41; (with_reducible refine HA.mono ?_); rintro e wv ⟨rfl, hwv⟩; have hwv' := hwv.symm; subst hwv'; clear HA hwv) | (go_at_call 42; (with_reducible refine HH.mono ?_); rintro e wv ⟨rfl, hwv⟩; have hwv' := hwv.symm; subst hwv'; clear HH hwv))
  all_goals go_ret
  all_goals exact ⟨rfl, by rw [HACT.out]; unfold actI; rw [HOP.out, ← HOA.out, ← HTT.out, HX.out]; simp, ⟨V.z1, V.z2, V.z3, by rw [← HS1.out]; exact HDU.out⟩, HBU.out⟩
set_option maxRecDepth 100000 in
set_option maxHeartbeats 8000000 in
theorem meet_assert_t {w : World} {B b i j : Nat} {l : List In} {tx : List Int} {C : Ck} {V : Cv} {st : List Tk} {m : List Pt} {cp : List Int} (h : DI w B b l tx C V st m cp) (hc : DC l tx C) (hok : (Tk.go i j).ok C.n C.a C.tn C.K) (hvs : V.st ≤ 16777216) (hsl : st.length ≤ m.length) (hml : m.length ≤ 16777216) (hm : (i, j) ∉ m) (hil0 : i < l.length) (hop : l[i].op = 4) (hX : holdsB l[i].a (atP tx j) = true) :
    Calls Try.prog 27 #[.pointer (some ⟨b, 0, none⟩), .int .i64 (i : Int), .int .i64 (j : Int)] w fun e w' => e = .returned (.bool false) ∧ (∃ x, act l tx j i = .go x ∧ ∃ y1 y2 y3, DI w' B b l tx C { V with st := V.st + 1, z1 := y1, z2 := y2, z3 := y3 } (.go x j :: st) (m ++ [(i, j)]) cp) ∧ Below B w w' := by
  obtain ⟨hi, ha, hj⟩ := hok
  have hmo := may_ok hc.may
  have hn20 : C.n ≤ 20000 := by have := hc.len; omega
  have htl := hc.tl
  have hK2 : C.K ≤ 1002 := by omega
  have hil : i < l.length := by have := hc.len; omega
  obtain ⟨k, hk⟩ : ∃ k, k = i * (C.tn - C.a + 1) + (j - C.a) := ⟨_, rfl⟩
  obtain ⟨mt, mf⟩ := met_at h.met hi ha hj
  rw [← hk] at mt mf
  have hkM : k < C.M := by
    obtain ⟨arr, h1, h2, h3⟩ := h.met
    have := h3 i j hi ha hj
    rw [← hk] at this
    have := (Array.getElem?_eq_some_iff.1 this).1
    omega
  have hMb := hc.big
  obtain ⟨d, hd⟩ : ∃ d, d = C.tn - C.a := ⟨_, rfl⟩
  obtain ⟨q, hq⟩ : ∃ q, q = C.tn - C.a + 1 := ⟨_, rfl⟩
  obtain ⟨e, he⟩ : ∃ e, e = i * q := ⟨_, rfl⟩
  have hek : e + (j - C.a) = k := by rw [hk, he, hq]
  have a0 : IntKind.i64.wrap ((C.tn : Int) - (C.a : Int)) = (d : Int) := by rw [wrap_ok _ (by omega) (by omega)]; omega
  have a1 : IntKind.i64.wrap ((d : Int) + 1) = (q : Int) := by rw [wrap_ok _ (by omega) (by omega)]; omega
  have a2 : IntKind.i64.wrap ((i : Int) * (q : Int)) = (e : Int) := by
    have : (i : Int) * (q : Int) = (e : Int) := by rw [he]; push_cast; rfl
    rw [this]; exact wrap_ok _ (by omega) (by omega)
  obtain ⟨f, hf⟩ : ∃ f, f = e + j := ⟨_, rfl⟩
  have a3 : IntKind.i64.wrap ((e : Int) + (j : Int)) = (f : Int) := by rw [wrap_ok _ (by omega) (by omega)]; omega
  have a4 : IntKind.i64.wrap ((f : Int) - (C.a : Int)) = (k : Int) := by rw [wrap_ok _ (by omega) (by omega)]; omega
  have b2 : (k : Int) < (C.M : Int) := by omega
  have c3 := h.mb.c 3
  have c4 := h.mb.c 4
  have c5 := h.mb.c 5
  simp at c3 c4 c5
  have H0 := hid h
  have HC := hid hc
  have HK := hid hk
  rw [show decide ((i, j) ∈ m) = false by simp [hm]] at mt
  have HM := hid hm
  have hmk := (Eqw.refl' w).kept h
  clear hm hmk
  clear h hc hk hd hq he hek hf hmo
  go_enter Try.func27, Try.ntmps27
  go_upto_region 1 with fail
  go_quiet (fail)
  obtain ⟨W0, hW0⟩ : ∃ W0, W0 = w.drewN nq := ⟨_, rfl⟩
  rw [← hW0]
  have HE0 : Hid (Eqw w W0) := by rw [hW0]; exact Eqw.drewN w nq
  clear hW0 c3 c4 a0 a1 a2 a3 a4
  replace c5 := (cell_eq (HE0.out.blk b) 5).trans c5
  replace mt := (cell_eq (HE0.out.blk C.gm) k).trans mt
  replace mf := (frz_eq (HE0.out.blk C.gm) k).trans mf
  have hD0 := HE0.out.kept H0.out
  obtain ⟨hD1, hB1⟩ := hD0.marked HC.out hi ha hj HM.out HK.out
  have r7 := hD1.mb.c 7
  have u7 := hD1.mb.u 7
  simp at r7
  obtain ⟨W1, hW1⟩ : ∃ W1, W1 = W0.setCell ⟨C.gm, k, none⟩ (.bool true) := ⟨_, rfl⟩
  rw [← hW1] at hD1 hB1 r7 u7
  have HW1 := hid hW1
  clear hW1
  obtain ⟨s1, hs1⟩ : ∃ s1, s1 = V.st + 1 := ⟨_, rfl⟩
  have a7 : IntKind.i64.wrap ((V.st : Int) + 1) = (s1 : Int) := by rw [wrap_ok _ (by omega) (by omega)]; omega
  obtain ⟨hD2, hB2⟩ := hD1.put (V' := { V with st := s1 }) 7 (.int .i64 (s1 : Int)) rfl ⟨rfl, rfl, rfl⟩ ⟨rfl, rfl, rfl⟩
  obtain ⟨W2, hW2⟩ : ∃ W2, W2 = W1.setCell ⟨b, 7, none⟩ (.int .i64 (s1 : Int)) := ⟨_, rfl⟩
  rw [← hW2] at hD2 hB2
  have HW2 := hid hW2
  have HS1 := hid hs1
  have HB2 := hid (((HE0.out.below B).trans hB1).trans hB2)
  have HD2 := hid hD2
  clear hW2 hs1 hD0 hD1 hB1 hB2
  go_upto_region 5 with fail
  rw [← HW1.out]
  clear HW1 c5 mt mf
  go_upto_region 6 with fail
  rw [← HW2.out]
  clear HW2 r7 u7 a7
  obtain ⟨pb, po, r1, r2, r3, hpa, hr2, hcs⟩ := pi_inst HD2.out.pi hil
  obtain ⟨⟨m0, n1, n2, n3, n4⟩, hrow⟩ := hcs W2 (Below.refl _ _)
  have hpb : pb < B := by
    obtain ⟨pb', po', ND, e', hpb', _⟩ := HD2.out.pi.mem (by have := HD2.out.pi.len; omega)
    rw [e'] at hpa
    simp only [Option.some.injEq, Addr.mk.injEq] at hpa
    omega
  have c0 := HD2.out.mb.c 0
  simp at c0
  rw [hpa] at c0
  have hin : (i : Int) < (C.n : Int) := by omega
  have HIOK := hid ((may_ok HC.out.may).2.2.2.2.2 _ (List.getElem_mem hil))
  obtain ⟨I, hI⟩ : ∃ I, I = l[i] := ⟨_, rfl⟩
  rw [← hI] at m0 n1 n2 n3 hr2 hrow HIOK hop
  have HI := hid hI
  have HACT : Hid (act l tx j i = actI tx I j) := by show act l tx j i = _; unfold act; rw [getD_in' hil, ← hI]
  have HR2 := hid hr2
  have HROW := hid hrow
  clear hI hr2 hrow hcs hpa
  rw [hop] at m0
  have HOP := hid hop
  clear hop
  have HN2 : Hid ((m ++ [(i, j)]).length ≤ 16777216) := by show _ ≤ _; have := HD2.out.okm.small; have := HC.out.M; omega
  rw [← HI.out] at hX
  have hx' := ok_x HIOK.out (by rw [HOP.out]; rfl)
  obtain ⟨xx, hxe⟩ := Int.eq_ofNat_of_zero_le hx'.1
  have hxl : xx < C.n := by have := HC.out.len; omega
  have HXX := hid hxe
  rw [hxe] at n1
  obtain ⟨oa, hoa⟩ : ∃ oa, oa = I.a := ⟨_, rfl⟩
  rw [← hoa] at n3
  obtain ⟨t, ht⟩ : ∃ t, t = atP tx j := ⟨_, rfl⟩
  have HOA := hid hoa
  have HTT := hid ht
  clear hoa ht
  obtain ⟨U, hU⟩ : ∃ U, U = W2.alloc (.cells #[.int .i64 4, .int .i64 (xx : Int), .int .i64 I.y, .int .i64 oa, .slice r1 r2 r3] 53) := ⟨_, rfl⟩
  obtain ⟨x, hx⟩ : ∃ x, x = W2.heap.size := ⟨_, rfl⟩
  have hbU : Below W2.heap.size W2 U := by rw [hU]; exact Joins.below_alloc1 W2 _
  have hX0 : U.heap[x]? = some (.cells #[.int .i64 4, .int .i64 (xx : Int), .int .i64 I.y, .int .i64 oa, .slice r1 r2 r3] 53 (0, 0)) := by rw [hU, hx]; exact heap_alloc_new W2 _
  have x0 := Joins.cell_of_block hX0 0
  have x1 := Joins.cell_of_block hX0 1
  have x2 := Joins.cell_of_block hX0 2
  have x3 := Joins.cell_of_block hX0 3
  have x4 := Joins.cell_of_block hX0 4
  simp at x0 x1 x2 x3 x4
  have hDU := HD2.out.below hbU
  have HDU := hid hDU
  have hBs := HD2.out.size
  have HBU := hid (HB2.out.trans (Joins.below_le hbU hBs))
  have hxU : x < U.heap.size := (Array.getElem?_eq_some_iff.1 hX0).1
  have hbx : b < x := by have := HD2.out.mb.lt; omega
  have hxb : x ≠ b := by omega
  have HBU2 := hid hbU
  have HXE := hid hx
  have HUE := hid hU
  have HXB := hid hX0
  clear hX0 hDU hbU hx hU
  go_upto_region 7 with fail
  rw [← HUE.out, ← HXE.out]
  clear HUE m0 n1 n2 n3 n4 c0
  have hzx : (Value.slice V.z1 V.z2 V.z3).ownBlock ≠ some x := fun e => by have := (HD2.out.row.lt x e).2; have := HXE.out; omega
  have HA := ref_in tx C.tad C.tn C.tc j U B HDU.out.tx hj
  rw [← HTT.out] at HA
  have HH := holds57 oa t U
  have t3 := HDU.out.mb.c 3
  simp at t3
  rw [← HOA.out, ← HTT.out] at hX
  rw [hX] at HH
  have HX := hid hX
  clear hX
  go_upto_region 27 with (first | (go_at_call 41; (with_reducible refine HA.mono ?_); rintro e wv ⟨rfl, hwv⟩; have hwv' := hwv.symm; subst hwv'; clear HA hwv) | (go_at_call 42; (with_reducible refine HH.mono ?_); rintro e wv ⟨rfl, hwv⟩; have hwv' := hwv.symm; subst hwv'; clear HH hwv))
  go_upto_region 28 with fail
  have HXLT : Hid (x < U.heap.size) := hxU
  have z9 := HDU.out.mb.c 9
  simp at z9
  refine wp_region_lex 9 13 (fun W => W.cell? ⟨b, 9, none⟩ = some (.slice V.z1 V.z2 V.z3) ∧ W.cell? ⟨x, 1, none⟩ = some (.int .i64 (xx : Int))) (by kernel_rfl) (by kernel_rfl) (by decide) (by kernel_rfl) (by kernel_rfl) ⟨z9, x1⟩ ?_
  simp only [List.take_succ_cons, List.take_zero, List.drop_succ_cons, List.drop_zero]
  iterate 9
    refine lex_cons ?_ rfl (fun W hW => ?_) (fun _ _ _ h => h) ?_
    rotate_left
    · obtain ⟨s0, s1⟩ := hW
      go_simp <;> with_reducible rfl
    simp only [Act.put, List.setIfInBounds_toArray, List.set_cons_zero, List.set_cons_succ]
  obtain ⟨A, hA⟩ : ∃ A, A = (U.alloc (.cells #[.bool false, .int .i64 (xx : Int), .int .i64 (j : Int), .int .i64 0, .int .i64 0] 79)).drew := ⟨_, rfl⟩
  have hAw : Below U.heap.size U A := by rw [hA]; exact (Joins.below_alloc1 U _).trans ((Eqw.drew _).below _)
  have hAX : A.heap[U.heap.size]? = some (.cells #[.bool false, .int .i64 (xx : Int), .int .i64 (j : Int), .int .i64 0, .int .i64 0] 79 (0, 0)) := by rw [hA]; exact heap_alloc_new U _
  have hDA := HDU.out.below hAw
  have HROWA := hid hDA.row
  have hAs : B ≤ A.heap.size := hDA.size
  have a9 : A.cell? ⟨b, 9, none⟩ = some (.slice V.z1 V.z2 V.z3) := by have := hDA.mb.c 9; simpa using this
  have as0 : A.cell? ⟨x, 1, none⟩ = some (.int .i64 (xx : Int)) := (hAw.cell (p := ⟨x, 1, none⟩) (lt_of_cell' x1)).trans x1
  have hzl := HDU.out.zl
  have hstl := HDU.out.stl
  have HZL := hid hzl
  dsimp only at hzl HROWA
  have hzs : V.z2 ≤ 16777300 := by have := HN2.out; (try simp only [List.length_cons] at hzl); simp only [List.length_append, List.length_cons, List.length_nil] at this hstl; omega
  have HAW := hid hAw
  obtain ⟨wl, hwl⟩ : ∃ wl, wl = U.heap.size := ⟨_, rfl⟩
  rw [← hwl] at hAX
  have HAE := hid hA
  have HWL := hid hwl
  clear hDA hAw hzl hstl hA hwl
  refine lex_nil (tail_cons fun KK hKK => ?_)
  go_simp
  rw [← HAE.out, ← HWL.out]
  refine hKK.out _ _ (fun _ => ⟨a9, as0⟩) (tail_cons fun KK hKK => ?_)
  obtain ⟨i2, hi2, hz20, hz21, hz22⟩ := info_parts info79
  refine step_append_row rfl (.tmp 173) (.tmp 178) 47 rfl B 79 i2 (.agg #[.bool false, .int .i64 0, .int .i64 0, .int .i64 0, .int .i64 0]) 5 40 Try.underlying47 hi2 hz20 hz21 hz22 rfl (by decide) (.slice V.z1 V.z2 V.z3) V.z2 (sdk st) (by simp [Act.eval, Act.put]) (by exact HROWA.out) wl 1 1 #[.bool false, .int .i64 (xx : Int), .int .i64 (j : Int), .int .i64 0, .int .i64 0] 79 (by simp [Act.eval, Act.put]) hAX rfl (by decide) (by simp [Value.oneCell']) (by unfold maxLen; omega) (by omega) hAs ?_
  intro v3 wa ho3 hf3
  obtain ⟨y1, y3, rfl, _⟩ := row_shape ho3.out
  obtain ⟨p1, p2, p3⟩ := HDU.out.pushed (ts := [.go xx j]) (k := V.z2 + 1) HAW.out (fun t ht => by simp at ht; subst ht; exact ⟨hxl, ha, hj⟩) (by simp; omega) rfl ho3.out hf3.out
  have w9 := p3.c 9
  have v9 := p3.u 9
  simp at w9
  have ws0 : wa.cell? ⟨x, 1, none⟩ = some (.int .i64 (xx : Int)) := (cell_eq (hf3.out.block x (lt_of_cell' as0) hzx) 1).trans as0
  have HSS : Hid (wa.cell? ⟨b, 9, none⟩ = some (.slice V.z1 V.z2 V.z3) ∧ wa.cell? ⟨x, 1, none⟩ = some (.int .i64 (xx : Int))) := ⟨w9, ws0⟩
  have hkx0 : (wa.setCell ⟨b, 9, none⟩ (.slice y1 (V.z2 + 1) y3)).heap[x]? = U.heap[x]? := (Below.heap_setCell _ _ _ _ hxb).trans ((hf3.out.block x (Nat.lt_of_lt_of_le HXLT.out HAW.out.size) hzx).trans (HAW.out.block x HXLT.out))
  have HP1 := hid p1
  have HP2 := hid p2
  have HKX := hid hkx0
  clear p1 p2 p3
  refine hKK.out _ _ (fun _ => HSS.out) (tail_cons fun KK hKK => ?_)
  simp only [Act.put, List.setIfInBounds_toArray, List.set_cons_zero, List.set_cons_succ]
  go_simp
  refine hKK.out _ _ (fun _ => HSS.out) (tail_cons fun KK hKK => ?_)
  simp only [Act.put, List.setIfInBounds_toArray, List.set_cons_zero, List.set_cons_succ]
  go_simp
  refine hKK.out _ _ (fun _ => HSS.out) (tail_cons fun KK hKK => ?_)
  simp only [Act.put, List.setIfInBounds_toArray, List.set_cons_zero, List.set_cons_succ]
  go_simp
  refine hKK.out _ _ (fun h => absurd rfl h) (tail_nil ?_)
  obtain ⟨WF, hWF⟩ : ∃ WF, WF = wa.setCell ⟨b, 9, none⟩ (.slice y1 (V.z2 + 1) y3) := ⟨_, rfl⟩
  rw [← hWF] at HP1 HP2 HKX ⊢
  clear hkx0 hWF w9 v9 ho3 hf3 HSS HROWA a9 hAX z9 HAE HWL HAW
  go_wp2
  all_goals go_ret
  all_goals exact ⟨rfl, ⟨xx, by rw [HACT.out]; unfold actI; rw [HOP.out, HXX.out, ← HOA.out, ← HTT.out, HX.out]; simp, _, _, _, by rw [← HS1.out]; exact HP1.out⟩, HBU.out.trans HP2.out⟩
end Go.Proofs.Ytodpmmlfdkdemaa
/- HELPERS: the document's meet: captures, runes. Made by tools/gen_eb.py. -/
namespace Go.Proofs.Ytodpmmlfdkdemaa
open Go.RowKit Go.Lk
set_option linter.unusedVariables false
set_option linter.unusedSimpArgs false
set_option maxRecDepth 100000 in
set_option maxHeartbeats 8000000 in
theorem meet_cap {w : World} {B b i j : Nat} {l : List In} {tx : List Int} {C : Ck} {V : Cv} {st : List Tk} {m : List Pt} {cp : List Int} (h : DI w B b l tx C V st m cp) (hc : DC l tx C) (hok : (Tk.go i j).ok C.n C.a C.tn C.K) (hvs : V.st ≤ 16777216) (hsl : st.length ≤ m.length) (hml : m.length ≤ 16777216) (hm : (i, j) ∉ m) (hil0 : i < l.length) (hop : l[i].op = 3) {ub : Nat} (hu1 : V.u1 = some ⟨ub, 0, none⟩) (hu2 : V.u2 = C.K) (hcl : cp.length = C.K) (hoc : okC C.tn cp) :
    Calls Try.prog 27 #[.pointer (some ⟨b, 0, none⟩), .int .i64 (i : Int), .int .i64 (j : Int)] w fun e w' => e = .returned (.bool false) ∧ (∃ x a, act l tx j i = .cap x a ∧ ∃ y1 y2 y3, DI w' B b l tx C { V with st := V.st + 1, z1 := y1, z2 := y2, z3 := y3 } (.go x j :: .un a (cp.getD a 0) :: st) (m ++ [(i, j)]) (cp.set a (j : Int))) ∧ Below B w w' := by
  obtain ⟨hi, ha, hj⟩ := hok
  have hmo := may_ok hc.may
  have hn20 : C.n ≤ 20000 := by have := hc.len; omega
  have htl := hc.tl
  have hK2 : C.K ≤ 1002 := by omega
  have hil : i < l.length := by have := hc.len; omega
  obtain ⟨k, hk⟩ : ∃ k, k = i * (C.tn - C.a + 1) + (j - C.a) := ⟨_, rfl⟩
  obtain ⟨mt, mf⟩ := met_at h.met hi ha hj
  rw [← hk] at mt mf
  have hkM : k < C.M := by
    obtain ⟨arr, h1, h2, h3⟩ := h.met
    have := h3 i j hi ha hj
    rw [← hk] at this
    have := (Array.getElem?_eq_some_iff.1 this).1
    omega
  have hMb := hc.big
  obtain ⟨d, hd⟩ : ∃ d, d = C.tn - C.a := ⟨_, rfl⟩
  obtain ⟨q, hq⟩ : ∃ q, q = C.tn - C.a + 1 := ⟨_, rfl⟩
  obtain ⟨e, he⟩ : ∃ e, e = i * q := ⟨_, rfl⟩
  have hek : e + (j - C.a) = k := by rw [hk, he, hq]
  have a0 : IntKind.i64.wrap ((C.tn : Int) - (C.a : Int)) = (d : Int) := by rw [wrap_ok _ (by omega) (by omega)]; omega
  have a1 : IntKind.i64.wrap ((d : Int) + 1) = (q : Int) := by rw [wrap_ok _ (by omega) (by omega)]; omega
  have a2 : IntKind.i64.wrap ((i : Int) * (q : Int)) = (e : Int) := by
    have : (i : Int) * (q : Int) = (e : Int) := by rw [he]; push_cast; rfl
    rw [this]; exact wrap_ok _ (by omega) (by omega)
  obtain ⟨f, hf⟩ : ∃ f, f = e + j := ⟨_, rfl⟩
  have a3 : IntKind.i64.wrap ((e : Int) + (j : Int)) = (f : Int) := by rw [wrap_ok _ (by omega) (by omega)]; omega
  have a4 : IntKind.i64.wrap ((f : Int) - (C.a : Int)) = (k : Int) := by rw [wrap_ok _ (by omega) (by omega)]; omega
  have b2 : (k : Int) < (C.M : Int) := by omega
  have c3 := h.mb.c 3
  have c4 := h.mb.c 4
  have c5 := h.mb.c 5
  simp at c3 c4 c5
  have H0 := hid h
  have HC := hid hc
  have HK := hid hk
  rw [show decide ((i, j) ∈ m) = false by simp [hm]] at mt
  have HM := hid hm
  have hmk := (Eqw.refl' w).kept h
  clear hm hmk
  clear h hc hk hd hq he hek hf hmo
  go_enter Try.func27, Try.ntmps27
  go_upto_region 1 with fail
  go_quiet (fail)
  obtain ⟨W0, hW0⟩ : ∃ W0, W0 = w.drewN nq := ⟨_, rfl⟩
  rw [← hW0]
  have HE0 : Hid (Eqw w W0) := by rw [hW0]; exact Eqw.drewN w nq
  clear hW0 c3 c4 a0 a1 a2 a3 a4
  replace c5 := (cell_eq (HE0.out.blk b) 5).trans c5
  replace mt := (cell_eq (HE0.out.blk C.gm) k).trans mt
  replace mf := (frz_eq (HE0.out.blk C.gm) k).trans mf
  have hD0 := HE0.out.kept H0.out
  obtain ⟨hD1, hB1⟩ := hD0.marked HC.out hi ha hj HM.out HK.out
  have r7 := hD1.mb.c 7
  have u7 := hD1.mb.u 7
  simp at r7
  obtain ⟨W1, hW1⟩ : ∃ W1, W1 = W0.setCell ⟨C.gm, k, none⟩ (.bool true) := ⟨_, rfl⟩
  rw [← hW1] at hD1 hB1 r7 u7
  have HW1 := hid hW1
  clear hW1
  obtain ⟨s1, hs1⟩ : ∃ s1, s1 = V.st + 1 := ⟨_, rfl⟩
  have a7 : IntKind.i64.wrap ((V.st : Int) + 1) = (s1 : Int) := by rw [wrap_ok _ (by omega) (by omega)]; omega
  obtain ⟨hD2, hB2⟩ := hD1.put (V' := { V with st := s1 }) 7 (.int .i64 (s1 : Int)) rfl ⟨rfl, rfl, rfl⟩ ⟨rfl, rfl, rfl⟩
  obtain ⟨W2, hW2⟩ : ∃ W2, W2 = W1.setCell ⟨b, 7, none⟩ (.int .i64 (s1 : Int)) := ⟨_, rfl⟩
  rw [← hW2] at hD2 hB2
  have HW2 := hid hW2
  have HS1 := hid hs1
  have HB2 := hid (((HE0.out.below B).trans hB1).trans hB2)
  have HD2 := hid hD2
  clear hW2 hs1 hD0 hD1 hB1 hB2
  go_upto_region 5 with fail
  rw [← HW1.out]
  clear HW1 c5 mt mf
  go_upto_region 6 with fail
  rw [← HW2.out]
  clear HW2 r7 u7 a7
  obtain ⟨pb, po, r1, r2, r3, hpa, hr2, hcs⟩ := pi_inst HD2.out.pi hil
  obtain ⟨⟨m0, n1, n2, n3, n4⟩, hrow⟩ := hcs W2 (Below.refl _ _)
  have hpb : pb < B := by
    obtain ⟨pb', po', ND, e', hpb', _⟩ := HD2.out.pi.mem (by have := HD2.out.pi.len; omega)
    rw [e'] at hpa
    simp only [Option.some.injEq, Addr.mk.injEq] at hpa
    omega
  have c0 := HD2.out.mb.c 0
  simp at c0
  rw [hpa] at c0
  have hin : (i : Int) < (C.n : Int) := by omega
  have HIOK := hid ((may_ok HC.out.may).2.2.2.2.2 _ (List.getElem_mem hil))
  obtain ⟨I, hI⟩ : ∃ I, I = l[i] := ⟨_, rfl⟩
  rw [← hI] at m0 n1 n2 n3 hr2 hrow HIOK hop
  have HI := hid hI
  have HACT : Hid (act l tx j i = actI tx I j) := by show act l tx j i = _; unfold act; rw [getD_in' hil, ← hI]
  have HR2 := hid hr2
  have HROW := hid hrow
  clear hI hr2 hrow hcs hpa
  rw [hop] at m0
  have HOP := hid hop
  clear hop
  have HN2 : Hid ((m ++ [(i, j)]).length ≤ 16777216) := by show _ ≤ _; have := HD2.out.okm.small; have := HC.out.M; omega
  have hx' := ok_x HIOK.out (by rw [HOP.out]; rfl)
  obtain ⟨xx, hxe⟩ := Int.eq_ofNat_of_zero_le hx'.1
  have hxl : xx < C.n := by have := HC.out.len; omega
  have HXX := hid hxe
  rw [hxe] at n1
  have haa := ok_a HIOK.out HOP.out
  obtain ⟨oa, hoa⟩ := Int.eq_ofNat_of_zero_le haa.1
  have hal : oa < C.K := by omega
  have HOA := hid hoa
  rw [hoa] at n3
  have HU1 := hid hu1
  have HU2 := hid hu2
  have HCL := hid hcl
  have HOC := hid hoc
  clear hu1 hu2 hcl hoa haa hoc
  obtain ⟨U, hU⟩ : ∃ U, U = W2.alloc (.cells #[.int .i64 3, .int .i64 (xx : Int), .int .i64 I.y, .int .i64 (oa : Int), .slice r1 r2 r3] 53) := ⟨_, rfl⟩
  obtain ⟨x, hx⟩ : ∃ x, x = W2.heap.size := ⟨_, rfl⟩
  have hbU : Below W2.heap.size W2 U := by rw [hU]; exact Joins.below_alloc1 W2 _
  have hX0 : U.heap[x]? = some (.cells #[.int .i64 3, .int .i64 (xx : Int), .int .i64 I.y, .int .i64 (oa : Int), .slice r1 r2 r3] 53 (0, 0)) := by rw [hU, hx]; exact heap_alloc_new W2 _
  have x0 := Joins.cell_of_block hX0 0
  have x1 := Joins.cell_of_block hX0 1
  have x2 := Joins.cell_of_block hX0 2
  have x3 := Joins.cell_of_block hX0 3
  have x4 := Joins.cell_of_block hX0 4
  simp at x0 x1 x2 x3 x4
  have hDU := HD2.out.below hbU
  have HDU := hid hDU
  have hBs := HD2.out.size
  have HBU := hid (HB2.out.trans (Joins.below_le hbU hBs))
  have hxU : x < U.heap.size := (Array.getElem?_eq_some_iff.1 hX0).1
  have hbx : b < x := by have := HD2.out.mb.lt; omega
  have hxb : x ≠ b := by omega
  have HBU2 := hid hbU
  have HXE := hid hx
  have HUE := hid hU
  have HXB := hid hX0
  clear hX0 hDU hbU hx hU
  go_upto_region 7 with fail
  rw [← HUE.out, ← HXE.out]
  clear HUE m0 n1 n2 n3 n4 c0
  have hzx : (Value.slice V.z1 V.z2 V.z3).ownBlock ≠ some x := fun e => by have := (HD2.out.row.lt x e).2; have := HXE.out; omega
  have c6 := HDU.out.mb.c 6
  simp at c6
  rw [HU1.out, HU2.out] at c6
  obtain ⟨o, ho⟩ : ∃ o, o = cp.getD oa 0 := ⟨_, rfl⟩
  have hcapU := HDU.out.cap
  dsimp only at hcapU
  rw [HU1.out, HU2.out] at hcapU
  have k0 := (hcapU.cellAt oa (by omega)).trans (show (I64 cp)[oa]? = some (.int .i64 o) by rw [ho]; have := HCL.out; simp [I64, List.getD_eq_getElem?_getD, show oa < cp.length by omega])
  have HOO := hid ho
  have hzu : (Value.slice V.z1 V.z2 V.z3).ownBlock ≠ some ub := fun e => own_apart HDU.out.row HDU.out.cap (by decide) e (by dsimp only; rw [HU1.out]; rfl)
  have b6 : (oa : Int) < (C.K : Int) := by omega
  have hor : -1 ≤ o ∧ o ≤ (C.tn : Int) := by rw [ho]; exact HOC.out.get oa
  clear hcapU ho
  go_upto_region 16 with fail
  have HXLT : Hid (x < U.heap.size) := hxU
  have z9 := HDU.out.mb.c 9
  simp at z9
  refine wp_region_lex 16 20 (fun W => W.cell? ⟨b, 9, none⟩ = some (.slice V.z1 V.z2 V.z3) ∧ W.cell? ⟨x, 3, none⟩ = some (.int .i64 (oa : Int)) ∧ W.cell? ⟨b, 6, none⟩ = some (.slice (some ⟨ub, 0, none⟩) C.K V.u3) ∧ W.cell? ⟨ub, oa, none⟩ = some (.int .i64 o)) (by kernel_rfl) (by kernel_rfl) (by decide) (by kernel_rfl) (by kernel_rfl) ⟨z9, x3, c6, k0⟩ ?_
  simp only [List.take_succ_cons, List.take_zero, List.drop_succ_cons, List.drop_zero]
  iterate 16
    refine lex_cons ?_ rfl (fun W hW => ?_) (fun _ _ _ h => h) ?_
    rotate_left
    · obtain ⟨s0, s1, s2, s3⟩ := hW
      go_simp <;> with_reducible rfl
    simp only [Act.put, List.setIfInBounds_toArray, List.set_cons_zero, List.set_cons_succ]
  obtain ⟨A, hA⟩ : ∃ A, A = (U.alloc (.cells #[.bool true, .int .i64 0, .int .i64 0, .int .i64 (oa : Int), .int .i64 o] 79)).drew := ⟨_, rfl⟩
  have hAw : Below U.heap.size U A := by rw [hA]; exact (Joins.below_alloc1 U _).trans ((Eqw.drew _).below _)
  have hAX : A.heap[U.heap.size]? = some (.cells #[.bool true, .int .i64 0, .int .i64 0, .int .i64 (oa : Int), .int .i64 o] 79 (0, 0)) := by rw [hA]; exact heap_alloc_new U _
  have hDA := HDU.out.below hAw
  have HROWA := hid hDA.row
  have hAs : B ≤ A.heap.size := hDA.size
  have a9 : A.cell? ⟨b, 9, none⟩ = some (.slice V.z1 V.z2 V.z3) := by have := hDA.mb.c 9; simpa using this
  have as0 : A.cell? ⟨x, 3, none⟩ = some (.int .i64 (oa : Int)) := (hAw.cell (p := ⟨x, 3, none⟩) (lt_of_cell' x3)).trans x3
  have as1 : A.cell? ⟨b, 6, none⟩ = some (.slice (some ⟨ub, 0, none⟩) C.K V.u3) := by have := hDA.mb.c 6; simp at this; rw [HU1.out, HU2.out] at this; exact this
  have as2 : A.cell? ⟨ub, oa, none⟩ = some (.int .i64 o) := (hAw.cell (p := ⟨ub, oa, none⟩) (lt_of_cell' k0)).trans k0
  have hzl := HDU.out.zl
  have hstl := HDU.out.stl
  have HZL := hid hzl
  dsimp only at hzl HROWA
  have hzs : V.z2 ≤ 16777300 := by have := HN2.out; (try simp only [List.length_cons] at hzl); simp only [List.length_append, List.length_cons, List.length_nil] at this hstl; omega
  have HAW := hid hAw
  obtain ⟨wl, hwl⟩ : ∃ wl, wl = U.heap.size := ⟨_, rfl⟩
  rw [← hwl] at hAX
  have HAE := hid hA
  have HWL := hid hwl
  clear hDA hAw hzl hstl hA hwl
  refine lex_nil (tail_cons fun KK hKK => ?_)
  go_simp
  rw [← HAE.out, ← HWL.out]
  refine hKK.out _ _ (fun _ => ⟨a9, as0, as1, as2⟩) (tail_cons fun KK hKK => ?_)
  obtain ⟨i2, hi2, hz20, hz21, hz22⟩ := info_parts info79
  refine step_append_row rfl (.tmp 123) (.tmp 135) 47 rfl B 79 i2 (.agg #[.bool false, .int .i64 0, .int .i64 0, .int .i64 0, .int .i64 0]) 5 40 Try.underlying47 hi2 hz20 hz21 hz22 rfl (by decide) (.slice V.z1 V.z2 V.z3) V.z2 (sdk st) (by simp [Act.eval, Act.put]) (by exact HROWA.out) wl 1 1 #[.bool true, .int .i64 0, .int .i64 0, .int .i64 (oa : Int), .int .i64 o] 79 (by simp [Act.eval, Act.put]) hAX rfl (by decide) (by simp [Value.oneCell']) (by unfold maxLen; omega) (by omega) hAs ?_
  intro v3 wa ho3 hf3
  obtain ⟨y1, y3, rfl, _⟩ := row_shape ho3.out
  obtain ⟨p1, p2, p3⟩ := HDU.out.pushed (ts := [.un oa o]) (k := V.z2 + 1) HAW.out (fun t ht => by simp at ht; subst ht; exact ⟨hal, hor⟩) (by simp; omega) rfl ho3.out hf3.out
  have w9 := p3.c 9
  have v9 := p3.u 9
  simp at w9
  have ws0 : wa.cell? ⟨x, 3, none⟩ = some (.int .i64 (oa : Int)) := (cell_eq (hf3.out.block x (lt_of_cell' as0) hzx) 3).trans as0
  have ws1 : wa.cell? ⟨b, 6, none⟩ = some (.slice (some ⟨ub, 0, none⟩) C.K V.u3) := by have := p3.c 6; simp at this; rw [HU1.out, HU2.out] at this; exact this
  have ws2 : wa.cell? ⟨ub, oa, none⟩ = some (.int .i64 o) := (cell_eq (hf3.out.block ub (lt_of_cell' as2) hzu) oa).trans as2
  have HSS : Hid (wa.cell? ⟨b, 9, none⟩ = some (.slice V.z1 V.z2 V.z3) ∧ wa.cell? ⟨x, 3, none⟩ = some (.int .i64 (oa : Int)) ∧ wa.cell? ⟨b, 6, none⟩ = some (.slice (some ⟨ub, 0, none⟩) C.K V.u3) ∧ wa.cell? ⟨ub, oa, none⟩ = some (.int .i64 o)) := ⟨w9, ws0, ws1, ws2⟩
  have hkx0 : (wa.setCell ⟨b, 9, none⟩ (.slice y1 (V.z2 + 1) y3)).heap[x]? = U.heap[x]? := (Below.heap_setCell _ _ _ _ hxb).trans ((hf3.out.block x (Nat.lt_of_lt_of_le HXLT.out HAW.out.size) hzx).trans (HAW.out.block x HXLT.out))
  have HP1 := hid p1
  have HP2 := hid p2
  have HKX := hid hkx0
  clear p1 p2 p3
  refine hKK.out _ _ (fun _ => HSS.out) (tail_cons fun KK hKK => ?_)
  simp only [Act.put, List.setIfInBounds_toArray, List.set_cons_zero, List.set_cons_succ]
  go_simp
  refine hKK.out _ _ (fun _ => HSS.out) (tail_cons fun KK hKK => ?_)
  simp only [Act.put, List.setIfInBounds_toArray, List.set_cons_zero, List.set_cons_succ]
  go_simp
  refine hKK.out _ _ (fun _ => HSS.out) (tail_cons fun KK hKK => ?_)
  simp only [Act.put, List.setIfInBounds_toArray, List.set_cons_zero, List.set_cons_succ]
  go_simp
  refine hKK.out _ _ (fun h => absurd rfl h) (tail_nil ?_)
  obtain ⟨WE, hWE⟩ : ∃ WE, WE = wa.setCell ⟨b, 9, none⟩ (.slice y1 (V.z2 + 1) y3) := ⟨_, rfl⟩
  rw [← hWE] at HP1 HP2 HKX ⊢
  clear hkx0 hWE w9 v9 ho3 hf3 HSS HROWA a9 hAX z9 HAE HWL HAW
  have d6 := HP1.out.mb.c 6
  simp at d6
  rw [HU1.out, HU2.out] at d6
  have f3 : WE.cell? ⟨x, 3, none⟩ = some (.int .i64 (oa : Int)) := (cell_eq (HKX.out.trans rfl) 3).trans x3
  have f1 : WE.cell? ⟨x, 1, none⟩ = some (.int .i64 (xx : Int)) := (cell_eq HKX.out 1).trans x1
  have hcapE := HP1.out.cap
  dsimp only at hcapE
  rw [HU1.out, HU2.out] at hcapE
  have l0 := row_there hcapE (j := oa) (m := 1) (by omega) 0 (by omega)
  rw [Nat.add_zero] at l0
  obtain ⟨vv, hvv⟩ := Option.isSome_iff_exists.1 l0.1
  have fz := l0.2
  have HSC := hid (HP1.out.setc HU1.out oa (j : Int))
  have HKXE := hid (⟨f1, f3⟩ : _ ∧ _)
  clear hcapE l0 x0 x1 x2 x3 x4 c6 k0 as0 as1 as2 ws0 ws1 ws2
  go_upto_region 17 with fail
  refine wp_region_lex 8 8 (fun W => W.cell? ⟨b, 6, none⟩ = some (.slice (some ⟨ub, 0, none⟩) C.K V.u3) ∧ W.cell? ⟨x, 3, none⟩ = some (.int .i64 (oa : Int))) (by kernel_rfl) (by kernel_rfl) (by decide) (by kernel_rfl) (by kernel_rfl) ⟨d6, f3⟩ ?_
  simp only [List.take_succ_cons, List.take_zero, List.drop_succ_cons, List.drop_zero]
  iterate 8
    refine lex_cons ?_ rfl (fun W hW => ?_) (fun _ _ _ h => h) ?_
    rotate_left
    · obtain ⟨s0, s1⟩ := hW
      go_simp <;> with_reducible rfl
    simp only [Act.put, List.setIfInBounds_toArray, List.set_cons_zero, List.set_cons_succ]
  refine lex_nil (tail_cons fun KK hKK => ?_)
  go_simp
  refine hKK.out _ _ (fun h => absurd rfl h) (tail_nil ?_)
  obtain ⟨WG, hWG⟩ : ∃ WG, WG = (WE.setCell ⟨ub, oa, none⟩ (.int .i64 (j : Int))).drew := ⟨_, rfl⟩
  rw [← hWG]
  have HDG : Hid (DI WG B b l tx C { V with st := s1, z1 := y1, z2 := V.z2 + 1, z3 := y3 } (.un oa o :: st) (m ++ [(i, j)]) (cp.set oa (j : Int))) := by show DI _ _ _ _ _ _ _ _ _ _; rw [hWG]; exact HSC.out.1.below ((Eqw.drew _).below _)
  have HBG : Hid (Below B WE WG) := by show Below _ _ _; rw [hWG]; exact HSC.out.2.trans ((Eqw.drew _).below _)
  have hxu : x ≠ ub := fun e => by have h2 := (HD2.out.cap.lt ub (by dsimp only; rw [HU1.out]; rfl)).2; have := HXE.out; omega
  have hkG : WG.heap[x]? = WE.heap[x]? := by rw [hWG]; exact Below.heap_setCell _ _ _ _ hxu
  have x1 := (cell_eq hkG 1).trans HKXE.out.1
  have HXLT2 : Hid (x < WG.heap.size) := lt_of_cell' x1
  have HBE := hid (HBU.out.trans (HP2.out.trans HBG.out))
  replace hzx : (Value.slice y1 (V.z2 + 1) y3).ownBlock ≠ some x := fun e => own_ne HDG.out.row (show WG.heap[x]? = some (.cells #[.int .i64 3, .int .i64 (xx : Int), .int .i64 I.y, .int .i64 (oa : Int), .slice r1 r2 r3] 53 (0, 0)) from hkG.trans (HKX.out.trans HXB.out)) (by decide) e
  clear hWG HP1 HP2 HSC HKXE hkG HBG hvv fz f1 f3 d6 HKX HXLT
  have HXLT := HXLT2
  clear HXLT2
  go_upto_region 28 with fail
  skip
  have z9 := HDG.out.mb.c 9
  simp at z9
  refine wp_region_lex 9 13 (fun W => W.cell? ⟨b, 9, none⟩ = some (.slice y1 (V.z2 + 1) y3) ∧ W.cell? ⟨x, 1, none⟩ = some (.int .i64 (xx : Int))) (by kernel_rfl) (by kernel_rfl) (by decide) (by kernel_rfl) (by kernel_rfl) ⟨z9, x1⟩ ?_
  simp only [List.take_succ_cons, List.take_zero, List.drop_succ_cons, List.drop_zero]
  iterate 9
    refine lex_cons ?_ rfl (fun W hW => ?_) (fun _ _ _ h => h) ?_
    rotate_left
    · obtain ⟨s0, s1⟩ := hW
      go_simp <;> with_reducible rfl
    simp only [Act.put, List.setIfInBounds_toArray, List.set_cons_zero, List.set_cons_succ]
  obtain ⟨A, hA⟩ : ∃ A, A = (WG.alloc (.cells #[.bool false, .int .i64 (xx : Int), .int .i64 (j : Int), .int .i64 0, .int .i64 0] 79)).drew := ⟨_, rfl⟩
  have hAw : Below WG.heap.size WG A := by rw [hA]; exact (Joins.below_alloc1 WG _).trans ((Eqw.drew _).below _)
  have hAX : A.heap[WG.heap.size]? = some (.cells #[.bool false, .int .i64 (xx : Int), .int .i64 (j : Int), .int .i64 0, .int .i64 0] 79 (0, 0)) := by rw [hA]; exact heap_alloc_new WG _
  have hDA := HDG.out.below hAw
  have HROWA := hid hDA.row
  have hAs : B ≤ A.heap.size := hDA.size
  have a9 : A.cell? ⟨b, 9, none⟩ = some (.slice y1 (V.z2 + 1) y3) := by have := hDA.mb.c 9; simpa using this
  have as0 : A.cell? ⟨x, 1, none⟩ = some (.int .i64 (xx : Int)) := (hAw.cell (p := ⟨x, 1, none⟩) (lt_of_cell' x1)).trans x1
  have hzl := HDG.out.zl
  have hstl := HDG.out.stl
  have HZL := hid hzl
  dsimp only at hzl HROWA
  have hzs : (V.z2 + 1) ≤ 16777300 := by have := HN2.out; (try simp only [List.length_cons] at hzl); simp only [List.length_append, List.length_cons, List.length_nil] at this hstl; omega
  have HAW := hid hAw
  obtain ⟨wl, hwl⟩ : ∃ wl, wl = WG.heap.size := ⟨_, rfl⟩
  rw [← hwl] at hAX
  have HAE := hid hA
  have HWL := hid hwl
  clear hDA hAw hzl hstl hA hwl
  refine lex_nil (tail_cons fun KK hKK => ?_)
  go_simp
  rw [← HAE.out, ← HWL.out]
  refine hKK.out _ _ (fun _ => ⟨a9, as0⟩) (tail_cons fun KK hKK => ?_)
  obtain ⟨i2, hi2, hz20, hz21, hz22⟩ := info_parts info79
  refine step_append_row rfl (.tmp 173) (.tmp 178) 47 rfl B 79 i2 (.agg #[.bool false, .int .i64 0, .int .i64 0, .int .i64 0, .int .i64 0]) 5 40 Try.underlying47 hi2 hz20 hz21 hz22 rfl (by decide) (.slice y1 (V.z2 + 1) y3) (V.z2 + 1) (sdk (.un oa o :: st)) (by simp [Act.eval, Act.put]) (by exact HROWA.out) wl 1 1 #[.bool false, .int .i64 (xx : Int), .int .i64 (j : Int), .int .i64 0, .int .i64 0] 79 (by simp [Act.eval, Act.put]) hAX rfl (by decide) (by simp [Value.oneCell']) (by unfold maxLen; omega) (by omega) hAs ?_
  intro v3 wa ho3 hf3
  obtain ⟨qy1, qy3, rfl, _⟩ := row_shape ho3.out
  obtain ⟨p1, p2, p3⟩ := HDG.out.pushed (ts := [.go xx j]) (k := (V.z2 + 1) + 1) HAW.out (fun t ht => by simp at ht; subst ht; exact ⟨hxl, ha, hj⟩) (by simp; omega) rfl ho3.out hf3.out
  have w9 := p3.c 9
  have v9 := p3.u 9
  simp at w9
  have ws0 : wa.cell? ⟨x, 1, none⟩ = some (.int .i64 (xx : Int)) := (cell_eq (hf3.out.block x (lt_of_cell' as0) hzx) 1).trans as0
  have HSS : Hid (wa.cell? ⟨b, 9, none⟩ = some (.slice y1 (V.z2 + 1) y3) ∧ wa.cell? ⟨x, 1, none⟩ = some (.int .i64 (xx : Int))) := ⟨w9, ws0⟩
  have hkx0 : (wa.setCell ⟨b, 9, none⟩ (.slice qy1 ((V.z2 + 1) + 1) qy3)).heap[x]? = WG.heap[x]? := (Below.heap_setCell _ _ _ _ hxb).trans ((hf3.out.block x (Nat.lt_of_lt_of_le HXLT.out HAW.out.size) hzx).trans (HAW.out.block x HXLT.out))
  have HP1 := hid p1
  have HP2 := hid p2
  have HKX := hid hkx0
  clear p1 p2 p3
  refine hKK.out _ _ (fun _ => HSS.out) (tail_cons fun KK hKK => ?_)
  simp only [Act.put, List.setIfInBounds_toArray, List.set_cons_zero, List.set_cons_succ]
  go_simp
  refine hKK.out _ _ (fun _ => HSS.out) (tail_cons fun KK hKK => ?_)
  simp only [Act.put, List.setIfInBounds_toArray, List.set_cons_zero, List.set_cons_succ]
  go_simp
  refine hKK.out _ _ (fun _ => HSS.out) (tail_cons fun KK hKK => ?_)
  simp only [Act.put, List.setIfInBounds_toArray, List.set_cons_zero, List.set_cons_succ]
  go_simp
  refine hKK.out _ _ (fun h => absurd rfl h) (tail_nil ?_)
  obtain ⟨WF, hWF⟩ : ∃ WF, WF = wa.setCell ⟨b, 9, none⟩ (.slice qy1 ((V.z2 + 1) + 1) qy3) := ⟨_, rfl⟩
  rw [← hWF] at HP1 HP2 HKX ⊢
  clear hkx0 hWF w9 v9 ho3 hf3 HSS HROWA a9 hAX z9 HAE HWL HAW
  go_wp2
  all_goals go_ret
  all_goals exact ⟨rfl, ⟨xx, oa, by rw [HACT.out]; unfold actI; rw [HOP.out, HXX.out, HOA.out]; simp, _, _, _, by rw [← HS1.out]; have hh := HP1.out; rw [HOO.out, List.getD_eq_getElem?_getD] at hh; exact hh⟩, HBE.out.trans HP2.out⟩
set_option maxRecDepth 100000 in
set_option maxHeartbeats 8000000 in
theorem meet_rune_e {w : World} {B b i j : Nat} {l : List In} {tx : List Int} {C : Ck} {V : Cv} {st : List Tk} {m : List Pt} {cp : List Int} (h : DI w B b l tx C V st m cp) (hc : DC l tx C) (hok : (Tk.go i j).ok C.n C.a C.tn C.K) (hvs : V.st ≤ 16777216) (hsl : st.length ≤ m.length) (hml : m.length ≤ 16777216) (hm : (i, j) ∉ m) (hil0 : i < l.length) (hop : l[i].op = 1) (hje : Hid (j = C.tn)) :
    Calls Try.prog 27 #[.pointer (some ⟨b, 0, none⟩), .int .i64 (i : Int), .int .i64 (j : Int)] w fun e w' => e = .returned (.bool false) ∧ act l tx j i = .stop ∧ (∃ y1 y2 y3, DI w' B b l tx C { V with st := V.st + 1, z1 := y1, z2 := y2, z3 := y3 } st (m ++ [(i, j)]) cp) ∧ Below B w w' := by
  obtain ⟨hi, ha, hj⟩ := hok
  have hmo := may_ok hc.may
  have hn20 : C.n ≤ 20000 := by have := hc.len; omega
  have htl := hc.tl
  have hK2 : C.K ≤ 1002 := by omega
  have hil : i < l.length := by have := hc.len; omega
  obtain ⟨k, hk⟩ : ∃ k, k = i * (C.tn - C.a + 1) + (j - C.a) := ⟨_, rfl⟩
  obtain ⟨mt, mf⟩ := met_at h.met hi ha hj
  rw [← hk] at mt mf
  have hkM : k < C.M := by
    obtain ⟨arr, h1, h2, h3⟩ := h.met
    have := h3 i j hi ha hj
    rw [← hk] at this
    have := (Array.getElem?_eq_some_iff.1 this).1
    omega
  have hMb := hc.big
  obtain ⟨d, hd⟩ : ∃ d, d = C.tn - C.a := ⟨_, rfl⟩
  obtain ⟨q, hq⟩ : ∃ q, q = C.tn - C.a + 1 := ⟨_, rfl⟩
  obtain ⟨e, he⟩ : ∃ e, e = i * q := ⟨_, rfl⟩
  have hek : e + (j - C.a) = k := by rw [hk, he, hq]
  have a0 : IntKind.i64.wrap ((C.tn : Int) - (C.a : Int)) = (d : Int) := by rw [wrap_ok _ (by omega) (by omega)]; omega
  have a1 : IntKind.i64.wrap ((d : Int) + 1) = (q : Int) := by rw [wrap_ok _ (by omega) (by omega)]; omega
  have a2 : IntKind.i64.wrap ((i : Int) * (q : Int)) = (e : Int) := by
    have : (i : Int) * (q : Int) = (e : Int) := by rw [he]; push_cast; rfl
    rw [this]; exact wrap_ok _ (by omega) (by omega)
  obtain ⟨f, hf⟩ : ∃ f, f = e + j := ⟨_, rfl⟩
  have a3 : IntKind.i64.wrap ((e : Int) + (j : Int)) = (f : Int) := by rw [wrap_ok _ (by omega) (by omega)]; omega
  have a4 : IntKind.i64.wrap ((f : Int) - (C.a : Int)) = (k : Int) := by rw [wrap_ok _ (by omega) (by omega)]; omega
  have b2 : (k : Int) < (C.M : Int) := by omega
  have c3 := h.mb.c 3
  have c4 := h.mb.c 4
  have c5 := h.mb.c 5
  simp at c3 c4 c5
  have H0 := hid h
  have HC := hid hc
  have HK := hid hk
  rw [show decide ((i, j) ∈ m) = false by simp [hm]] at mt
  have HM := hid hm
  have hmk := (Eqw.refl' w).kept h
  clear hm hmk
  clear h hc hk hd hq he hek hf hmo
  go_enter Try.func27, Try.ntmps27
  go_upto_region 1 with fail
  go_quiet (fail)
  obtain ⟨W0, hW0⟩ : ∃ W0, W0 = w.drewN nq := ⟨_, rfl⟩
  rw [← hW0]
  have HE0 : Hid (Eqw w W0) := by rw [hW0]; exact Eqw.drewN w nq
  clear hW0 c3 c4 a0 a1 a2 a3 a4
  replace c5 := (cell_eq (HE0.out.blk b) 5).trans c5
  replace mt := (cell_eq (HE0.out.blk C.gm) k).trans mt
  replace mf := (frz_eq (HE0.out.blk C.gm) k).trans mf
  have hD0 := HE0.out.kept H0.out
  obtain ⟨hD1, hB1⟩ := hD0.marked HC.out hi ha hj HM.out HK.out
  have r7 := hD1.mb.c 7
  have u7 := hD1.mb.u 7
  simp at r7
  obtain ⟨W1, hW1⟩ : ∃ W1, W1 = W0.setCell ⟨C.gm, k, none⟩ (.bool true) := ⟨_, rfl⟩
  rw [← hW1] at hD1 hB1 r7 u7
  have HW1 := hid hW1
  clear hW1
  obtain ⟨s1, hs1⟩ : ∃ s1, s1 = V.st + 1 := ⟨_, rfl⟩
  have a7 : IntKind.i64.wrap ((V.st : Int) + 1) = (s1 : Int) := by rw [wrap_ok _ (by omega) (by omega)]; omega
  obtain ⟨hD2, hB2⟩ := hD1.put (V' := { V with st := s1 }) 7 (.int .i64 (s1 : Int)) rfl ⟨rfl, rfl, rfl⟩ ⟨rfl, rfl, rfl⟩
  obtain ⟨W2, hW2⟩ : ∃ W2, W2 = W1.setCell ⟨b, 7, none⟩ (.int .i64 (s1 : Int)) := ⟨_, rfl⟩
  rw [← hW2] at hD2 hB2
  have HW2 := hid hW2
  have HS1 := hid hs1
  have HB2 := hid (((HE0.out.below B).trans hB1).trans hB2)
  have HD2 := hid hD2
  clear hW2 hs1 hD0 hD1 hB1 hB2
  go_upto_region 5 with fail
  rw [← HW1.out]
  clear HW1 c5 mt mf
  go_upto_region 6 with fail
  rw [← HW2.out]
  clear HW2 r7 u7 a7
  obtain ⟨pb, po, r1, r2, r3, hpa, hr2, hcs⟩ := pi_inst HD2.out.pi hil
  obtain ⟨⟨m0, n1, n2, n3, n4⟩, hrow⟩ := hcs W2 (Below.refl _ _)
  have hpb : pb < B := by
    obtain ⟨pb', po', ND, e', hpb', _⟩ := HD2.out.pi.mem (by have := HD2.out.pi.len; omega)
    rw [e'] at hpa
    simp only [Option.some.injEq, Addr.mk.injEq] at hpa
    omega
  have c0 := HD2.out.mb.c 0
  simp at c0
  rw [hpa] at c0
  have hin : (i : Int) < (C.n : Int) := by omega
  have HIOK := hid ((may_ok HC.out.may).2.2.2.2.2 _ (List.getElem_mem hil))
  obtain ⟨I, hI⟩ : ∃ I, I = l[i] := ⟨_, rfl⟩
  rw [← hI] at m0 n1 n2 n3 hr2 hrow HIOK hop
  have HI := hid hI
  have HACT : Hid (act l tx j i = actI tx I j) := by show act l tx j i = _; unfold act; rw [getD_in' hil, ← hI]
  have HR2 := hid hr2
  have HROW := hid hrow
  clear hI hr2 hrow hcs hpa
  rw [hop] at m0
  have HOP := hid hop
  clear hop
  have HN2 : Hid ((m ++ [(i, j)]).length ≤ 16777216) := by show _ ≤ _; have := HD2.out.okm.small; have := HC.out.M; omega
  have hx' := ok_x HIOK.out (by rw [HOP.out]; rfl)
  obtain ⟨xx, hxe⟩ := Int.eq_ofNat_of_zero_le hx'.1
  have hxl : xx < C.n := by have := HC.out.len; omega
  have HXX := hid hxe
  rw [hxe] at n1
  have hrb := ok_R HIOK.out HOP.out
  have HRB := hid hrb
  clear hrb
  obtain ⟨U, hU⟩ : ∃ U, U = W2.alloc (.cells #[.int .i64 1, .int .i64 (xx : Int), .int .i64 I.y, .int .i64 I.a, .slice r1 r2 r3] 53) := ⟨_, rfl⟩
  obtain ⟨x, hx⟩ : ∃ x, x = W2.heap.size := ⟨_, rfl⟩
  have hbU : Below W2.heap.size W2 U := by rw [hU]; exact Joins.below_alloc1 W2 _
  have hX0 : U.heap[x]? = some (.cells #[.int .i64 1, .int .i64 (xx : Int), .int .i64 I.y, .int .i64 I.a, .slice r1 r2 r3] 53 (0, 0)) := by rw [hU, hx]; exact heap_alloc_new W2 _
  have x0 := Joins.cell_of_block hX0 0
  have x1 := Joins.cell_of_block hX0 1
  have x2 := Joins.cell_of_block hX0 2
  have x3 := Joins.cell_of_block hX0 3
  have x4 := Joins.cell_of_block hX0 4
  simp at x0 x1 x2 x3 x4
  have hDU := HD2.out.below hbU
  have HDU := hid hDU
  have hBs := HD2.out.size
  have HBU := hid (HB2.out.trans (Joins.below_le hbU hBs))
  have hxU : x < U.heap.size := (Array.getElem?_eq_some_iff.1 hX0).1
  have hbx : b < x := by have := HD2.out.mb.lt; omega
  have hxb : x ≠ b := by omega
  have HBU2 := hid hbU
  have HXE := hid hx
  have HUE := hid hU
  have HXB := hid hX0
  clear hX0 hDU hbU hx hU
  go_upto_region 7 with fail
  rw [← HUE.out, ← HXE.out]
  clear HUE m0 n1 n2 n3 n4 c0
  have hzx : (Value.slice V.z1 V.z2 V.z3).ownBlock ≠ some x := fun e => by have := (HD2.out.row.lt x e).2; have := HXE.out; omega
  have t3 := HDU.out.mb.c 3
  simp at t3
  have g1 : decide ((j : Int) < (C.tn : Int)) = false := by have := hje.out; simp; omega
  have g2 : ¬ ((j : Int) < (C.tn : Int)) := by have := hje.out; omega
  go_upto_region 10 with fail
  go_quiet (fail)
  obtain ⟨U2, hU2⟩ : ∃ U2, U2 = U.drewN nq := ⟨_, rfl⟩
  rw [← hU2]
  have HEU : Hid (Eqw U U2) := by rw [hU2]; exact Eqw.drewN U nq
  clear hU2
  go_wp2
  all_goals go_ret
  all_goals exact ⟨rfl, by rw [HACT.out]; unfold actI; rw [HOP.out]; have := HC.out.tn; have := hje.out; simp; omega, ⟨V.z1, V.z2, V.z3, by rw [← HS1.out]; exact HEU.out.kept HDU.out⟩, HBU.out.trans (HEU.out.below _)⟩
set_option maxRecDepth 100000 in
set_option maxHeartbeats 8000000 in
theorem meet_rune_f {w : World} {B b i j : Nat} {l : List In} {tx : List Int} {C : Ck} {V : Cv} {st : List Tk} {m : List Pt} {cp : List Int} (h : DI w B b l tx C V st m cp) (hc : DC l tx C) (hok : (Tk.go i j).ok C.n C.a C.tn C.K) (hvs : V.st ≤ 16777216) (hsl : st.length ≤ m.length) (hml : m.length ≤ 16777216) (hm : (i, j) ∉ m) (hil0 : i < l.length) (hop : l[i].op = 1) (hjl : j < C.tn) (hX : hsB l[i].R (tx.getD j 0) = false) :
    Calls Try.prog 27 #[.pointer (some ⟨b, 0, none⟩), .int .i64 (i : Int), .int .i64 (j : Int)] w fun e w' => e = .returned (.bool false) ∧ act l tx j i = .stop ∧ (∃ y1 y2 y3, DI w' B b l tx C { V with st := V.st + 1, z1 := y1, z2 := y2, z3 := y3 } st (m ++ [(i, j)]) cp) ∧ Below B w w' := by
  obtain ⟨hi, ha, hj⟩ := hok
  have hmo := may_ok hc.may
  have hn20 : C.n ≤ 20000 := by have := hc.len; omega
  have htl := hc.tl
  have hK2 : C.K ≤ 1002 := by omega
  have hil : i < l.length := by have := hc.len; omega
  obtain ⟨k, hk⟩ : ∃ k, k = i * (C.tn - C.a + 1) + (j - C.a) := ⟨_, rfl⟩
  obtain ⟨mt, mf⟩ := met_at h.met hi ha hj
  rw [← hk] at mt mf
  have hkM : k < C.M := by
    obtain ⟨arr, h1, h2, h3⟩ := h.met
    have := h3 i j hi ha hj
    rw [← hk] at this
    have := (Array.getElem?_eq_some_iff.1 this).1
    omega
  have hMb := hc.big
  obtain ⟨d, hd⟩ : ∃ d, d = C.tn - C.a := ⟨_, rfl⟩
  obtain ⟨q, hq⟩ : ∃ q, q = C.tn - C.a + 1 := ⟨_, rfl⟩
  obtain ⟨e, he⟩ : ∃ e, e = i * q := ⟨_, rfl⟩
  have hek : e + (j - C.a) = k := by rw [hk, he, hq]
  have a0 : IntKind.i64.wrap ((C.tn : Int) - (C.a : Int)) = (d : Int) := by rw [wrap_ok _ (by omega) (by omega)]; omega
  have a1 : IntKind.i64.wrap ((d : Int) + 1) = (q : Int) := by rw [wrap_ok _ (by omega) (by omega)]; omega
  have a2 : IntKind.i64.wrap ((i : Int) * (q : Int)) = (e : Int) := by
    have : (i : Int) * (q : Int) = (e : Int) := by rw [he]; push_cast; rfl
    rw [this]; exact wrap_ok _ (by omega) (by omega)
  obtain ⟨f, hf⟩ : ∃ f, f = e + j := ⟨_, rfl⟩
  have a3 : IntKind.i64.wrap ((e : Int) + (j : Int)) = (f : Int) := by rw [wrap_ok _ (by omega) (by omega)]; omega
  have a4 : IntKind.i64.wrap ((f : Int) - (C.a : Int)) = (k : Int) := by rw [wrap_ok _ (by omega) (by omega)]; omega
  have b2 : (k : Int) < (C.M : Int) := by omega
  have c3 := h.mb.c 3
  have c4 := h.mb.c 4
  have c5 := h.mb.c 5
  simp at c3 c4 c5
  have H0 := hid h
  have HC := hid hc
  have HK := hid hk
  rw [show decide ((i, j) ∈ m) = false by simp [hm]] at mt
  have HM := hid hm
  have hmk := (Eqw.refl' w).kept h
  clear hm hmk
  clear h hc hk hd hq he hek hf hmo
  go_enter Try.func27, Try.ntmps27
  go_upto_region 1 with fail
  go_quiet (fail)
  obtain ⟨W0, hW0⟩ : ∃ W0, W0 = w.drewN nq := ⟨_, rfl⟩
  rw [← hW0]
  have HE0 : Hid (Eqw w W0) := by rw [hW0]; exact Eqw.drewN w nq
  clear hW0 c3 c4 a0 a1 a2 a3 a4
  replace c5 := (cell_eq (HE0.out.blk b) 5).trans c5
  replace mt := (cell_eq (HE0.out.blk C.gm) k).trans mt
  replace mf := (frz_eq (HE0.out.blk C.gm) k).trans mf
  have hD0 := HE0.out.kept H0.out
  obtain ⟨hD1, hB1⟩ := hD0.marked HC.out hi ha hj HM.out HK.out
  have r7 := hD1.mb.c 7
  have u7 := hD1.mb.u 7
  simp at r7
  obtain ⟨W1, hW1⟩ : ∃ W1, W1 = W0.setCell ⟨C.gm, k, none⟩ (.bool true) := ⟨_, rfl⟩
  rw [← hW1] at hD1 hB1 r7 u7
  have HW1 := hid hW1
  clear hW1
  obtain ⟨s1, hs1⟩ : ∃ s1, s1 = V.st + 1 := ⟨_, rfl⟩
  have a7 : IntKind.i64.wrap ((V.st : Int) + 1) = (s1 : Int) := by rw [wrap_ok _ (by omega) (by omega)]; omega
  obtain ⟨hD2, hB2⟩ := hD1.put (V' := { V with st := s1 }) 7 (.int .i64 (s1 : Int)) rfl ⟨rfl, rfl, rfl⟩ ⟨rfl, rfl, rfl⟩
  obtain ⟨W2, hW2⟩ : ∃ W2, W2 = W1.setCell ⟨b, 7, none⟩ (.int .i64 (s1 : Int)) := ⟨_, rfl⟩
  rw [← hW2] at hD2 hB2
  have HW2 := hid hW2
  have HS1 := hid hs1
  have HB2 := hid (((HE0.out.below B).trans hB1).trans hB2)
  have HD2 := hid hD2
  clear hW2 hs1 hD0 hD1 hB1 hB2
  go_upto_region 5 with fail
  rw [← HW1.out]
  clear HW1 c5 mt mf
  go_upto_region 6 with fail
  rw [← HW2.out]
  clear HW2 r7 u7 a7
  obtain ⟨pb, po, r1, r2, r3, hpa, hr2, hcs⟩ := pi_inst HD2.out.pi hil
  obtain ⟨⟨m0, n1, n2, n3, n4⟩, hrow⟩ := hcs W2 (Below.refl _ _)
  have hpb : pb < B := by
    obtain ⟨pb', po', ND, e', hpb', _⟩ := HD2.out.pi.mem (by have := HD2.out.pi.len; omega)
    rw [e'] at hpa
    simp only [Option.some.injEq, Addr.mk.injEq] at hpa
    omega
  have c0 := HD2.out.mb.c 0
  simp at c0
  rw [hpa] at c0
  have hin : (i : Int) < (C.n : Int) := by omega
  have HIOK := hid ((may_ok HC.out.may).2.2.2.2.2 _ (List.getElem_mem hil))
  obtain ⟨I, hI⟩ : ∃ I, I = l[i] := ⟨_, rfl⟩
  rw [← hI] at m0 n1 n2 n3 hr2 hrow HIOK hop
  have HI := hid hI
  have HACT : Hid (act l tx j i = actI tx I j) := by show act l tx j i = _; unfold act; rw [getD_in' hil, ← hI]
  have HR2 := hid hr2
  have HROW := hid hrow
  clear hI hr2 hrow hcs hpa
  rw [hop] at m0
  have HOP := hid hop
  clear hop
  have HN2 : Hid ((m ++ [(i, j)]).length ≤ 16777216) := by show _ ≤ _; have := HD2.out.okm.small; have := HC.out.M; omega
  have hx' := ok_x HIOK.out (by rw [HOP.out]; rfl)
  obtain ⟨xx, hxe⟩ := Int.eq_ofNat_of_zero_le hx'.1
  have hxl : xx < C.n := by have := HC.out.len; omega
  have HXX := hid hxe
  rw [hxe] at n1
  have hrb := ok_R HIOK.out HOP.out
  have HRB := hid hrb
  clear hrb
  obtain ⟨U, hU⟩ : ∃ U, U = W2.alloc (.cells #[.int .i64 1, .int .i64 (xx : Int), .int .i64 I.y, .int .i64 I.a, .slice r1 r2 r3] 53) := ⟨_, rfl⟩
  obtain ⟨x, hx⟩ : ∃ x, x = W2.heap.size := ⟨_, rfl⟩
  have hbU : Below W2.heap.size W2 U := by rw [hU]; exact Joins.below_alloc1 W2 _
  have hX0 : U.heap[x]? = some (.cells #[.int .i64 1, .int .i64 (xx : Int), .int .i64 I.y, .int .i64 I.a, .slice r1 r2 r3] 53 (0, 0)) := by rw [hU, hx]; exact heap_alloc_new W2 _
  have x0 := Joins.cell_of_block hX0 0
  have x1 := Joins.cell_of_block hX0 1
  have x2 := Joins.cell_of_block hX0 2
  have x3 := Joins.cell_of_block hX0 3
  have x4 := Joins.cell_of_block hX0 4
  simp at x0 x1 x2 x3 x4
  have hDU := HD2.out.below hbU
  have HDU := hid hDU
  have hBs := HD2.out.size
  have HBU := hid (HB2.out.trans (Joins.below_le hbU hBs))
  have hxU : x < U.heap.size := (Array.getElem?_eq_some_iff.1 hX0).1
  have hbx : b < x := by have := HD2.out.mb.lt; omega
  have hxb : x ≠ b := by omega
  have HBU2 := hid hbU
  have HXE := hid hx
  have HUE := hid hU
  have HXB := hid hX0
  clear hX0 hDU hbU hx hU
  go_upto_region 7 with fail
  rw [← HUE.out, ← HXE.out]
  clear HUE m0 n1 n2 n3 n4 c0
  have hzx : (Value.slice V.z1 V.z2 V.z3).ownBlock ≠ some x := fun e => by have := (HD2.out.row.lt x e).2; have := HXE.out; omega
  have t3 := HDU.out.mb.c 3
  simp at t3
  have g1 : decide ((j : Int) < (C.tn : Int)) = true := by simp; omega
  have g2 : (j : Int) < (C.tn : Int) := by omega
  have g3 : (0 : Int) ≤ (j : Int) := by omega
  obtain ⟨tb, tof, htad, htbN, htc⟩ : ∃ tb tof, C.tad = some ⟨tb, tof, none⟩ ∧ tb < B ∧ U.cell? ⟨tb, tof + j, none⟩ = some (.int .i64 (tx.getD j 0)) := by
    obtain ⟨_, _, h0 | ⟨tb, tof, h1, h2, h3⟩⟩ := HDU.out.tx
    · omega
    · exact ⟨tb, tof, h1, h2, h3 j (by omega)⟩
  have htbV : tb < U.heap.size := by have := HDU.out.size; omega
  rw [htad] at t3
  obtain ⟨rn, hrn⟩ : ∃ rn, rn = tx.getD j 0 := ⟨_, rfl⟩
  rw [← hrn] at htc hX
  have hbV : b < U.heap.size := HDU.out.mb.lt
  have HHS : Hid (∀ W, Eqw U W → Calls Try.prog 40 #[.slice r1 r2 r3, .int .i64 rn] W fun e w' => e = .returned (.bool (hsB I.R rn)) ∧ Below U.heap.size U w') := fun W e => by
    have hrow : RowAt W.heap.size W (.slice r1 r2 r3) I.R := RowAt.below HROW.out ((Joins.below_le HBU2.out hBs).trans (e.below _)) (Nat.le_refl _) (by rw [e.heap]; have := HDU.out.size; omega)
    have hsm : r2 ≤ 5000 := by rw [HR2.out]; have := HRB.out; unfold rightB at this; simp at this; exact this.1
    refine (has56 I.R rn r1 r2 r3 W HR2.out (by omega) hrow).mono ?_
    rintro e2 w' ⟨h1, h2⟩
    exact ⟨h1, (e.below _).trans (by have := h2; rw [e.heap] at this; exact this)⟩
  rw [← HI.out] at hX
  rw [hX] at HHS
  have HX := hid hX
  have HRN := hid hrn
  have HQ3 := hid t3
  have HV4 := hid x4
  have HV1 := hid x1
  have HTC := hid htc
  have HTA := hid htad
  generalize hMn : C.tn = tn at t3 HQ3 g1 g2
  generalize hMc : C.tc = tc at t3 HQ3
  have HMN := hid hMn
  clear hMn hMc hX hrn htad
  go_upto_region 10 with fail
  go_region_held3 (fun W => W.cell? ⟨b, 3, none⟩ = some (.slice (some ⟨tb, tof, none⟩) tn tc) ∧ W.cell? ⟨x, 4, none⟩ = some (.slice r1 r2 r3) ∧ W.cell? ⟨tb, tof + j, none⟩ = some (.int .i64 rn)) (first | (exact ⟨s0, s2, s3⟩) | (simp [*]; done)) (first | (go_at_call 40; (with_reducible refine (HHS.out _ (by exact ⟨rfl, rfl, rfl, rfl⟩)).mono ?_); rintro e w2 ⟨rfl, hb2⟩; have s0 := (cell_eq (hb2.block b hbV) _).trans HQ3.out; have s2 := (cell_eq (hb2.block x hxU) _).trans HV4.out; have s3 := (cell_eq (hb2.block tb htbV) _).trans HTC.out; have HB7 := hid hb2; clear hb2))
  clear x0 x2 x3 x4 t3 htc s0 s2 s3 HHS HQ3 HV4 HTC
  go_wp2
  all_goals go_ret
  all_goals exact ⟨rfl, by rw [HACT.out]; unfold actI; rw [HOP.out, ← HRN.out, HX.out]; simp, ⟨V.z1, V.z2, V.z3, by rw [← HS1.out]; exact HDU.out.below HB7.out⟩, HBU.out.trans (Joins.below_le HB7.out (by have := HDU.out.size; omega))⟩
set_option maxRecDepth 100000 in
set_option maxHeartbeats 8000000 in
theorem meet_rune_t {w : World} {B b i j : Nat} {l : List In} {tx : List Int} {C : Ck} {V : Cv} {st : List Tk} {m : List Pt} {cp : List Int} (h : DI w B b l tx C V st m cp) (hc : DC l tx C) (hok : (Tk.go i j).ok C.n C.a C.tn C.K) (hvs : V.st ≤ 16777216) (hsl : st.length ≤ m.length) (hml : m.length ≤ 16777216) (hm : (i, j) ∉ m) (hil0 : i < l.length) (hop : l[i].op = 1) (hjl : j < C.tn) (hX : hsB l[i].R (tx.getD j 0) = true) :
    Calls Try.prog 27 #[.pointer (some ⟨b, 0, none⟩), .int .i64 (i : Int), .int .i64 (j : Int)] w fun e w' => e = .returned (.bool false) ∧ (∃ x, act l tx j i = .rune x ∧ ∃ y1 y2 y3, DI w' B b l tx C { V with st := V.st + 1, z1 := y1, z2 := y2, z3 := y3 } (.go x (j + 1) :: st) (m ++ [(i, j)]) cp) ∧ Below B w w' := by
  obtain ⟨hi, ha, hj⟩ := hok
  have hmo := may_ok hc.may
  have hn20 : C.n ≤ 20000 := by have := hc.len; omega
  have htl := hc.tl
  have hK2 : C.K ≤ 1002 := by omega
  have hil : i < l.length := by have := hc.len; omega
  obtain ⟨k, hk⟩ : ∃ k, k = i * (C.tn - C.a + 1) + (j - C.a) := ⟨_, rfl⟩
  obtain ⟨mt, mf⟩ := met_at h.met hi ha hj
  rw [← hk] at mt mf
  have hkM : k < C.M := by
    obtain ⟨arr, h1, h2, h3⟩ := h.met
    have := h3 i j hi ha hj
    rw [← hk] at this
    have := (Array.getElem?_eq_some_iff.1 this).1
    omega
  have hMb := hc.big
  obtain ⟨d, hd⟩ : ∃ d, d = C.tn - C.a := ⟨_, rfl⟩
  obtain ⟨q, hq⟩ : ∃ q, q = C.tn - C.a + 1 := ⟨_, rfl⟩
  obtain ⟨e, he⟩ : ∃ e, e = i * q := ⟨_, rfl⟩
  have hek : e + (j - C.a) = k := by rw [hk, he, hq]
  have a0 : IntKind.i64.wrap ((C.tn : Int) - (C.a : Int)) = (d : Int) := by rw [wrap_ok _ (by omega) (by omega)]; omega
  have a1 : IntKind.i64.wrap ((d : Int) + 1) = (q : Int) := by rw [wrap_ok _ (by omega) (by omega)]; omega
  have a2 : IntKind.i64.wrap ((i : Int) * (q : Int)) = (e : Int) := by
    have : (i : Int) * (q : Int) = (e : Int) := by rw [he]; push_cast; rfl
    rw [this]; exact wrap_ok _ (by omega) (by omega)
  obtain ⟨f, hf⟩ : ∃ f, f = e + j := ⟨_, rfl⟩
  have a3 : IntKind.i64.wrap ((e : Int) + (j : Int)) = (f : Int) := by rw [wrap_ok _ (by omega) (by omega)]; omega
  have a4 : IntKind.i64.wrap ((f : Int) - (C.a : Int)) = (k : Int) := by rw [wrap_ok _ (by omega) (by omega)]; omega
  have b2 : (k : Int) < (C.M : Int) := by omega
  have c3 := h.mb.c 3
  have c4 := h.mb.c 4
  have c5 := h.mb.c 5
  simp at c3 c4 c5
  have H0 := hid h
  have HC := hid hc
  have HK := hid hk
  rw [show decide ((i, j) ∈ m) = false by simp [hm]] at mt
  have HM := hid hm
  have hmk := (Eqw.refl' w).kept h
  clear hm hmk
  clear h hc hk hd hq he hek hf hmo
  go_enter Try.func27, Try.ntmps27
  go_upto_region 1 with fail
  go_quiet (fail)
  obtain ⟨W0, hW0⟩ : ∃ W0, W0 = w.drewN nq := ⟨_, rfl⟩
  rw [← hW0]
  have HE0 : Hid (Eqw w W0) := by rw [hW0]; exact Eqw.drewN w nq
  clear hW0 c3 c4 a0 a1 a2 a3 a4
  replace c5 := (cell_eq (HE0.out.blk b) 5).trans c5
  replace mt := (cell_eq (HE0.out.blk C.gm) k).trans mt
  replace mf := (frz_eq (HE0.out.blk C.gm) k).trans mf
  have hD0 := HE0.out.kept H0.out
  obtain ⟨hD1, hB1⟩ := hD0.marked HC.out hi ha hj HM.out HK.out
  have r7 := hD1.mb.c 7
  have u7 := hD1.mb.u 7
  simp at r7
  obtain ⟨W1, hW1⟩ : ∃ W1, W1 = W0.setCell ⟨C.gm, k, none⟩ (.bool true) := ⟨_, rfl⟩
  rw [← hW1] at hD1 hB1 r7 u7
  have HW1 := hid hW1
  clear hW1
  obtain ⟨s1, hs1⟩ : ∃ s1, s1 = V.st + 1 := ⟨_, rfl⟩
  have a7 : IntKind.i64.wrap ((V.st : Int) + 1) = (s1 : Int) := by rw [wrap_ok _ (by omega) (by omega)]; omega
  obtain ⟨hD2, hB2⟩ := hD1.put (V' := { V with st := s1 }) 7 (.int .i64 (s1 : Int)) rfl ⟨rfl, rfl, rfl⟩ ⟨rfl, rfl, rfl⟩
  obtain ⟨W2, hW2⟩ : ∃ W2, W2 = W1.setCell ⟨b, 7, none⟩ (.int .i64 (s1 : Int)) := ⟨_, rfl⟩
  rw [← hW2] at hD2 hB2
  have HW2 := hid hW2
  have HS1 := hid hs1
  have HB2 := hid (((HE0.out.below B).trans hB1).trans hB2)
  have HD2 := hid hD2
  clear hW2 hs1 hD0 hD1 hB1 hB2
  go_upto_region 5 with fail
  rw [← HW1.out]
  clear HW1 c5 mt mf
  go_upto_region 6 with fail
  rw [← HW2.out]
  clear HW2 r7 u7 a7
  obtain ⟨pb, po, r1, r2, r3, hpa, hr2, hcs⟩ := pi_inst HD2.out.pi hil
  obtain ⟨⟨m0, n1, n2, n3, n4⟩, hrow⟩ := hcs W2 (Below.refl _ _)
  have hpb : pb < B := by
    obtain ⟨pb', po', ND, e', hpb', _⟩ := HD2.out.pi.mem (by have := HD2.out.pi.len; omega)
    rw [e'] at hpa
    simp only [Option.some.injEq, Addr.mk.injEq] at hpa
    omega
  have c0 := HD2.out.mb.c 0
  simp at c0
  rw [hpa] at c0
  have hin : (i : Int) < (C.n : Int) := by omega
  have HIOK := hid ((may_ok HC.out.may).2.2.2.2.2 _ (List.getElem_mem hil))
  obtain ⟨I, hI⟩ : ∃ I, I = l[i] := ⟨_, rfl⟩
  rw [← hI] at m0 n1 n2 n3 hr2 hrow HIOK hop
  have HI := hid hI
  have HACT : Hid (act l tx j i = actI tx I j) := by show act l tx j i = _; unfold act; rw [getD_in' hil, ← hI]
  have HR2 := hid hr2
  have HROW := hid hrow
  clear hI hr2 hrow hcs hpa
  rw [hop] at m0
  have HOP := hid hop
  clear hop
  have HN2 : Hid ((m ++ [(i, j)]).length ≤ 16777216) := by show _ ≤ _; have := HD2.out.okm.small; have := HC.out.M; omega
  have hx' := ok_x HIOK.out (by rw [HOP.out]; rfl)
  obtain ⟨xx, hxe⟩ := Int.eq_ofNat_of_zero_le hx'.1
  have hxl : xx < C.n := by have := HC.out.len; omega
  have HXX := hid hxe
  rw [hxe] at n1
  have hrb := ok_R HIOK.out HOP.out
  have HRB := hid hrb
  clear hrb
  obtain ⟨U, hU⟩ : ∃ U, U = W2.alloc (.cells #[.int .i64 1, .int .i64 (xx : Int), .int .i64 I.y, .int .i64 I.a, .slice r1 r2 r3] 53) := ⟨_, rfl⟩
  obtain ⟨x, hx⟩ : ∃ x, x = W2.heap.size := ⟨_, rfl⟩
  have hbU : Below W2.heap.size W2 U := by rw [hU]; exact Joins.below_alloc1 W2 _
  have hX0 : U.heap[x]? = some (.cells #[.int .i64 1, .int .i64 (xx : Int), .int .i64 I.y, .int .i64 I.a, .slice r1 r2 r3] 53 (0, 0)) := by rw [hU, hx]; exact heap_alloc_new W2 _
  have x0 := Joins.cell_of_block hX0 0
  have x1 := Joins.cell_of_block hX0 1
  have x2 := Joins.cell_of_block hX0 2
  have x3 := Joins.cell_of_block hX0 3
  have x4 := Joins.cell_of_block hX0 4
  simp at x0 x1 x2 x3 x4
  have hDU := HD2.out.below hbU
  have HDU := hid hDU
  have hBs := HD2.out.size
  have HBU := hid (HB2.out.trans (Joins.below_le hbU hBs))
  have hxU : x < U.heap.size := (Array.getElem?_eq_some_iff.1 hX0).1
  have hbx : b < x := by have := HD2.out.mb.lt; omega
  have hxb : x ≠ b := by omega
  have HBU2 := hid hbU
  have HXE := hid hx
  have HUE := hid hU
  have HXB := hid hX0
  clear hX0 hDU hbU hx hU
  go_upto_region 7 with fail
  rw [← HUE.out, ← HXE.out]
  clear HUE m0 n1 n2 n3 n4 c0
  have hzx : (Value.slice V.z1 V.z2 V.z3).ownBlock ≠ some x := fun e => by have := (HD2.out.row.lt x e).2; have := HXE.out; omega
  have t3 := HDU.out.mb.c 3
  simp at t3
  have g1 : decide ((j : Int) < (C.tn : Int)) = true := by simp; omega
  have g2 : (j : Int) < (C.tn : Int) := by omega
  have g3 : (0 : Int) ≤ (j : Int) := by omega
  obtain ⟨tb, tof, htad, htbN, htc⟩ : ∃ tb tof, C.tad = some ⟨tb, tof, none⟩ ∧ tb < B ∧ U.cell? ⟨tb, tof + j, none⟩ = some (.int .i64 (tx.getD j 0)) := by
    obtain ⟨_, _, h0 | ⟨tb, tof, h1, h2, h3⟩⟩ := HDU.out.tx
    · omega
    · exact ⟨tb, tof, h1, h2, h3 j (by omega)⟩
  have htbV : tb < U.heap.size := by have := HDU.out.size; omega
  rw [htad] at t3
  obtain ⟨rn, hrn⟩ : ∃ rn, rn = tx.getD j 0 := ⟨_, rfl⟩
  rw [← hrn] at htc hX
  have hbV : b < U.heap.size := HDU.out.mb.lt
  have HHS : Hid (∀ W, Eqw U W → Calls Try.prog 40 #[.slice r1 r2 r3, .int .i64 rn] W fun e w' => e = .returned (.bool (hsB I.R rn)) ∧ Below U.heap.size U w') := fun W e => by
    have hrow : RowAt W.heap.size W (.slice r1 r2 r3) I.R := RowAt.below HROW.out ((Joins.below_le HBU2.out hBs).trans (e.below _)) (Nat.le_refl _) (by rw [e.heap]; have := HDU.out.size; omega)
    have hsm : r2 ≤ 5000 := by rw [HR2.out]; have := HRB.out; unfold rightB at this; simp at this; exact this.1
    refine (has56 I.R rn r1 r2 r3 W HR2.out (by omega) hrow).mono ?_
    rintro e2 w' ⟨h1, h2⟩
    exact ⟨h1, (e.below _).trans (by have := h2; rw [e.heap] at this; exact this)⟩
  rw [← HI.out] at hX
  rw [hX] at HHS
  have HX := hid hX
  have HRN := hid hrn
  have HQ3 := hid t3
  have HV4 := hid x4
  have HV1 := hid x1
  have HTC := hid htc
  have HTA := hid htad
  generalize hMn : C.tn = tn at t3 HQ3 g1 g2
  generalize hMc : C.tc = tc at t3 HQ3
  have HMN := hid hMn
  clear hMn hMc hX hrn htad
  go_upto_region 10 with fail
  go_region_held3 (fun W => W.cell? ⟨b, 3, none⟩ = some (.slice (some ⟨tb, tof, none⟩) tn tc) ∧ W.cell? ⟨x, 4, none⟩ = some (.slice r1 r2 r3) ∧ W.cell? ⟨tb, tof + j, none⟩ = some (.int .i64 rn)) (first | (exact ⟨s0, s2, s3⟩) | (simp [*]; done)) (first | (go_at_call 40; (with_reducible refine (HHS.out _ (by exact ⟨rfl, rfl, rfl, rfl⟩)).mono ?_); rintro e w2 ⟨rfl, hb2⟩; have s0 := (cell_eq (hb2.block b hbV) _).trans HQ3.out; have s2 := (cell_eq (hb2.block x hxU) _).trans HV4.out; have s3 := (cell_eq (hb2.block tb htbV) _).trans HTC.out; have HB7 := hid hb2; clear hb2))
  clear x0 x2 x3 x4 t3 htc s0 s2 s3 HHS HQ3 HV4 HTC
  have HDW := hid (HDU.out.below HB7.out)
  have x1' := (cell_eq (HB7.out.block x hxU) 1).trans HV1.out
  clear x1
  have x1 := x1'
  clear x1'
  have HXLT : Hid (x < w2.heap.size) := lt_of_cell' x1
  have aj : IntKind.i64.wrap ((j : Int) + 1) = (j : Int) + 1 := wrap_ok _ (by omega) (by omega)
  go_upto_region 12 with fail
  skip
  have z9 := HDW.out.mb.c 9
  simp at z9
  refine wp_region_lex 10 14 (fun W => W.cell? ⟨b, 9, none⟩ = some (.slice V.z1 V.z2 V.z3) ∧ W.cell? ⟨x, 1, none⟩ = some (.int .i64 (xx : Int))) (by kernel_rfl) (by kernel_rfl) (by decide) (by kernel_rfl) (by kernel_rfl) ⟨z9, x1⟩ ?_
  simp only [List.take_succ_cons, List.take_zero, List.drop_succ_cons, List.drop_zero]
  iterate 10
    refine lex_cons ?_ rfl (fun W hW => ?_) (fun _ _ _ h => h) ?_
    rotate_left
    · obtain ⟨s0, s1⟩ := hW
      go_simp <;> with_reducible rfl
    simp only [Act.put, List.setIfInBounds_toArray, List.set_cons_zero, List.set_cons_succ]
  obtain ⟨A, hA⟩ : ∃ A, A = (w2.alloc (.cells #[.bool false, .int .i64 (xx : Int), .int .i64 ((j : Int) + 1), .int .i64 0, .int .i64 0] 79)).drew := ⟨_, rfl⟩
  have hAw : Below w2.heap.size w2 A := by rw [hA]; exact (Joins.below_alloc1 w2 _).trans ((Eqw.drew _).below _)
  have hAX : A.heap[w2.heap.size]? = some (.cells #[.bool false, .int .i64 (xx : Int), .int .i64 ((j : Int) + 1), .int .i64 0, .int .i64 0] 79 (0, 0)) := by rw [hA]; exact heap_alloc_new w2 _
  have hDA := HDW.out.below hAw
  have HROWA := hid hDA.row
  have hAs : B ≤ A.heap.size := hDA.size
  have a9 : A.cell? ⟨b, 9, none⟩ = some (.slice V.z1 V.z2 V.z3) := by have := hDA.mb.c 9; simpa using this
  have as0 : A.cell? ⟨x, 1, none⟩ = some (.int .i64 (xx : Int)) := (hAw.cell (p := ⟨x, 1, none⟩) (lt_of_cell' x1)).trans x1
  have hzl := HDW.out.zl
  have hstl := HDW.out.stl
  have HZL := hid hzl
  dsimp only at hzl HROWA
  have hzs : V.z2 ≤ 16777300 := by have := HN2.out; (try simp only [List.length_cons] at hzl); simp only [List.length_append, List.length_cons, List.length_nil] at this hstl; omega
  have HAW := hid hAw
  obtain ⟨wl, hwl⟩ : ∃ wl, wl = w2.heap.size := ⟨_, rfl⟩
  rw [← hwl] at hAX
  have HAE := hid hA
  have HWL := hid hwl
  clear hDA hAw hzl hstl hA hwl
  refine lex_nil (tail_cons fun KK hKK => ?_)
  go_simp
  rw [← HAE.out, ← HWL.out]
  refine hKK.out _ _ (fun _ => ⟨a9, as0⟩) (tail_cons fun KK hKK => ?_)
  obtain ⟨i2, hi2, hz20, hz21, hz22⟩ := info_parts info79
  refine step_append_row rfl (.tmp 88) (.tmp 94) 47 rfl B 79 i2 (.agg #[.bool false, .int .i64 0, .int .i64 0, .int .i64 0, .int .i64 0]) 5 40 Try.underlying47 hi2 hz20 hz21 hz22 rfl (by decide) (.slice V.z1 V.z2 V.z3) V.z2 (sdk st) (by simp [Act.eval, Act.put]) (by exact HROWA.out) wl 1 1 #[.bool false, .int .i64 (xx : Int), .int .i64 ((j : Int) + 1), .int .i64 0, .int .i64 0] 79 (by simp [Act.eval, Act.put]) hAX rfl (by decide) (by simp [Value.oneCell']) (by unfold maxLen; omega) (by omega) hAs ?_
  intro v3 wa ho3 hf3
  obtain ⟨y1, y3, rfl, _⟩ := row_shape ho3.out
  obtain ⟨p1, p2, p3⟩ := HDW.out.pushed (ts := [.go xx (j + 1)]) (k := V.z2 + 1) HAW.out (fun t ht => by simp at ht; subst ht; exact ⟨hxl, by omega, by have := HMN.out; omega⟩) (by simp; omega) rfl ho3.out hf3.out
  have w9 := p3.c 9
  have v9 := p3.u 9
  simp at w9
  have ws0 : wa.cell? ⟨x, 1, none⟩ = some (.int .i64 (xx : Int)) := (cell_eq (hf3.out.block x (lt_of_cell' as0) hzx) 1).trans as0
  have HSS : Hid (wa.cell? ⟨b, 9, none⟩ = some (.slice V.z1 V.z2 V.z3) ∧ wa.cell? ⟨x, 1, none⟩ = some (.int .i64 (xx : Int))) := ⟨w9, ws0⟩
  have hkx0 : (wa.setCell ⟨b, 9, none⟩ (.slice y1 (V.z2 + 1) y3)).heap[x]? = w2.heap[x]? := (Below.heap_setCell _ _ _ _ hxb).trans ((hf3.out.block x (Nat.lt_of_lt_of_le HXLT.out HAW.out.size) hzx).trans (HAW.out.block x HXLT.out))
  have HP1 := hid p1
  have HP2 := hid p2
  have HKX := hid hkx0
  clear p1 p2 p3
  refine hKK.out _ _ (fun _ => HSS.out) (tail_cons fun KK hKK => ?_)
  simp only [Act.put, List.setIfInBounds_toArray, List.set_cons_zero, List.set_cons_succ]
  go_simp
  refine hKK.out _ _ (fun _ => HSS.out) (tail_cons fun KK hKK => ?_)
  simp only [Act.put, List.setIfInBounds_toArray, List.set_cons_zero, List.set_cons_succ]
  go_simp
  refine hKK.out _ _ (fun _ => HSS.out) (tail_cons fun KK hKK => ?_)
  simp only [Act.put, List.setIfInBounds_toArray, List.set_cons_zero, List.set_cons_succ]
  go_simp
  refine hKK.out _ _ (fun h => absurd rfl h) (tail_nil ?_)
  obtain ⟨WF, hWF⟩ : ∃ WF, WF = wa.setCell ⟨b, 9, none⟩ (.slice y1 (V.z2 + 1) y3) := ⟨_, rfl⟩
  rw [← hWF] at HP1 HP2 HKX ⊢
  clear hkx0 hWF w9 v9 ho3 hf3 HSS HROWA a9 hAX z9 HAE HWL HAW
  go_wp2
  all_goals go_ret
  all_goals exact ⟨rfl, ⟨xx, by rw [HACT.out]; unfold actI; rw [HOP.out, HXX.out, ← HRN.out, HX.out]; have := HC.out.tn; have := HMN.out; simp; omega, _, _, _, by rw [← HS1.out]; exact HP1.out⟩, HBU.out.trans ((Joins.below_le HB7.out (by have := HDU.out.size; omega)).trans HP2.out)⟩
end Go.Proofs.Ytodpmmlfdkdemaa
/- HELPERS: the document's meet whole; its beginnings. -/
namespace Go.Proofs.Ytodpmmlfdkdemaa
open Go.RowKit Go.Lk
set_option linter.unusedVariables false
set_option linter.unusedSimpArgs false
section
variable {w : World} {B b i j : Nat} {l : List In} {tx : List Int} {C : Ck} {V : Cv} {st : List Tk} {m : List Pt} {cp : List Int}
theorem act_in (h : i < l.length) : act l tx j i = actI tx l[i] j := by unfold act; rw [getD_in' h]
theorem meet_new {ub : Nat} (h : DI w B b l tx C V st m cp) (hc : DC l tx C) (hok : (Tk.go i j).ok C.n C.a C.tn C.K) (hvs : V.st ≤ 16777216) (hsl : st.length ≤ m.length) (hml : m.length ≤ 16777216) (hm : (i, j) ∉ m) (hno : ∀ y, act l tx j i ≠ .fit y) (hu1 : V.u1 = some ⟨ub, 0, none⟩) (hu2 : V.u2 = C.K) (hcl : cp.length = C.K) (hoc : okC C.tn cp) :
    Calls Try.prog 27 #[.pointer (some ⟨b, 0, none⟩), .int .i64 (i : Int), .int .i64 (j : Int)] w fun e w' => e = .returned (.bool false) ∧ (∃ y1 y2 y3, DI w' B b l tx C { V with st := V.st + 1, z1 := y1, z2 := y2, z3 := y3 } ((nx (act l tx) i j cp).1 ++ st) (m ++ [(i, j)]) (nx (act l tx) i j cp).2) ∧ Below B w w' := by
  have hil : i < l.length := by have := hc.len; have := hok.1; omega
  have hops := ok_op ((may_ok hc.may).2.2.2.2.2 _ (List.getElem_mem hil))
  rcases hops with ho | ho | ho | ho | ho | ho | ho
  · by_cases hje : j = C.tn
    · refine (meet_rune_e h hc hok hvs hsl hml hm hil ho hje).mono ?_
      rintro e w' ⟨h1, h2, ⟨y1, y2, y3, h3⟩, h4⟩
      exact ⟨h1, ⟨y1, y2, y3, by unfold nx; rw [h2]; exact h3⟩, h4⟩
    · have hjl : j < C.tn := by have := hok.2.2; omega
      cases hX : hsB l[i].R (tx.getD j 0)
      · refine (meet_rune_f h hc hok hvs hsl hml hm hil ho hjl hX).mono ?_
        rintro e w' ⟨h1, h2, ⟨y1, y2, y3, h3⟩, h4⟩
        exact ⟨h1, ⟨y1, y2, y3, by unfold nx; rw [h2]; exact h3⟩, h4⟩
      · refine (meet_rune_t h hc hok hvs hsl hml hm hil ho hjl hX).mono ?_
        rintro e w' ⟨h1, ⟨x, h2, y1, y2, y3, h3⟩, h4⟩
        exact ⟨h1, ⟨y1, y2, y3, by unfold nx; rw [h2]; exact h3⟩, h4⟩
  · refine (meet_alt h hc hok hvs hsl hml hm hil ho).mono ?_
    rintro e w' ⟨h1, ⟨x, y, h2, y1, y2, y3, h3⟩, h4⟩
    exact ⟨h1, ⟨y1, y2, y3, by unfold nx; rw [h2]; exact h3⟩, h4⟩
  · refine (meet_cap h hc hok hvs hsl hml hm hil ho hu1 hu2 hcl hoc).mono ?_
    rintro e w' ⟨h1, ⟨x, y, h2, y1, y2, y3, h3⟩, h4⟩
    exact ⟨h1, ⟨y1, y2, y3, by unfold nx; rw [h2]; exact h3⟩, h4⟩
  · cases hX : holdsB l[i].a (atP tx j)
    · refine (meet_assert_f h hc hok hvs hsl hml hm hil ho hX).mono ?_
      rintro e w' ⟨h1, h2, ⟨y1, y2, y3, h3⟩, h4⟩
      exact ⟨h1, ⟨y1, y2, y3, by unfold nx; rw [h2]; exact h3⟩, h4⟩
    · refine (meet_assert_t h hc hok hvs hsl hml hm hil ho hX).mono ?_
      rintro e w' ⟨h1, ⟨x, h2, y1, y2, y3, h3⟩, h4⟩
      exact ⟨h1, ⟨y1, y2, y3, by unfold nx; rw [h2]; exact h3⟩, h4⟩
  · exact absurd (show act l tx j i = .fit l[i].a by rw [act_in hil]; unfold actI; rw [ho]; simp) (hno _)
  · refine (meet_fail h hc hok hvs hsl hml hm hil ho).mono ?_
    rintro e w' ⟨h1, y1, y2, y3, h3, h4, h2⟩
    exact ⟨h1, ⟨y1, y2, y3, by unfold nx; rw [h2]; exact h3⟩, h4⟩
  · refine (meet_nop h hc hok hvs hsl hml hm hil ho).mono ?_
    rintro e w' ⟨h1, ⟨x, h2, y1, y2, y3, h3⟩, h4⟩
    exact ⟨h1, ⟨y1, y2, y3, by unfold nx; rw [h2]; exact h3⟩, h4⟩
theorem meet_fit {y : Int} (h : DI w B b l tx C V st m cp) (hc : DC l tx C) (hok : (Tk.go i j).ok C.n C.a C.tn C.K) (hvs : V.st ≤ 16777216) (hsl : st.length ≤ m.length) (hml : m.length ≤ 16777216) (hm : (i, j) ∉ m) (hy : act l tx j i = .fit y) :
    Calls Try.prog 27 #[.pointer (some ⟨b, 0, none⟩), .int .i64 (i : Int), .int .i64 (j : Int)] w fun e w' => e = .returned (.bool true) ∧ DI w' B b l tx C { V with st := V.st + 1, wh := y } st (m ++ [(i, j)]) cp ∧ Below B w w' := by
  have hil : i < l.length := by have := hc.len; have := hok.1; omega
  have ho : l[i].op = 5 := by
    rw [act_in hil] at hy
    unfold actI at hy
    split at hy
    · cases hy
    · split at hy
      · cases hy
      · split at hy
        · cases hy
        · split at hy
          · split at hy <;> cases hy
          · split at hy
            · split at hy <;> cases hy
            · split at hy
              · assumption
              · cases hy
  refine (meet_match h hc hok hvs hsl hml hm hil ho).mono ?_
  rintro e w' ⟨h1, ⟨y', h2, h3⟩, h4⟩
  rw [hy] at h2
  cases h2
  exact ⟨h1, h3, h4⟩
/-- new captures -/
theorem DI.newcaps {K : Nat} (h : DI w B b l tx C V st m cp) (hK : K ≤ 10000) :
    DI ((w.alloc (.cells (madeCells #[.int .i64 0] K) 3)).setCell ⟨b, 6, none⟩ (.slice (some ⟨w.heap.size, 0, none⟩) K K)) B b l tx C { V with u1 := some ⟨w.heap.size, 0, none⟩, u2 := K, u3 := K } st m (List.replicate K 0) ∧ Below B w ((w.alloc (.cells (madeCells #[.int .i64 0] K) 3)).setCell ⟨b, 6, none⟩ (.slice (some ⟨w.heap.size, 0, none⟩) K K)) := by
  have hb := Joins.below_alloc1 w (.cells (madeCells #[.int .i64 0] K) 3)
  have h1 := h.below hb
  have hrow : (w.alloc (.cells (madeCells #[.int .i64 0] K) 3)).ownsRow B 3 1 (.slice (some ⟨w.heap.size, 0, none⟩) K K) K (I64 (List.replicate K 0)) := by
    have h' := World.ownsRow_lit (base := B) (e := 3) (size := 1) w (madeCells #[.int .i64 0] K) K h.size (by unfold maxLen; omega) (by rw [size_madeCells]; omega)
    rw [toList_madeCells_one] at h'
    simpa [I64] using h'
  generalize w.alloc (.cells (madeCells #[.int .i64 0] K) 3) = A at hb h1 hrow ⊢
  have hb2 : Below B A (A.setCell ⟨b, 6, none⟩ (.slice (some ⟨w.heap.size, 0, none⟩) K K)) := (Below.refl B A).setCell (p := ⟨b, 6, none⟩) h.lo _
  have ho : ∀ q, q ≠ b → (A.setCell ⟨b, 6, none⟩ (.slice (some ⟨w.heap.size, 0, none⟩) K K)).heap[q]? = A.heap[q]? := fun q hq => Below.heap_setCell _ _ _ _ hq
  exact ⟨⟨h1.mb.upd 6 _ rfl, h.lo, h.lg, h1.pi.kept hb2 (Nat.le_refl _), h1.tx.below hb2, own_setCell hrow (own_ne hrow h1.mb (by decide)), row_kept h1.row (fun q hq => ho q (fun e => h1.row_b (by rw [← e]; exact hq))), h1.met.keep (ho _ h1.gm_b), h.zl, h.okm, h.okt, h.stl⟩, (Joins.below_le hb h.size).trans hb2⟩
/-- a new stack -/
theorem DI.newstack {S at_ : Nat} (h : DI w B b l tx C V st m cp) (ht : (Tk.go S at_).ok C.n C.a C.tn C.K) :
    DI ((w.alloc (.cells #[.bool false, .int .i64 (S : Int), .int .i64 (at_ : Int), .int .i64 0, .int .i64 0] 79)).setCell ⟨b, 9, none⟩ (.slice (some ⟨w.heap.size, 0, none⟩) 1 1)) B b l tx C { V with z1 := some ⟨w.heap.size, 0, none⟩, z2 := 1, z3 := 1 } [.go S at_] m cp ∧ Below B w ((w.alloc (.cells #[.bool false, .int .i64 (S : Int), .int .i64 (at_ : Int), .int .i64 0, .int .i64 0] 79)).setCell ⟨b, 9, none⟩ (.slice (some ⟨w.heap.size, 0, none⟩) 1 1)) := by
  have hb := Joins.below_alloc1 w (.cells #[.bool false, .int .i64 (S : Int), .int .i64 (at_ : Int), .int .i64 0, .int .i64 0] 79)
  have h1 := h.below hb
  have hrow : (w.alloc (.cells #[.bool false, .int .i64 (S : Int), .int .i64 (at_ : Int), .int .i64 0, .int .i64 0] 79)).ownsRow B 79 5 (.slice (some ⟨w.heap.size, 0, none⟩) 1 1) 1 (sdk [.go S at_]) := World.ownsRow_lit (base := B) (e := 79) (size := 5) w #[.bool false, .int .i64 (S : Int), .int .i64 (at_ : Int), .int .i64 0, .int .i64 0] 1 h.size (by unfold maxLen; omega) rfl
  generalize w.alloc (.cells #[.bool false, .int .i64 (S : Int), .int .i64 (at_ : Int), .int .i64 0, .int .i64 0] 79) = A at hb h1 hrow ⊢
  have hb2 : Below B A (A.setCell ⟨b, 9, none⟩ (.slice (some ⟨w.heap.size, 0, none⟩) 1 1)) := (Below.refl B A).setCell (p := ⟨b, 9, none⟩) h.lo _
  have ho : ∀ q, q ≠ b → (A.setCell ⟨b, 9, none⟩ (.slice (some ⟨w.heap.size, 0, none⟩) 1 1)).heap[q]? = A.heap[q]? := fun q hq => Below.heap_setCell _ _ _ _ hq
  exact ⟨⟨h1.mb.upd 9 _ rfl, h.lo, h.lg, h1.pi.kept hb2 (Nat.le_refl _), h1.tx.below hb2, row_kept h1.cap (fun q hq => ho q (fun e => h1.cap_b (by rw [← e]; exact hq))), own_setCell hrow (own_ne hrow h1.mb (by decide)), h1.met.keep (ho _ h1.gm_b), rfl, h.okm, fun t hu => by simp at hu; subst hu; exact ht, by simp⟩, (Joins.below_le hb h.size).trans hb2⟩
end
/-- what the document's beginning leaves -/
def DF (C : Ck) (V : Cv) (st : List Tk) (cp : List Int) : Fd → Prop
  | none => st = []
  | some y => V.wh = y.1 ∧ cp = y.2 ∧ ∃ ub, V.u1 = some ⟨ub, 0, none⟩ ∧ V.u2 = C.K ∧ V.u3 = C.K
/-- between two tasks -/
def EO (w0 w : World) (B b : Nat) (l : List In) (tx : List Int) (C : Ck) (r : Fd) (m' : List Pt) (k : Nat) : Prop :=
  ∃ V st m cp ub, DI w B b l tx C V st m cp ∧ V.st = m.length ∧ Ev (act l tx) k st m cp r m' ∧ V.u1 = some ⟨ub, 0, none⟩ ∧ V.u2 = C.K ∧ V.u3 = C.K ∧ cp.length = C.K ∧ okC C.tn cp ∧ Below B w0 w
theorem makeK25 (c : Nat) (hc : c ≤ 10000) (w : World) : (Instr.makeSlice 25 (.int .i64 (c : Int)) (.int .i64 (c : Int))).run Try.prog w = .ok (.slice (some ⟨w.heap.size, 0, none⟩) c c) (w.alloc (.cells (madeCells #[.int .i64 0] c) 3)) := by
  obtain ⟨i0, hi0, hz0, hz1, hz2⟩ := info_parts info3
  have h := run_make (P := Try.prog) w 25 3 i0 (.int .i64 0) Try.underlying25 hi0 hz0 .i64 .i64 c c (by omega) (by omega) (by rw [hz2]; omega) (by omega)
  simp only [Int.toNat_natCast, hz1, Nat.mul_one] at h
  exact h
end Go.Proofs.Ytodpmmlfdkdemaa
namespace Go.Proofs.Ytodpmmlfdkdemaa
open Go.RowKit Go.Lk
set_option linter.unusedVariables false
set_option linter.unusedSimpArgs false
theorem fill_m1 (i K : Nat) (h : i < K) : (List.replicate i (-1 : Int) ++ List.replicate (K - i) 0).set i (-1) = List.replicate (i + 1) (-1) ++ List.replicate (K - (i + 1)) 0 := by
  rw [List.set_append_right _ _ (by simp), show K - i = (K - (i + 1)) + 1 by omega, List.replicate_succ (n := K - (i + 1)), List.length_replicate, Nat.sub_self, List.set_cons_zero, List.replicate_succ' (n := i)]
  simp
theorem nx_len (A : Nat → Nat → Ac) (i j : Nat) (c : List Int) : (nx A i j c).2.length = c.length := by
  unfold nx; split <;> simp
theorem nx_ok {A : Nat → Nat → Ac} {i j len : Nat} {c : List Int} (h : okC len c) (hj : j ≤ len) : okC len (nx A i j c).2 := by
  unfold nx; split
  all_goals first | exact h | exact h.set _ ⟨by omega, by omega⟩
set_option maxRecDepth 100000 in
set_option maxHeartbeats 16000000 in
theorem from18 {w : World} {B b at_ : Nat} {l : List In} {tx : List Int} {C : Ck} {V : Cv} {m : List Pt} {cp0 : List Int} {r : Fd} {m' : List Pt} {N : Nat} (h : DI w B b l tx C V [] m cp0) (hc : DC l tx C) (hfs : V.st = m.length) (ha : C.a ≤ at_) (hat : at_ ≤ C.tn) (hev : Ev (act l tx) N [.go C.S at_] m (List.replicate C.K (-1)) r m') :
    Calls Try.prog 18 #[.pointer (some ⟨b, 0, none⟩), .int .i64 (at_ : Int)] w fun e w' => e = .returned (.bool r.isSome) ∧ ∃ V' st cp', DI w' B b l tx C V' st m' cp' ∧ V'.st = m'.length ∧ DF C V' st cp' r ∧ Below B w w' := by
  have hmo := may_ok hc.may
  have hlen := hc.len
  have hn20 : C.n ≤ 20000 := by omega
  have hSn : C.S < C.n := by omega
  have hK : C.K ≤ 1002 := by omega
  have hK2 : 2 ≤ C.K := by omega
  have htl := hc.tl
  have HDC := hid hc
  have HMS : Hid (∀ (V : Cv) st m cp (w : World), DI w B b l tx C V st m cp → m.length ≤ 16777216) := fun V st m cp w h => by have := h.okm.small; have := hc.big; have := hc.M; omega
  have HEV := hid hev
  have HFS := hid hfs
  obtain ⟨rs, hrs⟩ : ∃ rs, rs = r.isSome := ⟨_, rfl⟩
  rw [← hrs]
  have HRS := hid hrs
  have c2 := h.mb.c 2
  have c6 := h.mb.c 6
  have u6 := h.mb.u 6
  simp at c2 c6
  have hmk := makeK25 C.K (by omega) w
  obtain ⟨A, hA⟩ : ∃ A, A = w.alloc (.cells (madeCells #[.int .i64 0] C.K) 3) := ⟨_, rfl⟩
  obtain ⟨ub, hub⟩ : ∃ ub, ub = w.heap.size := ⟨_, rfl⟩
  have hbA : Below w.heap.size w A := by rw [hA]; exact Joins.below_alloc1 w _
  have d6 := (hbA.cell (p := ⟨b, 6, none⟩) h.mb.lt).trans c6
  have v6 := (h.below hbA).mb.u 6
  rw [← hA, ← hub] at hmk
  obtain ⟨p1, p2⟩ := h.newcaps (K := C.K) (by omega)
  rw [← hA, ← hub] at p1 p2
  obtain ⟨W1, hW1⟩ : ∃ W1, W1 = A.setCell ⟨b, 6, none⟩ (.slice (some ⟨ub, 0, none⟩) C.K C.K) := ⟨_, rfl⟩
  rw [← hW1] at p1 p2
  have HP1 := hid p1
  have HP2 := hid p2
  have HW1 := hid hW1
  obtain ⟨Kk, hKk⟩ : ∃ Kk, Kk = C.K := ⟨_, rfl⟩
  have HKK := hid hKk
  rw [← hKk] at hmk c2 hK hK2
  have HW1' : Hid (W1 = A.setCell ⟨b, 6, none⟩ (.slice (some ⟨ub, 0, none⟩) Kk Kk)) := by show W1 = _; rw [hKk]; exact hW1
  clear h hc hev hfs hmo hrs hA hub hbA p1 p2 hW1 hKk HW1 c6 u6
  go_enter Try.func18, Try.ntmps18
  go_upto_region 2 with fail
  rw [← HW1'.out]
  clear HW1' hmk c2 d6 v6
  go_wp2_with fail
  have HFILL : Hid (DI W1 B b l tx C { V with u1 := some ⟨ub, 0, none⟩, u2 := Kk, u3 := Kk } [] m (List.replicate 0 (-1) ++ List.replicate (Kk - 0) 0)) := by show DI _ _ _ _ _ _ _ _ _ _; rw [HKK.out]; simpa using HP1.out
  go_loopw [5] (fun s5 wr => ∃ q : Nat, s5 = .int .i64 (q : Int) ∧ q ≤ Kk ∧ Hid (DI wr B b l tx C { V with u1 := some ⟨ub, 0, none⟩, u2 := Kk, u3 := Kk } [] m (List.replicate q (-1) ++ List.replicate (Kk - q) 0)) ∧ Hid (Below B w wr)) (fun s5 _ => Kk - (intOf s5).toNat)
  case atStart => exact ⟨0, rfl, Nat.zero_le _, HFILL.out, HP2.out⟩
  case round =>
    clear HFILL HP1 HP2
    obtain ⟨q, rfl, hq, HD, HB⟩ := hrel
    have e6 := HD.out.mb.c 6
    simp at e6
    by_cases hql : q < Kk
    · have b1 : decide ((q : Int) < (Kk : Int)) = true := by simp; omega
      have b2 : (q : Int) < (Kk : Int) := by omega
      have ap : IntKind.i64.wrap ((q : Int) + 1) = (q : Int) + 1 := wrap_ok _ (by omega) (by omega)
      have l0 := row_there HD.out.cap (j := q) (m := 1) (by dsimp only; omega) 0 (by omega)
      rw [Nat.add_zero] at l0
      obtain ⟨vv, hvv⟩ := Option.isSome_iff_exists.1 l0.1
      have fz := l0.2
      have hq2 : q < 9223372036854775807 := by omega
      have hs := HD.out.setc rfl q (-1)
      rw [fill_m1 q Kk hql] at hs
      have HS := hid hs
      clear l0 hs
      go_wp2
      exact ⟨⟨q + 1, by push_cast; rfl, by omega, HS.out.1, HB.out.trans HS.out.2⟩, by simp [intOf]; omega⟩
    · have b1 : decide ((q : Int) < (Kk : Int)) = false := by simp; omega
      have b2 : ¬ ((q : Int) < (Kk : Int)) := by omega
      obtain rfl : Kk = q := by omega
      have hD := HD.out
      rw [Nat.sub_self, List.replicate_zero, List.append_nil] at hD
      have c1 := hD.mb.c 1
      have c9 := hD.mb.c 9
      have u9 := hD.mb.u 9
      simp at c1 c9
      obtain ⟨n1, n2⟩ := hD.newstack (S := C.S) (at_ := at_) ⟨hSn, ha, hat⟩
      obtain ⟨y, hy⟩ : ∃ y, y = wr.heap.size := ⟨_, rfl⟩
      obtain ⟨Sn, hSe⟩ : ∃ Sn, Sn = C.S := ⟨_, rfl⟩
      rw [← hSe] at n1 n2 c1
      obtain ⟨A2, hA2⟩ : ∃ A2, A2 = wr.alloc (.cells #[.bool false, .int .i64 (Sn : Int), .int .i64 (at_ : Int), .int .i64 0, .int .i64 0] 79) := ⟨_, rfl⟩
      have hbA2 : Below wr.heap.size wr A2 := by rw [hA2]; exact Joins.below_alloc1 wr _
      have d9 := (hbA2.cell (p := ⟨b, 9, none⟩) hD.mb.lt).trans c9
      have v9 := (hD.below hbA2).mb.u 9
      obtain ⟨W2, hW2⟩ : ∃ W2, W2 = A2.setCell ⟨b, 9, none⟩ (.slice (some ⟨y, 0, none⟩) 1 1) := ⟨_, rfl⟩
      rw [← hA2, ← hy, ← hW2] at n1 n2
      have HEO : Hid (EO w W2 B b l tx C r m' N) := ⟨_, _, _, _, ub, n1, HFS.out, by rw [hSe, HKK.out]; exact HEV.out, rfl, HKK.out, HKK.out, by simp [HKK.out], okC.rep _ _, HB.out.trans n2⟩
      have hbn : b ≠ wr.heap.size := by have := hD.mb.lt; omega
      have hbn' : b < wr.heap.size := hD.mb.lt
      have HW2 : Hid (W2 = (wr.setCell ⟨b, 9, none⟩ (.slice (some ⟨wr.heap.size, 0, none⟩) 1 1)).alloc (.cells #[.bool false, .int .i64 (Sn : Int), .int .i64 (at_ : Int), .int .i64 0, .int .i64 0] 79)) := by show W2 = _; rw [hW2, hA2, hy]; exact World.setCell_alloc_past _ _ _ _ hbn'
      clear d9 v9 hA2 hW2 hy n1 n2 hD hbA2 HD HB HEV HFS hSe
      go_upto_region 6 with fail
      clear e6
      go_wp2_with fail
      rw [← HW2.out]
      clear HW2 c1 c9 u9 hbn hbn'
      go_loopg [] N (fun k wr => Hid (EO w wr B b l tx C r m' k))
      case atStart => exact HEO
      case round =>
        clear HEO
        obtain ⟨V1, st, m1, cp1, ub1, hdi, hfs, hev, hu1, hu2, hu3, hcl, hoc, hbw⟩ := hrel.out
        clear hrel
        have HMS1 := HMS.out _ _ _ _ _ hdi
        have HFS := hid hfs
        have HDI := hid hdi
        have HBW := hid hbw
        have HU := hid (⟨hu1, hu2, hu3⟩ : _ ∧ _ ∧ _)
        have HCL := hid hcl
        have HOC := hid hoc
        have z9 := hdi.mb.c 9
        simp at z9
        have hzl := hdi.zl
        cases st with
        | nil =>
          cases hev with
          | nil =>
          have hz0 : V1.z2 = 0 := hzl
          rw [hz0] at z9
          clear hdi hfs hbw hu1 hu2 hu3 hcl hoc hzl hz0
          have HR0 : Hid (rs = false) := HRS.out
          go_wp2_with fail
          go_ret
          exact ⟨by rw [HR0.out]; rfl, V1, [], cp1, HDI.out, HFS.out, rfl, HBW.out⟩
        | cons t st =>
          have hz2 : V1.z2 = st.length + 1 := hzl
          obtain ⟨zb, hzb⟩ : ∃ zb, V1.z1 = some ⟨zb, 0, none⟩ := by
            rcases hdi.row.2 with ⟨_, e⟩ | ⟨g, cap, cur, e, _⟩
            · omega
            · simp only [Value.slice.injEq] at e; exact ⟨g, e.1⟩
          obtain ⟨k, hk⟩ : ∃ k, k = st.length := ⟨_, rfl⟩
          obtain ⟨zc, hzc⟩ : ∃ zc, zc = V1.z3 := ⟨_, rfl⟩
          have hrow := hdi.row
          rw [hzb, hz2, ← hk, ← hzc] at z9 hrow
          have hzlt := (hrow.lt zb rfl)
          obtain ⟨tb, p1, p2, p3, p4, hds⟩ : ∃ (tb : Bool) (p1 p2 p3 p4 : Int), t.ds = [.bool tb, .int .i64 p1, .int .i64 p2, .int .i64 p3, .int .i64 p4] := by cases t <;> exact ⟨_, _, _, _, _, rfl⟩
          have k0 := (hrow.cellAt (k * 5) (by omega)).trans (show (sdk (t :: st))[k * 5]? = t.ds[0]? from by have := sdk_top t st 0 (by omega); rw [hk]; simpa using this)
          have k1 := (hrow.cellAt (k * 5 + 1) (by omega)).trans (show (sdk (t :: st))[k * 5 + 1]? = t.ds[1]? from by have := sdk_top t st 1 (by omega); rw [hk]; simpa using this)
          have k2 := (hrow.cellAt (k * 5 + 2) (by omega)).trans (show (sdk (t :: st))[k * 5 + 2]? = t.ds[2]? from by have := sdk_top t st 2 (by omega); rw [hk]; simpa using this)
          have k3 := (hrow.cellAt (k * 5 + 3) (by omega)).trans (show (sdk (t :: st))[k * 5 + 3]? = t.ds[3]? from by have := sdk_top t st 3 (by omega); rw [hk]; simpa using this)
          have k4 := (hrow.cellAt (k * 5 + 4) (by omega)).trans (show (sdk (t :: st))[k * 5 + 4]? = t.ds[4]? from by have := sdk_top t st 4 (by omega); rw [hk]; simpa using this)
          rw [hds] at k0 k1 k2 k3 k4
          simp at k0 k1 k2 k3 k4
          have hstl := hdi.stl
          simp only [List.length_cons] at hstl
          have hk16 : k ≤ 16777216 := by omega
          have g1 : decide (((k + 1 : Nat) : Int) > 0) = true := by simp
          have g2 : ((k + 1 : Nat) : Int) > 0 := by omega
          have g3 : 0 < (k : Int) + 1 := by omega
          have a1 : IntKind.i64.wrap (((k + 1 : Nat) : Int) - 1) = (k : Int) := by rw [wrap_ok _ (by omega) (by omega)]; omega
          have a2 : IntKind.i64.wrap (k : Int) = (k : Int) := wrap_ok _ (by omega) (by omega)
          have hk2 : k < 9223372036854775807 := by omega
          have b1 : decide ((k : Int) < 0) = false := by simp
          have b2 : (k : Int) < ((k + 1 : Nat) : Int) := by omega
          have b3 : (k : Int) < (k : Int) + 1 := by omega
          have hcap := row_shape hrow
          have hc2 : k + 1 ≤ zc := by
            obtain ⟨a, c, e, h1, _⟩ := hcap
            simp only [Value.slice.injEq] at e
            omega
          have b4 : (k : Int) ≤ (zc : Int) := by omega
          have HEV := hid hev
          have HDS := hid hds
          have HSL : Hid (st.length ≤ m1.length) := by show _ ≤ _; omega
          have HK := hid hk
          have HOK := hid (hdi.okt t List.mem_cons_self)
          obtain ⟨W3, hW3⟩ : ∃ W3, W3 = wr.alloc (.cells #[.bool tb, .int .i64 p1, .int .i64 p2, .int .i64 p3, .int .i64 p4] 79) := ⟨_, rfl⟩
          obtain ⟨x, hx⟩ : ∃ x, x = wr.heap.size := ⟨_, rfl⟩
          have hb3 : Below wr.heap.size wr W3 := by rw [hW3]; exact Joins.below_alloc1 wr _
          have hX : W3.heap[x]? = some (.cells #[.bool tb, .int .i64 p1, .int .i64 p2, .int .i64 p3, .int .i64 p4] 79 (0, 0)) := by rw [hW3, hx]; exact heap_alloc_new wr _
          have hD3 := hdi.below hb3
          have d9 := (hb3.cell (p := ⟨b, 9, none⟩) hdi.mb.lt).trans z9
          have v9 := hD3.mb.u 9
          obtain ⟨pp1, pp2⟩ := hD3.popped
          rw [hzb, ← hk, ← hzc] at pp1 pp2
          obtain ⟨W4, hW4⟩ : ∃ W4, W4 = W3.setCell ⟨b, 9, none⟩ (.slice (some ⟨zb, 0, none⟩) k zc) := ⟨_, rfl⟩
          rw [← hW4] at pp1 pp2
          have hxb : x ≠ b := fun e => by have := hdi.mb.lt; omega
          have hX4 : W4.heap[x]? = some (.cells #[.bool tb, .int .i64 p1, .int .i64 p2, .int .i64 p3, .int .i64 p4] 79 (0, 0)) := by rw [hW4]; exact (Below.heap_setCell _ _ _ _ hxb).trans hX
          have HD4 := hid pp1
          have HB4 := hid (hbw.trans ((Joins.below_le hb3 hdi.size).trans pp2))
          have HX4 := hid hX4
          have HW3 := hid hW3
          have HW4 := hid hW4
          have HX := hid hx
          have HZB := hid hzb
          have HZC := hid hzc
          clear hdi hfs hbw hu1 hu2 hu3 hcl hoc hzl hz2 hev hds hk hzc hzb hrow hcap hstl hW3 hW4 hx hb3 hX hD3 pp1 pp2 hX4 HDI HBW
          go_upto_region 10 with fail
          rw [← HW3.out, ← HX.out]
          clear HW3 k0 k1 k2 k3 k4 z9
          have hxb' : b ≠ x := fun e => hxb e.symm
          go_upto_region 11 with fail
          rw [← HW4.out]
          clear HW4 d9 v9 a1 a2 b1 b2 b3 b4 g1 g2 g3
          have x0 := Joins.cell_of_block HX4.out 0
          have x1 := Joins.cell_of_block HX4.out 1
          have x2 := Joins.cell_of_block HX4.out 2
          have x3 := Joins.cell_of_block HX4.out 3
          have x4 := Joins.cell_of_block HX4.out 4
          simp at x0 x1 x2 x3 x4
          cases t with
          | un a o =>
            have hds := HDS.out
            simp [Tk.ds] at hds
            obtain ⟨rfl, rfl, rfl, rfl, rfl⟩ := hds
            obtain ⟨hu1, hu2, hu3⟩ := HU.out
            have hev := HEV.out
            cases hev with
            | un n a o st m c r m' hev =>
            have d6 := HD4.out.mb.c 6
            simp at d6
            rw [hu1, hu2, hu3] at d6
            have hcap := HD4.out.cap
            dsimp only at hcap
            rw [hu1, hu2, hu3] at hcap
            have hoa : a < C.K := HOK.out.1
            have l0 := row_there hcap (j := a) (m := 1) (by omega) 0 (by omega)
            rw [Nat.add_zero] at l0
            obtain ⟨vv, hvv⟩ := Option.isSome_iff_exists.1 l0.1
            have fz := l0.2
            have hak : (a : Int) < (C.K : Int) := by omega
            have HSC := hid (HD4.out.setc hu1 a o)
            have HN := hid hev
            clear hcap l0 hu1 hu2 hu3 hev HEV HDS
            go_upto_region 12 with fail
            refine wp_region_lex 9 9 (fun W => W.cell? ⟨b, 6, none⟩ = some (.slice (some ⟨ub1, 0, none⟩) C.K C.K) ∧ W.cell? ⟨x, 3, none⟩ = some (.int .i64 (a : Int)) ∧ W.cell? ⟨x, 4, none⟩ = some (.int .i64 o)) (by kernel_rfl) (by kernel_rfl) (by decide) (by kernel_rfl) (by kernel_rfl) ⟨d6, x3, x4⟩ ?_
            simp only [List.take_succ_cons, List.take_zero, List.drop_succ_cons, List.drop_zero]
            iterate 9
              refine lex_cons ?_ rfl (fun W hW => ?_) (fun _ _ _ h => h) ?_
              rotate_left
              · obtain ⟨s0, s1, s2⟩ := hW
                go_simp <;> with_reducible rfl
              simp only [Act.put, List.setIfInBounds_toArray, List.set_cons_zero, List.set_cons_succ]
            refine lex_nil (tail_cons fun KK hKK => ?_)
            go_simp
            refine hKK.out _ _ (fun h => absurd rfl h) (tail_nil ?_)
            obtain ⟨WG, hWG⟩ : ∃ WG, WG = (W4.setCell ⟨ub1, a, none⟩ (.int .i64 o)).drew := ⟨_, rfl⟩
            rw [← hWG]
            have hdg : DI WG B b l tx C { V1 with z1 := some ⟨zb, 0, none⟩, z2 := k, z3 := zc } st m1 (cp1.set a o) := by rw [hWG]; exact HSC.out.1.below ((Eqw.drew _).below _)
            have HEO : Hid (EO w WG B b l tx C r m' n) := ⟨_, _, _, _, ub1, hdg, HFS.out, HN.out, HU.out.1, HU.out.2.1, HU.out.2.2, by simpa using HCL.out, HOC.out.set _ HOK.out.2, HB4.out.trans (HSC.out.2.trans (by rw [hWG]; exact (Eqw.drew _).below _))⟩
            clear hdg hWG HSC HN x0 x1 x2 x3 x4 d6 hvv fz HX4 HD4 HB4
            go_wp2_with fail
            go_roundg n
            case measure => omega
            case rel => exact HEO
          | go i j =>
            have hds := HDS.out
            simp [Tk.ds] at hds
            obtain ⟨rfl, rfl, rfl, rfl, rfl⟩ := hds
            obtain ⟨hu1, hu2, hu3⟩ := HU.out
            have hvs : V1.st ≤ 16777216 := by rw [HFS.out]; exact HMS1
            have hev := HEV.out
            clear HEV HDS
            cases hev with
            | old n i j st m c r m' hm hev =>
              have HCA := meet_old HD4.out HDC.out HOK.out hvs HSL.out HMS1 hm
              have HN := hid hev
              clear hm hev hu1 hu2 hu3 hvs
              go_wp2_with (go_at_call 27; (with_reducible refine HCA.mono ?_); rintro e w5 ⟨rfl, hb5⟩; have HB5 := hid hb5; clear hb5 HCA)
              go_roundg n
              case measure => omega
              case rel => exact ⟨_, _, _, _, ub1, HD4.out.below (HB5.out.below _), HFS.out, HN.out, HU.out.1, HU.out.2.1, HU.out.2.2, HCL.out, HOC.out, HB4.out.trans (HB5.out.below _)⟩
            | fit i j st m c a hm he =>
              have HCA := meet_fit HD4.out HDC.out HOK.out hvs HSL.out HMS1 hm he
              have HR1 : Hid (rs = true) := HRS.out
              clear hm he hu1 hu2 hu3 hvs
              go_wp2_with (go_at_call 27; (with_reducible refine HCA.mono ?_); rintro e w5 ⟨rfl, hb5, hbw5⟩; have HB5 := hid hb5; have HBW5 := hid hbw5; clear hb5 hbw5 HCA)
              all_goals go_ret
              exact ⟨by rw [HR1.out]; rfl, _, _, _, HB5.out, by have := HFS.out; simp; omega, ⟨rfl, rfl, ub1, HU.out.1, HU.out.2.1, HU.out.2.2⟩, HB4.out.trans HBW5.out⟩
            | step n i j st m c r m' hm hno hev =>
              have HCA := meet_new HD4.out HDC.out HOK.out hvs HSL.out HMS1 hm hno hu1 hu2 HCL.out HOC.out
              have HN := hid hev
              clear hm hno hev hu1 hu2 hu3 hvs
              go_wp2_with (go_at_call 27; (with_reducible refine HCA.mono ?_); rintro e w5 ⟨rfl, ⟨y1, y2, y3, hb5⟩, hbw5⟩; have HB5 := hid hb5; have HBW5 := hid hbw5; clear hb5 hbw5 HCA)
              go_roundg n
              case measure => omega
              case rel => exact ⟨_, _, _, _, ub1, HB5.out, by have := HFS.out; simp; omega, HN.out, HU.out.1, HU.out.2.1, HU.out.2.2, (nx_len _ _ _ _).trans HCL.out, nx_ok HOC.out HOK.out.2.2, HB4.out.trans HBW5.out⟩
end Go.Proofs.Ytodpmmlfdkdemaa
