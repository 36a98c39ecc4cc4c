/- HELPERS: each list is written full, grows, and reads so. -/
import Derived.Test.YtilpkeipjlnogaaGr
import Derived.Test.YtilpkeipjlnogaaSa
import Derived.Test.YtilpkeipjlnogaaXh
import Derived.Laws.CopyOwn
namespace Go.Proofs.Ytilpkeipjlnogaa
open Go.RowKit
set_option linter.unusedVariables false
set_option linter.unusedSimpArgs false
theorem row_setCells {base e size n b c : Nat} : ∀ (vs : List Value) (o : Nat) (w : World) (xs : List Value), w.ownsRow base e size (.slice (some ⟨b, 0, none⟩) n c) n xs → o + vs.length ≤ xs.length → (w.setCells b o vs).ownsRow base e size (.slice (some ⟨b, 0, none⟩) n c) n (xs.take o ++ vs ++ xs.drop (o + vs.length))
  | [], o, w, xs, h, _ => by simpa [World.setCells] using h
  | v :: vs, o, w, xs, h, hl => by
    have h1 := row_setC h o v
    have h2 := row_setCells vs (o + 1) (w.setCell ⟨b, o, none⟩ v) (xs.set o v) h1 (by simp at hl ⊢; omega)
    have e1 : (xs.set o v).take (o + 1) = xs.take o ++ [v] := by
      rw [List.take_succ_eq_append_getElem (by simp at hl ⊢; omega), List.take_set_of_le (Nat.le_refl _)]
      simp
    have e2 : (xs.set o v).drop (o + 1 + vs.length) = xs.drop (o + (v :: vs).length) := by
      rw [List.drop_set_of_lt (by omega)]
      simp only [List.length_cons]
      congr 1
      omega
    rw [e1, e2] at h2
    simpa [World.setCells] using h2
abbrev mkR (i : Nat) (m : Nat) : List (Int × Int) := (List.range m).map fun (k : Nat) => ((-1 - (i : Int)), (k : Int))
abbrev mkN (i k : Nat) : Nv := ⟨-1 - (i : Int), none, 0, 0, 0, none, 0, 0, 0, 0, false, (k : Int), ⟨#[]⟩⟩
abbrev mkS (i : Nat) (m : Nat) : List Nv := (List.range m).map (mkN i)
theorem mkR_succ (i m : Nat) : O2 (mkR i (m + 1)) = O2 (mkR i m) ++ [.int .i64 (-1 - (i : Int)), .int .i64 (m : Int)] := by
  simp [mkR, List.range_succ, O2]
theorem mkS_succ (i m : Nat) : (mkS i (m + 1)).flatMap Nv.cs = (mkS i m).flatMap Nv.cs ++ (mkN i m).cs := by
  simp [mkS, List.range_succ]
theorem mkR_len (i m : Nat) : (O2 (mkR i m)).length = m * 2 := by rw [O2_len]; simp
theorem mkS_len (i m : Nat) : ((mkS i m).flatMap Nv.cs).length = m * 9 := by rw [flat9_len]; simp
/-- the contents of one list of ranges change -/
theorem ST.setR {w w' : World} {lb n : Nat} {v0 v1 : Value} {RV SV : Nat → Value} {ln lm : Nat → Nat} {XR XS : Nat → List Value} {Bd : Nat} (h : ST w lb n v0 v1 RV SV ln lm XR XS Bd) (i : Nat) (hi : i < n) (xs : List Value) (hr : w'.ownsRow 0 53 2 (RV i) (ln i) xs) (hk : ∀ b, (RV i).ownBlock ≠ some b → w'.heap[b]? = w.heap[b]?) :
    ST w' lb n v0 v1 RV SV ln lm (fun j => if j = i then xs else XR j) XS Bd := by
  have hk' : ∀ p b, p.ok n → p ≠ .r i → bkO lb v0 v1 RV SV p = some b → w'.heap[b]? = w.heap[b]? := fun p b hp hne hb => hk b (fun h' => hne (h.dd p (.r i) b hp hi hb h'))
  refine ⟨(hk' .l lb trivial (by intro e; cases e) rfl).trans h.ob, row_kept h.r0 (fun b hb => hk' .a b trivial (by intro e; cases e) hb), row_kept h.r1 (fun b hb => hk' .b b trivial (by intro e; cases e) hb), fun j hj => ?_, fun j hj => row_kept (h.ls j hj) (fun b hb => hk' (.s j) b hj (by intro e; cases e) hb), h.dd, h.bd⟩
  by_cases e : j = i
  · subst e; simp only [if_pos]; exact hr
  · simp only [if_neg e]; exact row_kept (h.lr j hj) (fun b hb => hk' (.r j) b hj (by intro e'; cases e'; exact e rfl) hb)
theorem ST.setS {w w' : World} {lb n : Nat} {v0 v1 : Value} {RV SV : Nat → Value} {ln lm : Nat → Nat} {XR XS : Nat → List Value} {Bd : Nat} (h : ST w lb n v0 v1 RV SV ln lm XR XS Bd) (i : Nat) (hi : i < n) (xs : List Value) (hr : w'.ownsRow 0 25 9 (SV i) (lm i) xs) (hk : ∀ b, (SV i).ownBlock ≠ some b → w'.heap[b]? = w.heap[b]?) :
    ST w' lb n v0 v1 RV SV ln lm XR (fun j => if j = i then xs else XS j) Bd := by
  have hk' : ∀ p b, p.ok n → p ≠ .s i → bkO lb v0 v1 RV SV p = some b → w'.heap[b]? = w.heap[b]? := fun p b hp hne hb => hk b (fun h' => hne (h.dd p (.s i) b hp hi hb h'))
  refine ⟨(hk' .l lb trivial (by intro e; cases e) rfl).trans h.ob, row_kept h.r0 (fun b hb => hk' .a b trivial (by intro e; cases e) hb), row_kept h.r1 (fun b hb => hk' .b b trivial (by intro e; cases e) hb), fun j hj => row_kept (h.lr j hj) (fun b hb => hk' (.r j) b hj (by intro e; cases e) hb), fun j hj => ?_, h.dd, h.bd⟩
  by_cases e : j = i
  · subst e; simp only [if_pos]; exact hr
  · simp only [if_neg e]; exact row_kept (h.ls j hj) (fun b hb => hk' (.s j) b hj (by intro e'; cases e'; exact e rfl) hb)
/-- the cell of the list of lists -/
theorem ST.at0 {w : World} {lb n : Nat} {v0 v1 : Value} {RV SV : Nat → Value} {ln lm : Nat → Nat} {XR XS : Nat → List Value} {Bd : Nat} (h : ST w lb n v0 v1 RV SV ln lm XR XS Bd) (i : Nat) (hi : i < n) : ∃ g0 c0 g1 c1, v0 = .slice (some ⟨g0, 0, none⟩) n c0 ∧ v1 = .slice (some ⟨g1, 0, none⟩) n c1 ∧ w.cell? ⟨g0, i, none⟩ = some (RV i) ∧ w.cell? ⟨g1, i, none⟩ = some (SV i) := by
  have f : ∀ {e : TypeId} {v : Value} {F : Nat → Value}, w.ownsRow 0 e 1 v n ((List.range n).map F) → ∃ g c, v = .slice (some ⟨g, 0, none⟩) n c ∧ w.cell? ⟨g, i, none⟩ = some (F i) := by
    intro e v F hr
    rcases hr.2 with ⟨_, h0⟩ | ⟨g, cap, cur, rfl, _⟩
    · omega
    · refine ⟨g, cap, rfl, ?_⟩
      rw [hr.cellAt i (by omega)]
      simp [hi]
  obtain ⟨g0, c0, e0, h0⟩ := f h.r0
  obtain ⟨g1, c1, e1, h1⟩ := f h.r1
  exact ⟨g0, c0, g1, c1, e0, e1, h0, h1⟩
theorem take_write {xs vs L : List Value} {o : Nat} (h : xs.take o = L) (hl : o ≤ xs.length) : (xs.take o ++ vs ++ xs.drop (o + vs.length)).take (o + vs.length) = L ++ vs := by
  rw [List.take_append_of_le_length (by simp; omega), h]
  apply List.take_of_length_le
  rw [List.length_append, ← h]
  simp
  omega
theorem Chs.setCells {A : Nat → Prop} {b : Nat} (hA : A b) : ∀ (vs : List Value) (o : Nat) (w w' : World), Chs A w w' → Chs A w (w'.setCells b o vs)
  | [], _, _, _, h => h
  | v :: vs, o, w, w', h => Chs.setCells hA vs (o + 1) w _ (h.set (a := ⟨b, o, none⟩) hA v)
theorem neg_i (i : Nat) (hi : i ≤ 10000000) : IntKind.i64.wrap (-1 - (i : Int)) = -1 - (i : Int) := by simp [IntKind.wrap, IntKind.bits, IntKind.signed]; omega
theorem add_one (i : Nat) (hi : i ≤ 100000000) : IntKind.i64.wrap ((i : Int) + 1) = (i : Int) + 1 := by simp [IntKind.wrap, IntKind.bits, IntKind.signed]; omega
/-- all lists, each with a mark of its own -/
def PH (w wq : World) (lb n : Nat) (v0 v1 : Value) (RV SV : Nat → Value) (Bd : Nat) : Prop := ∃ (RV' SV' : Nat → Value) (ln' lm' : Nat → Nat), ST wq lb n v0 v1 RV' SV' ln' lm' (fun j => O2 (mkR j (ln' j))) (fun j => (mkS j (lm' j)).flatMap Nv.cs) Bd ∧ ∀ p b, p.ok n → bkO lb v0 v1 RV' SV' p = some b → bkO lb v0 v1 RV SV p = some b ∨ w.heap.size ≤ b
theorem frz_eq {w w' : World} {b : Nat} (h : w'.heap[b]? = w.heap[b]?) (o : Nat) : w'.frozen? ⟨b, o, none⟩ = w.frozen? ⟨b, o, none⟩ := by simp only [World.frozen?, h]
theorem PH.below {w wq wq' : World} {lb n : Nat} {v0 v1 : Value} {RV SV : Nat → Value} {Bd : Nat} (h : PH w wq lb n v0 v1 RV SV Bd) (hb : Below wq.heap.size wq wq') : PH w wq' lb n v0 v1 RV SV Bd := by
  obtain ⟨RV', SV', ln', lm', h1, h2⟩ := h
  exact ⟨RV', SV', ln', lm', h1.kept (fun p b hp hb' => hb.block b (h1.low p b hp hb')), h2⟩
set_option maxRecDepth 100000 in
set_option maxHeartbeats 16000000 in
theorem own18 {w : World} {lb n : Nat} {v0 v1 : Value} {RV SV : Nat → Value} {ln lm : Nat → Nat} {XR XS : Nat → List Value} (hST : ST w lb n v0 v1 RV SV ln lm XR XS 1000000) (hn : n ≤ 1000000) :
    Calls Try.prog 18 #[pt lb] w fun e w' => e = .returned (.bool true) ∧ Chs (fun b => ∃ p : Ky, p.ok n ∧ bkO lb v0 v1 RV SV p = some b) w w' := by
  obtain ⟨a0, c0, hv0, hc0⟩ := row_shape hST.r0
  obtain ⟨a1, c1, hv1, hc1⟩ := row_shape hST.r1
  subst hv0 hv1
  have HST := hid hST
  clear hST hc0 hc1
  go_enter Try.func18, Try.ntmps18
  go_wp2_with fail
  go_loopw [3] (fun y wq => ∃ i : Nat, y = .int .i64 (i : Int) ∧ i ≤ n ∧ Hid (∃ XR XS, ST wq lb n (.slice a0 n c0) (.slice a1 n c1) RV SV ln lm XR XS 1000000 ∧ ∀ j, j < i → XR j = O2 (mkR j (ln j)) ∧ XS j = (mkS j (lm j)).flatMap Nv.cs) ∧ Hid (Chs (fun b => ∃ p : Ky, p.ok n ∧ bkO lb (.slice a0 n c0) (.slice a1 n c1) RV SV p = some b) w wq)) (fun y _ => n - (intOf y).toNat)
  case atStart => exact ⟨0, rfl, by omega, ⟨XR, XS, HST.out, fun j hj => by omega⟩, Chs.refl _ _⟩
  case round =>
    obtain ⟨i, rfl, hi, HS, HC⟩ := hrel
    have hob : wr.heap[lb]? = some (.cells #[.slice a0 n c0, .slice a1 n c1] 38 (0, 0)) := by obtain ⟨XR, XS, h, _⟩ := HS.out; exact h.ob
    have l0 : wr.cell? ⟨lb, 0, none⟩ = some (.slice a0 n c0) := Joins.cell_of_block hob 0
    by_cases hil : i < n
    · obtain ⟨g0, g1, rfl, rfl⟩ : ∃ g0 g1, a0 = some ⟨g0, 0, none⟩ ∧ a1 = some ⟨g1, 0, none⟩ := by
        obtain ⟨XR, XS, h, _⟩ := HS.out
        obtain ⟨g0, c0', g1, c1', e0, e1, _, _⟩ := h.at0 i hil
        simp only [Value.slice.injEq] at e0 e1
        exact ⟨g0, g1, e0.1, e1.1⟩
      have b1 : decide ((i : Int) < (n : Int)) = true := by simp; omega
      have ad1 := add_one i (by omega)
      have ng := neg_i i (by omega)
      have b2 : (i : Int) < (n : Int) := by omega
      clear hob
      go_wp2_with fail
      clear l0
      obtain ⟨ra, rc, hrv, hrc⟩ : ∃ ra rc, RV i = .slice ra (ln i) rc ∧ True := by obtain ⟨XR, XS, h, _⟩ := HS.out; obtain ⟨a, c, e, _⟩ := row_shape (h.lr i hil); exact ⟨a, c, e, trivial⟩
      obtain ⟨sa, sc, hsv, hsc⟩ : ∃ sa sc, SV i = .slice sa (lm i) sc ∧ True := by obtain ⟨XR, XS, h, _⟩ := HS.out; obtain ⟨a, c, e, _⟩ := row_shape (h.ls i hil); exact ⟨a, c, e, trivial⟩
      obtain ⟨hbl, hbm⟩ : ln i ≤ 1000000 ∧ lm i ≤ 1000000 := by obtain ⟨XR, XS, h, _⟩ := HS.out; exact h.bd i hil
      have HRV := hid hrv
      have HSV := hid hsv
      clear hrv hrc hsv hsc
      go_loopw [4] (fun y wq => ∃ k : Nat, y = .int .i64 (k : Int) ∧ k ≤ ln i ∧ Hid (∃ XR XS, ST wq lb n (.slice (some ⟨g0, 0, none⟩) n c0) (.slice (some ⟨g1, 0, none⟩) n c1) RV SV ln lm XR XS 1000000 ∧ (∀ j, j < i → XR j = O2 (mkR j (ln j)) ∧ XS j = (mkS j (lm j)).flatMap Nv.cs) ∧ (XR i).take (k * 2) = O2 (mkR i k)) ∧ Hid (Chs (fun b => ∃ p : Ky, p.ok n ∧ bkO lb (.slice (some ⟨g0, 0, none⟩) n c0) (.slice (some ⟨g1, 0, none⟩) n c1) RV SV p = some b) w wq)) (fun y _ => ln i - (intOf y).toNat)
      case atStart => exact ⟨0, rfl, by omega, (by obtain ⟨XR, XS, h, h2⟩ := HS.out; exact ⟨XR, XS, h, h2, by simp [mkR]⟩), HC.out⟩
      case round =>
        clear HS HC
        obtain ⟨k, rfl, hk, HS, HC⟩ := hrel
        obtain ⟨XR, XS, h, h2, h3⟩ := HS.out
        have l0 : wr.cell? ⟨lb, 0, none⟩ = some (.slice (some ⟨g0, 0, none⟩) n c0) := Joins.cell_of_block h.ob 0
        obtain ⟨g0', c0', g1', c1', e0, e1, q0, q1⟩ := h.at0 i hil
        rw [HRV.out] at q0
        rw [HSV.out] at q1
        simp only [Value.slice.injEq, Option.some.injEq, Addr.mk.injEq] at e0 e1
        obtain ⟨⟨rfl, _⟩, _, rfl⟩ := e0
        obtain ⟨⟨rfl, _⟩, _, rfl⟩ := e1
        by_cases hkl : k < ln i
        · have b3 : decide ((k : Int) < (ln i : Int)) = true := by simp; omega
          have b4 : (k : Int) < (ln i : Int) := by omega
          have ad2 := add_one k (by omega)
          have hrow := h.lr i hil
          rw [HRV.out] at hrow
          obtain ⟨rb, hrb⟩ : ∃ rb, ra = some ⟨rb, 0, none⟩ := by
            rcases hrow.2 with ⟨_, e⟩ | ⟨g, cap, cur, e, _⟩
            · omega
            · simp only [Value.slice.injEq] at e; exact ⟨g, e.1⟩
          subst hrb
          have ht := row_there hrow (j := k * 2) (m := 2) (by omega)
          have hset := row_setCells [.int .i64 (-1 - (i : Int)), .int .i64 (k : Int)] (k * 2) wr (XR i) hrow (by have := hrow.1; simp; omega)
          have htk := take_write (vs := [.int .i64 (-1 - (i : Int)), .int .i64 (k : Int)]) h3 (by have := hrow.1; omega)
          have hnew := h.setR (w' := wr.setCells rb (k * 2) [.int .i64 (-1 - (i : Int)), .int .i64 (k : Int)]) i hil _ (by rw [HRV.out]; exact hset) (fun b hb => setCells_old rb _ _ _ b (by intro e; apply hb; rw [HRV.out, e]; rfl))
          have HNEW := hid hnew
          have HTK := hid htk
          have H2 := hid h2
          have hcc := Chs.setCells (A := (fun b => ∃ p : Ky, p.ok n ∧ bkO lb (.slice (some ⟨g0, 0, none⟩) n c0) (.slice (some ⟨g1, 0, none⟩) n c1) RV SV p = some b)) (b := rb) ⟨.r i, hil, by simp [bkO, HRV.out, Value.ownBlock]⟩ [.int .i64 (-1 - (i : Int)), .int .i64 (k : Int)] (k * 2) w wr HC.out
          have HCC := hid hcc
          clear h h2 h3 hrow hset htk hnew hcc HS
          go_wp2_with ((with_reducible refine store53 rfl (.tmp 44) (.tmp 43) rfl rb k (-1 - (i : Int)) (k : Int) ?_ ?_ ht ?_); (rfl); (rfl))
          refine ⟨⟨k + 1, by push_cast; rfl, by omega, ⟨_, XS, HNEW.out, fun j hj => ?_, ?_⟩, HCC.out⟩, by simp [intOf]; omega⟩
          · rw [if_neg (by omega)]; exact H2.out j hj
          · rw [if_pos rfl, mkR_succ, show (k + 1) * 2 = k * 2 + ([.int .i64 (-1 - (i : Int)), .int .i64 (k : Int)] : List Value).length by simp; omega]
            exact HTK.out
        · have b3 : decide ((k : Int) < (ln i : Int)) = false := by simp; omega
          obtain rfl : k = ln i := by omega
          have hx : XR i = O2 (mkR i (ln i)) := by
            rw [← h3]
            have := (h.lr i hil).1
            rw [List.take_of_length_le (by omega)]
          have HS' : Hid (∃ XR XS, ST wr lb n (.slice (some ⟨g0, 0, none⟩) n c0) (.slice (some ⟨g1, 0, none⟩) n c1) RV SV ln lm XR XS 1000000 ∧ (∀ j, j < i → XR j = O2 (mkR j (ln j)) ∧ XS j = (mkS j (lm j)).flatMap Nv.cs) ∧ (XS i).take (0 * 9) = (mkS i 0).flatMap Nv.cs ∧ XR i = O2 (mkR i (ln i))) := ⟨XR, XS, h, h2, by simp [mkS], hx⟩
          clear h h2 h3 hx HS
          go_wp2_with fail
          clear l0 q0 b3
          have HS := HS'
          clear HS'
          go_loopw [5] (fun y wq => ∃ k : Nat, y = .int .i64 (k : Int) ∧ k ≤ lm i ∧ Hid (∃ XR XS, ST wq lb n (.slice (some ⟨g0, 0, none⟩) n c0) (.slice (some ⟨g1, 0, none⟩) n c1) RV SV ln lm XR XS 1000000 ∧ (∀ j, j < i → XR j = O2 (mkR j (ln j)) ∧ XS j = (mkS j (lm j)).flatMap Nv.cs) ∧ (XS i).take (k * 9) = (mkS i k).flatMap Nv.cs ∧ XR i = O2 (mkR i (ln i))) ∧ Hid (Chs (fun b => ∃ p : Ky, p.ok n ∧ bkO lb (.slice (some ⟨g0, 0, none⟩) n c0) (.slice (some ⟨g1, 0, none⟩) n c1) RV SV p = some b) w wq)) (fun y _ => lm i - (intOf y).toNat)
          case atStart => exact ⟨0, rfl, by omega, HS.out, HC.out⟩
          case round =>
            clear HS HC
            obtain ⟨k, rfl, hk, HS, HC⟩ := hrel
            obtain ⟨XR, XS, h, h2, h3, h4⟩ := HS.out
            have l0 : wr.cell? ⟨lb, 1, none⟩ = some (.slice (some ⟨g1, 0, none⟩) n c1) := Joins.cell_of_block h.ob 1
            obtain ⟨g0', c0', g1', c1', e0, e1, q0, q1⟩ := h.at0 i hil
            rw [HRV.out] at q0
            rw [HSV.out] at q1
            simp only [Value.slice.injEq, Option.some.injEq, Addr.mk.injEq] at e0 e1
            obtain ⟨⟨rfl, _⟩, _, rfl⟩ := e0
            obtain ⟨⟨rfl, _⟩, _, rfl⟩ := e1
            by_cases hkl : k < lm i
            · have b3 : decide ((k : Int) < (lm i : Int)) = true := by simp; omega
              have b4 : (k : Int) < (lm i : Int) := by omega
              have ad2 := add_one k (by omega)
              have hrow := h.ls i hil
              rw [HSV.out] at hrow
              obtain ⟨rb, hrb⟩ : ∃ rb, sa = some ⟨rb, 0, none⟩ := by
                rcases hrow.2 with ⟨_, e⟩ | ⟨g, cap, cur, e, _⟩
                · omega
                · simp only [Value.slice.injEq] at e; exact ⟨g, e.1⟩
              subst hrb
              have ht := row_there hrow (j := k * 9) (m := 9) (by omega)
              have hset := row_setCells (mkN i k).cs (k * 9) wr (XS i) hrow (by have := hrow.1; simp; omega)
              have htk := take_write (vs := (mkN i k).cs) h3 (by have := hrow.1; omega)
              have hnew := h.setS (w' := wr.setCells rb (k * 9) (mkN i k).cs) i hil _ (by rw [HSV.out]; exact hset) (fun b hb => setCells_old rb _ _ _ b (by intro e; apply hb; rw [HSV.out, e]; rfl))
              have HNEW := hid hnew
              have HTK := hid htk
              have H2 := hid h2
              have hcc := Chs.setCells (A := (fun b => ∃ p : Ky, p.ok n ∧ bkO lb (.slice (some ⟨g0, 0, none⟩) n c0) (.slice (some ⟨g1, 0, none⟩) n c1) RV SV p = some b)) (b := rb) ⟨.s i, hil, by simp [bkO, HSV.out, Value.ownBlock]⟩ (mkN i k).cs (k * 9) w wr HC.out
              have HCC := hid hcc
              have H4 := hid h4
              clear h h2 h3 h4 hrow hset htk hnew hcc HS
              go_wp2_with ((with_reducible refine store25 rfl (.tmp 69) (.tmp 68) rfl rb k (mkN i k) ?_ ?_ ht ?_); (rfl); (rfl))
              refine ⟨⟨k + 1, by push_cast; rfl, by omega, ⟨XR, _, HNEW.out, fun j hj => ?_, ?_, H4.out⟩, HCC.out⟩, by simp [intOf]; omega⟩
              · rw [if_neg (by omega)]; exact H2.out j hj
              · rw [if_pos rfl, mkS_succ, show (k + 1) * 9 = k * 9 + ((mkN i k).cs : List Value).length by simp; omega]
                exact HTK.out
            · have b3 : decide ((k : Int) < (lm i : Int)) = false := by simp; omega
              obtain rfl : k = lm i := by omega
              have hx : XS i = (mkS i (lm i)).flatMap Nv.cs := by
                rw [← h3]
                have := (h.ls i hil).1
                rw [List.take_of_length_le (by omega)]
              have HFIN : Hid (∃ XR XS, ST wr lb n (.slice (some ⟨g0, 0, none⟩) n c0) (.slice (some ⟨g1, 0, none⟩) n c1) RV SV ln lm XR XS 1000000 ∧ ∀ j, j < i + 1 → XR j = O2 (mkR j (ln j)) ∧ XS j = (mkS j (lm j)).flatMap Nv.cs) := ⟨XR, XS, h, fun j hj => by
                by_cases e : j = i
                · subst e; exact ⟨h4, hx⟩
                · exact h2 j (by omega)⟩
              clear h h2 h3 h4 hx HS
              go_wp2
              exact ⟨⟨i + 1, by push_cast; rfl, by omega, HFIN.out, HC.out⟩, by simp [intOf]; omega⟩
    · have b1 : decide ((i : Int) < (n : Int)) = false := by simp; omega
      obtain rfl : n = i := by omega
      have HPH : Hid (PH w wr lb n (.slice a0 n c0) (.slice a1 n c1) RV SV 1000000) := by
        obtain ⟨XR, XS, h, h2⟩ := HS.out
        exact ⟨RV, SV, ln, lm, ⟨h.ob, h.r0, h.r1, fun j hj => by rw [← (h2 j hj).1]; exact h.lr j hj, fun j hj => by rw [← (h2 j hj).2]; exact h.ls j hj, h.dd, h.bd⟩, fun p b _ hb => .inl hb⟩
      obtain ⟨i5, hi5, hz50, hz51, hz52⟩ := info_parts info53
      obtain ⟨i2, hi2, hz20, hz21, hz22⟩ := info_parts info25
      clear HS hob
      go_wp2_with fail
      clear b1 l0
      go_loopw [6] (fun y wq => ∃ i : Nat, y = .int .i64 (i : Int) ∧ i ≤ n ∧ Hid (PH w wq lb n (.slice a0 n c0) (.slice a1 n c1) RV SV (1000000 + 10 * i)) ∧ Hid (Chs (fun b => ∃ p : Ky, p.ok n ∧ bkO lb (.slice a0 n c0) (.slice a1 n c1) RV SV p = some b) w wq)) (fun y _ => n - (intOf y).toNat)
      case atStart => exact ⟨0, rfl, by omega, HPH.out, HC.out⟩
      case round =>
        clear HPH HC
        obtain ⟨i, rfl, hi, HPH, HC⟩ := hrel
        have l0 : wr.cell? ⟨lb, 0, none⟩ = some (.slice a0 n c0) := by obtain ⟨_, _, _, _, h, _⟩ := HPH.out; exact Joins.cell_of_block h.ob 0
        by_cases hil : i < n
        · obtain ⟨g0, g1, rfl, rfl⟩ : ∃ g0 g1, a0 = some ⟨g0, 0, none⟩ ∧ a1 = some ⟨g1, 0, none⟩ := by
            obtain ⟨_, _, _, _, h, _⟩ := HPH.out
            obtain ⟨g0, c0', g1, c1', e0, e1, _, _⟩ := h.at0 i hil
            simp only [Value.slice.injEq] at e0 e1
            exact ⟨g0, g1, e0.1, e1.1⟩
          have b1 : decide ((i : Int) < (n : Int)) = true := by simp; omega
          have ad1 := add_one i (by omega)
          have ng := neg_i i (by omega)
          have b2 : (i : Int) < (n : Int) := by omega
          go_wp2_with fail
          clear l0
          go_loopw [7] (fun y wq => ∃ k : Nat, y = .int .i64 (k : Int) ∧ k ≤ 5 ∧ Hid (PH w wq lb n (.slice (some ⟨g0, 0, none⟩) n c0) (.slice (some ⟨g1, 0, none⟩) n c1) RV SV (1000000 + 10 * i + 2 * k)) ∧ Hid (Chs (fun b => ∃ p : Ky, p.ok n ∧ bkO lb (.slice (some ⟨g0, 0, none⟩) n c0) (.slice (some ⟨g1, 0, none⟩) n c1) RV SV p = some b) w wq)) (fun y _ => 5 - (intOf y).toNat)
          case atStart => exact ⟨0, rfl, by omega, HPH.out, HC.out⟩
          case round =>
            clear HPH HC
            obtain ⟨k, rfl, hk, HPH, HC⟩ := hrel
            by_cases hkl : k < 5
            · have b3 : decide ((k : Int) < 5) = true := by simp; omega
              have ad2 := add_one k (by omega)
              go_upto_region 18 with fail
              go_cut [] from 79 to 159 (fun wx => Hid (PH w wx lb n (.slice (some ⟨g0, 0, none⟩) n c0) (.slice (some ⟨g1, 0, none⟩) n c1) RV SV (1000000 + 10 * i + 2 * k + 1)) ∧ Hid (Chs (fun b => ∃ p : Ky, p.ok n ∧ bkO lb (.slice (some ⟨g0, 0, none⟩) n c0) (.slice (some ⟨g1, 0, none⟩) n c1) RV SV p = some b) w wx))
              case first =>
                obtain ⟨RV', SV', ln', lm', h, hor⟩ := HPH.out
                obtain ⟨ra, rc, hrv, _⟩ := row_shape (h.lr i hil)
                obtain ⟨g0', c0', g1', c1', e0, e1, q0, q1⟩ := h.at0 i hil
                simp only [Value.slice.injEq, Option.some.injEq, Addr.mk.injEq] at e0 e1
                obtain ⟨⟨rfl, _⟩, _, rfl⟩ := e0
                obtain ⟨⟨rfl, _⟩, _, rfl⟩ := e1
                have hm := (h.bd i hil).1
                have hrow := h.lr i hil
                have hgi : (RV' i).ownBlock ≠ some g0 := fun e => by have := h.dd .a (.r i) g0 trivial hil rfl e; cases this
                have hli : (RV' i).ownBlock ≠ some lb := fun e => by have := h.dd .l (.r i) lb trivial hil rfl e; cases this
                rw [hrv] at q0 hrow hgi hli
                obtain ⟨m, hme⟩ : ∃ m, m = ln' i := ⟨_, rfl⟩
                rw [← hme] at q0 hrow hm hgi hli
                have l0 : wr.cell? ⟨lb, 0, none⟩ = some (.slice (some ⟨g0, 0, none⟩) n c0) := Joins.cell_of_block h.ob 0
                have hlb : lb < wr.heap.size := h.low .l lb trivial rfl
                have hg0 : g0 < wr.heap.size := h.low .a g0 trivial rfl
                have hlg : lb ≠ g0 := fun e => by have := h.dd .l .a lb trivial trivial rfl (by rw [e]; rfl); cases this
                have hfz : wr.frozen? ⟨g0, i, none⟩ = false := h.r0.frozenAt i
                have HR0 : Hid ((wr.drew.alloc (.cells #[.int .i64 (-1 - (i : Int)), .int .i64 (m : Int)] 53)).ownsRow 0 53 2 (.slice ra m rc) m (O2 (mkR i m))) := (hrow.drew).alloc _
                have HH := hid h
                have HOR := hid hor
                have HRV := hid hrv
                have HME := hid hme
                clear h hor hrow hrv hme q1
                refine wp_region_lex 23 26 (fun W => W.cell? ⟨lb, 0, none⟩ = some (.slice (some ⟨g0, 0, none⟩) n c0) ∧ W.cell? ⟨g0, i, none⟩ = some (.slice ra m rc)) (by kernel_rfl) (by kernel_rfl) (by decide) (by kernel_rfl) (by kernel_rfl) ⟨by simpa using l0, by simpa using q0⟩ ?_
                simp only [List.take_succ_cons, List.take_zero, List.drop_succ_cons, List.drop_zero]
                iterate 23
                  refine lex_cons ?_ rfl (fun W hW => ?_) (fun _ _ _ h => h) ?_
                  rotate_left
                  · obtain ⟨s0, s1⟩ := hW
                    go_simp <;> with_reducible rfl
                  simp only [Act.put, List.setIfInBounds_toArray, List.set_cons_zero, List.set_cons_succ]
                refine lex_nil (tail_cons fun K hK => ?_)
                go_simp
                refine hK.out _ _ (fun _ => ⟨by simp [l0, hlb, World.cell?_alloc_lt], by simp [q0, hg0, World.cell?_alloc_lt]⟩) (tail_cons fun K hK => ?_)
                refine step_append_row rfl (.tmp 94) (.tmp 106) 22 rfl 0 53 i5 (.agg #[.int .i64 0, .int .i64 0]) 2 16 Try.underlying22 hi5 hz50 hz51 hz52 rfl (by decide) (.slice ra m rc) m (O2 (mkR i m)) (by simp [Act.eval, Act.put]) (by exact HR0.out) wr.heap.size 1 1 #[.int .i64 (-1 - (i : Int)), .int .i64 (m : Int)] 53 (by simp [Act.eval, Act.put]) (by exact heap_alloc_new wr.drew _) rfl (by decide) (by simp [Value.oneCell']) (by unfold maxLen; omega) (by omega) (by omega) ?_
                intro v3 w3 ho3 hf3
                obtain ⟨y1, y3, rfl, _⟩ := row_shape ho3.out
                have hz3 : wr.heap.size + 1 ≤ w3.heap.size := (by have := hf3.out.size; simpa using this)
                have e1 : w3.heap[lb]? = wr.heap[lb]? := (hf3.out.block lb (by (try simp) <;> omega) hli).trans (heap_alloc_old _ _ (by (try simp) <;> omega))
                have e2 : w3.heap[g0]? = wr.heap[g0]? := (hf3.out.block g0 (by (try simp) <;> omega) hgi).trans (heap_alloc_old _ _ (by (try simp) <;> omega))
                have p0 := (cell_eq e1 0).trans l0
                have p1 := (cell_eq e2 i).trans q0
                have p2 := (frz_eq e2 i).trans hfz
                have E1 := hid e1
                have E2 := hid e2
                clear e1 e2
                refine hK.out _ _ (fun _ => ⟨p0, p1⟩) (tail_cons fun K hK => ?_)
                simp only [Act.put, List.setIfInBounds_toArray, List.set_cons_zero, List.set_cons_succ]
                go_simp
                refine hK.out _ _ (fun _ => ⟨p0, p1⟩) (tail_cons fun K hK => ?_)
                simp only [Act.put, List.setIfInBounds_toArray, List.set_cons_zero, List.set_cons_succ]
                go_simp
                refine hK.out _ _ (fun h => absurd rfl h) (tail_nil ?_)
                all_goals go_wp2_with fail
                all_goals go_meet
                all_goals
                  have hwl : ∀ b, b < wr.heap.size → (wr.drew.alloc (.cells #[.int .i64 (-1 - (i : Int)), .int .i64 (m : Int)] 53)).heap[b]? = wr.heap[b]? := fun b hb => heap_alloc_old _ _ (by (try simp) <;> omega)
                  have hfr : Frm (wr.drew.alloc (.cells #[.int .i64 (-1 - (i : Int)), .int .i64 (m : Int)] 53)) w3 (RV' i) (.slice y1 (m + 1) y3) := by rw [HRV.out, ← HME.out]; exact hf3.out
                  obtain ⟨s1, s2⟩ := HH.out.growR i hil (O2 (mkR i (m + 1))) (.slice y1 (m + 1) y3) (by (try simp) <;> omega) hwl hfr (by rw [← HME.out, mkR_succ]; exact ho3.out)
                  have hor : ∀ b, (RV' i).ownBlock = some b → (∃ p : Ky, p.ok n ∧ bkO lb (.slice (some ⟨g0, 0, none⟩) n c0) (.slice (some ⟨g1, 0, none⟩) n c1) RV SV p = some b) ∨ w.heap.size ≤ b := fun b hb => (HOR.out (.r i) b hil hb).imp (fun h => ⟨.r i, hil, h⟩) id
                  refine ⟨⟨_, SV', _, lm', ⟨s1.ob, s1.r0, s1.r1, fun j hj => ?_, s1.ls, s1.dd, s1.bd⟩, fun p b hp hb => ?_⟩, ⟨hf3.out.os.trans HC.out.os, hf3.out.tape.trans HC.out.tape, hf3.out.output.trans HC.out.output, by have := HC.out.size; simp [World.setCell]; omega, fun b hb hn => ?_⟩⟩
                  · have := s1.lr j hj
                    by_cases e : j = i
                    · subst e; simp only [if_pos] at this ⊢; rw [← HME.out] at this ⊢; exact this
                    · simp only [if_neg e] at this ⊢; exact this
                  · rcases s2 p b hp hb with h1 | h1
                    · exact HOR.out p b hp h1
                    · right; have := HC.out.size; omega
                  · have hbr : b < wr.heap.size := by have := HC.out.size; omega
                    exact (Below.heap_setCell _ _ _ _ (fun e => hn ⟨.a, trivial, by rw [e]; rfl⟩)).trans ((hfr.block b (by (try simp) <;> omega) (fun h => (hor b h).elim hn (by omega))).trans ((hwl b hbr).trans (HC.out.block b hb hn)))
              case rest =>
                clear HPH HC
                obtain ⟨HPH, HC⟩ := hcut
                obtain ⟨V1, rfl⟩ : ∃ V1, V1 = wc := ⟨_, rfl⟩
                go_upto_region 19 with fail
                go_cut [110] from 79 to 159 (fun y wx => ∃ bb : Bool, y = .bool bb ∧ Hid (PH w wx lb n (.slice (some ⟨g0, 0, none⟩) n c0) (.slice (some ⟨g1, 0, none⟩) n c1) RV SV (1000000 + 10 * i + 2 * k + 1)) ∧ Hid (Chs (fun b => ∃ p : Ky, p.ok n ∧ bkO lb (.slice (some ⟨g0, 0, none⟩) n c0) (.slice (some ⟨g1, 0, none⟩) n c1) RV SV p = some b) w wx))
                case first =>
                  go_region
                  all_goals go_wp2_with fail
                  all_goals go_meet
                  all_goals
                    refine ⟨_, rfl, HPH.out.below ?_, HC.out.trans (Chs.of_below (A := fun _ => False) ?_) (fun _ h => h) (fun _ h => h.elim)⟩
                  all_goals (repeat (first | exact Below.refl _ _ | refine Below.setCell ?_ (by simp) _ | refine Below.alloc ?_ (by simp) _ | refine Below.drew ?_))
                case rest =>
                  clear HPH HC
                  obtain ⟨bb, rfl, HPH, HC⟩ := hcut
                  obtain ⟨V, rfl⟩ : ∃ V, V = wc := ⟨_, rfl⟩
                  obtain ⟨RV', SV', ln', lm', h, hor⟩ := HPH.out
                  obtain ⟨ra, rc, hrv, _⟩ := row_shape (h.ls i hil)
                  obtain ⟨g0', c0', g1', c1', e0, e1, q0, q1⟩ := h.at0 i hil
                  simp only [Value.slice.injEq, Option.some.injEq, Addr.mk.injEq] at e0 e1
                  obtain ⟨⟨rfl, _⟩, _, rfl⟩ := e0
                  obtain ⟨⟨rfl, _⟩, _, rfl⟩ := e1
                  have hm := (h.bd i hil).2
                  have hrow := h.ls i hil
                  have hgi : (SV' i).ownBlock ≠ some g1 := fun e => by have := h.dd .b (.s i) g1 trivial hil rfl e; cases this
                  have hli : (SV' i).ownBlock ≠ some lb := fun e => by have := h.dd .l (.s i) lb trivial hil rfl e; cases this
                  rw [hrv] at q1 hrow hgi hli
                  obtain ⟨m, hme⟩ : ∃ m, m = lm' i := ⟨_, rfl⟩
                  rw [← hme] at q1 hrow hm hgi hli
                  have l0 : V.cell? ⟨lb, 1, none⟩ = some (.slice (some ⟨g1, 0, none⟩) n c1) := Joins.cell_of_block h.ob 1
                  have hlb : lb < V.heap.size := h.low .l lb trivial rfl
                  have hg0 : g1 < V.heap.size := h.low .b g1 trivial rfl
                  have hlg : lb ≠ g1 := fun e => by have := h.dd .l .b lb trivial trivial rfl (by rw [e]; rfl); cases this
                  have hfz : V.frozen? ⟨g1, i, none⟩ = false := h.r1.frozenAt i
                  have HROW := hid hrow
                  have HH := hid h
                  have HOR := hid hor
                  have HRV := hid hrv
                  have HME := hid hme
                  clear h hor hrow hrv hme q0
                  cases bb with
                  | true =>
                    go_upto_region 20 with fail
                    have HR0 : Hid ((V.drew.alloc (.cells #[.int .i64 0, .slice none 0 0, .int .i64 0, .slice none 0 0, .int .i64 0, .int .i64 0, .bool false, .int .i64 0, .string ⟨#[]⟩] 25)).ownsRow 0 25 9 (.slice ra m rc) m ((mkS i m).flatMap Nv.cs)) := (HROW.out.drew).alloc _
                    refine wp_region_lex 19 22 (fun W => W.cell? ⟨lb, 1, none⟩ = some (.slice (some ⟨g1, 0, none⟩) n c1) ∧ W.cell? ⟨g1, i, none⟩ = some (.slice ra m rc)) (by kernel_rfl) (by kernel_rfl) (by decide) (by kernel_rfl) (by kernel_rfl) ⟨by simpa using l0, by simpa using q1⟩ ?_
                    simp only [List.take_succ_cons, List.take_zero, List.drop_succ_cons, List.drop_zero]
                    iterate 19
                      refine lex_cons ?_ rfl (fun W hW => ?_) (fun _ _ _ h => h) ?_
                      rotate_left
                      · obtain ⟨s0, s1⟩ := hW
                        go_simp <;> with_reducible rfl
                      simp only [Act.put, List.setIfInBounds_toArray, List.set_cons_zero, List.set_cons_succ]
                    refine lex_nil (tail_cons fun K hK => ?_)
                    go_simp
                    refine hK.out _ _ (fun _ => ⟨by simp [l0, hlb, World.cell?_alloc_lt], by simp [q1, hg0, World.cell?_alloc_lt]⟩) (tail_cons fun K hK => ?_)
                    refine step_append_row rfl (.tmp 117) (.tmp 130) 23 rfl 0 25 i2 Z9 9 112 Try.underlying23 hi2 hz20 hz21 hz22 rfl (by decide) (.slice ra m rc) m ((mkS i m).flatMap Nv.cs) (by simp [Act.eval, Act.put]) (by exact HR0.out) V.heap.size 1 1 #[.int .i64 0, .slice none 0 0, .int .i64 0, .slice none 0 0, .int .i64 0, .int .i64 0, .bool false, .int .i64 0, .string ⟨#[]⟩] 25 (by simp [Act.eval, Act.put]) (by exact heap_alloc_new V.drew _) rfl (by decide) (by simp [Value.oneCell']) (by unfold maxLen; omega) (by omega) (by omega) ?_
                    intro v3 w3 ho3 hf3
                    obtain ⟨y1, y3, rfl, _⟩ := row_shape ho3.out
                    have hz3 : V.heap.size + 1 ≤ w3.heap.size := (by have := hf3.out.size; simpa using this)
                    have e1 : w3.heap[lb]? = V.heap[lb]? := (hf3.out.block lb (by (try simp) <;> omega) hli).trans (heap_alloc_old _ _ (by (try simp) <;> omega))
                    have e2 : w3.heap[g1]? = V.heap[g1]? := (hf3.out.block g1 (by (try simp) <;> omega) hgi).trans (heap_alloc_old _ _ (by (try simp) <;> omega))
                    have p0 := (cell_eq e1 1).trans l0
                    have p1 := (cell_eq e2 i).trans q1
                    have p2 := (frz_eq e2 i).trans hfz
                    have E1 := hid e1
                    have E2 := hid e2
                    clear e1 e2
                    have hwl : ∀ b, b < V.heap.size → (V.drew.alloc (.cells #[.int .i64 0, .slice none 0 0, .int .i64 0, .slice none 0 0, .int .i64 0, .int .i64 0, .bool false, .int .i64 0, .string ⟨#[]⟩] 25)).heap[b]? = V.heap[b]? := fun b hb => heap_alloc_old _ _ (by (try simp) <;> omega)
                    have hfr : Frm (V.drew.alloc (.cells #[.int .i64 0, .slice none 0 0, .int .i64 0, .slice none 0 0, .int .i64 0, .int .i64 0, .bool false, .int .i64 0, .string ⟨#[]⟩] 25)) w3 (SV' i) (.slice y1 (m + 1) y3) := by rw [HRV.out, ← HME.out]; exact hf3.out
                    have HWL := hid hwl
                    have HFR := hid hfr
                    clear hwl hfr
                    refine hK.out _ _ (fun _ => ⟨p0, p1⟩) (tail_cons fun K hK => ?_)
                    simp only [Act.put, List.setIfInBounds_toArray, List.set_cons_zero, List.set_cons_succ]
                    go_simp
                    refine hK.out _ _ (fun _ => ⟨p0, p1⟩) (tail_cons fun K hK => ?_)
                    simp only [Act.put, List.setIfInBounds_toArray, List.set_cons_zero, List.set_cons_succ]
                    go_simp
                    refine hK.out _ _ (fun h => absurd rfl h) (tail_nil ?_)
                    obtain ⟨rb, hrb⟩ : ∃ rb, y1 = some ⟨rb, 0, none⟩ := by
                      rcases ho3.out.2 with ⟨_, e⟩ | ⟨g, cap, cur, e, _⟩
                      · omega
                      · simp only [Value.slice.injEq] at e; exact ⟨g, e.1⟩
                    subst hrb
                    have hv3 : (Value.slice (some ⟨rb, 0, none⟩) (m + 1) y3).ownBlock ≠ some g1 := fun e => by
                      rcases HFR.out.own g1 e with h1 | h1
                      · rw [HRV.out, ← HME.out] at h1; exact hgi h1
                      · simp at h1; omega
                    have hrow4 := own_setCell (a := ⟨g1, i, none⟩) (u := .slice (some ⟨rb, 0, none⟩) (m + 1) y3) ho3.out hv3
                    have ht := row_there hrow4 (j := m * 9) (m := 9) (by omega)
                    have b5 : (m : Int) < ((m + 1 : Nat) : Int) := by omega
                    have HROW4 := hid hrow4
                    clear hrow4
                    go_wp2_with ((with_reducible refine store25 rfl (.tmp 133) (.tmp 128) rfl rb m (mkN i m) ?_ ?_ ht ?_); (rfl); (rfl))
                    obtain ⟨s1, s2⟩ := HH.out.growS i hil ((mkS i m).flatMap Nv.cs ++ (Nv.cs ⟨0, none, 0, 0, 0, none, 0, 0, 0, 0, false, 0, ⟨#[]⟩⟩)) (.slice (some ⟨rb, 0, none⟩) (m + 1) y3) (by (try simp) <;> omega) HWL.out HFR.out (by rw [← HME.out]; exact ho3.out)
                    have hxs : ((mkS i m).flatMap Nv.cs ++ (Nv.cs ⟨0, none, 0, 0, 0, none, 0, 0, 0, 0, false, 0, ⟨#[]⟩⟩)).take (m * 9) ++ (mkN i m).cs ++ ((mkS i m).flatMap Nv.cs ++ (Nv.cs ⟨0, none, 0, 0, 0, none, 0, 0, 0, 0, false, 0, ⟨#[]⟩⟩)).drop (m * 9 + (mkN i m).cs.length) = (mkS i (m + 1)).flatMap Nv.cs := by
                      rw [mkS_succ, List.take_append_of_le_length (by rw [mkS_len]; exact Nat.le_refl _), List.take_of_length_le (by rw [mkS_len]; exact Nat.le_refl _), List.drop_of_length_le (by rw [List.length_append, mkS_len]; simp), List.append_nil]
                    have hset := row_setCells (mkN i m).cs (m * 9) _ _ HROW4.out (by rw [List.length_append]; have := mkS_len i m; simp at this ⊢; omega)
                    have s3 := s1.setS i hil ((mkS i (m + 1)).flatMap Nv.cs) (w' := (w3.setCell ⟨g1, i, none⟩ (.slice (some ⟨rb, 0, none⟩) (m + 1) y3)).setCells rb (m * 9) (mkN i m).cs) (by simp only [if_pos]; rw [← HME.out, ← hxs]; exact hset) (fun b hb => setCells_old rb _ _ _ b (by intro e; apply hb; simp only [if_pos]; rw [e]; rfl))
                    have hor : ∀ b, (SV' i).ownBlock = some b → (∃ p : Ky, p.ok n ∧ bkO lb (.slice (some ⟨g0, 0, none⟩) n c0) (.slice (some ⟨g1, 0, none⟩) n c1) RV SV p = some b) ∨ w.heap.size ≤ b := fun b hb => (HOR.out (.s i) b hil hb).imp (fun h => ⟨.s i, hil, h⟩) id
                    have hrb2 : (∃ p : Ky, p.ok n ∧ bkO lb (.slice (some ⟨g0, 0, none⟩) n c0) (.slice (some ⟨g1, 0, none⟩) n c1) RV SV p = some rb) ∨ w.heap.size ≤ rb := by
                      rcases HFR.out.own rb rfl with h1 | h1
                      · exact hor rb h1
                      · right; have := HC.out.size; simp at h1; omega
                    refine ⟨⟨k + 1, by push_cast; rfl, by omega, ⟨RV', _, ln', _, ⟨s3.ob, s3.r0, s3.r1, s3.lr, fun j hj => ?_, s3.dd, fun j hj => (by have := s3.bd j hj; omega)⟩, fun p b hp hb => ?_⟩, ⟨?_, ?_, ?_, ?_, fun b hb hn => ?_⟩⟩, by simp [intOf]; omega⟩
                    · have := s3.ls j hj
                      by_cases e : j = i
                      · subst e; simp only [if_pos] at this ⊢; rw [← HME.out] at this ⊢; exact this
                      · simp only [if_neg e] at this ⊢; exact this
                    · rcases s2 p b hp hb with h1 | h1
                      · exact HOR.out p b hp h1
                      · right; have := HC.out.size; omega
                    · exact (Below.setCells (B := 0) (b := rb) (Nat.zero_le _) (mkN i m).cs (m * 9) _ _ (Below.refl 0 _)).os.trans (hf3.out.os.trans HC.out.os)
                    · exact (Below.setCells (B := 0) (b := rb) (Nat.zero_le _) (mkN i m).cs (m * 9) _ _ (Below.refl 0 _)).tape.trans (hf3.out.tape.trans HC.out.tape)
                    · exact (Below.setCells (B := 0) (b := rb) (Nat.zero_le _) (mkN i m).cs (m * 9) _ _ (Below.refl 0 _)).output.trans (hf3.out.output.trans HC.out.output)
                    · have := HC.out.size; have := setCells_size rb (mkN i m).cs (m * 9) (w3.setCell ⟨g1, i, none⟩ (.slice (some ⟨rb, 0, none⟩) (m + 1) y3)); simp [World.setCell] at this ⊢; omega
                    · have hbr : b < V.heap.size := by have := HC.out.size; omega
                      exact (setCells_old rb _ _ _ b (fun e => by subst e; exact hrb2.elim hn (by omega))).trans ((Below.heap_setCell _ _ _ _ (fun e => hn ⟨.b, trivial, by rw [e]; rfl⟩)).trans ((HFR.out.block b (by (try simp) <;> omega) (fun h => (hor b h).elim hn (by omega))).trans ((HWL.out b hbr).trans (HC.out.block b hb hn))))
                  | false =>
                    go_upto_region 22 with fail
                    have HR0 : Hid ((V.drew.alloc (.cells #[.int .i64 (-1 - (i : Int)), .slice none 0 0, .int .i64 0, .slice none 0 0, .int .i64 0, .int .i64 0, .bool false, .int .i64 (m : Int), .string ⟨#[]⟩] 25)).ownsRow 0 25 9 (.slice ra m rc) m ((mkS i m).flatMap Nv.cs)) := (HROW.out.drew).alloc _
                    refine wp_region_lex 23 26 (fun W => W.cell? ⟨lb, 1, none⟩ = some (.slice (some ⟨g1, 0, none⟩) n c1) ∧ W.cell? ⟨g1, i, none⟩ = some (.slice ra m rc)) (by kernel_rfl) (by kernel_rfl) (by decide) (by kernel_rfl) (by kernel_rfl) ⟨by simpa using l0, by simpa using q1⟩ ?_
                    simp only [List.take_succ_cons, List.take_zero, List.drop_succ_cons, List.drop_zero]
                    iterate 23
                      refine lex_cons ?_ rfl (fun W hW => ?_) (fun _ _ _ h => h) ?_
                      rotate_left
                      · obtain ⟨s0, s1⟩ := hW
                        go_simp <;> with_reducible rfl
                      simp only [Act.put, List.setIfInBounds_toArray, List.set_cons_zero, List.set_cons_succ]
                    refine lex_nil (tail_cons fun K hK => ?_)
                    go_simp
                    refine hK.out _ _ (fun _ => ⟨by simp [l0, hlb, World.cell?_alloc_lt], by simp [q1, hg0, World.cell?_alloc_lt]⟩) (tail_cons fun K hK => ?_)
                    refine step_append_row rfl (.tmp 145) (.tmp 157) 23 rfl 0 25 i2 Z9 9 112 Try.underlying23 hi2 hz20 hz21 hz22 rfl (by decide) (.slice ra m rc) m ((mkS i m).flatMap Nv.cs) (by simp [Act.eval, Act.put]) (by exact HR0.out) V.heap.size 1 1 #[.int .i64 (-1 - (i : Int)), .slice none 0 0, .int .i64 0, .slice none 0 0, .int .i64 0, .int .i64 0, .bool false, .int .i64 (m : Int), .string ⟨#[]⟩] 25 (by simp [Act.eval, Act.put]) (by exact heap_alloc_new V.drew _) rfl (by decide) (by simp [Value.oneCell']) (by unfold maxLen; omega) (by omega) (by omega) ?_
                    intro v3 w3 ho3 hf3
                    obtain ⟨y1, y3, rfl, _⟩ := row_shape ho3.out
                    have hz3 : V.heap.size + 1 ≤ w3.heap.size := (by have := hf3.out.size; simpa using this)
                    have e1 : w3.heap[lb]? = V.heap[lb]? := (hf3.out.block lb (by (try simp) <;> omega) hli).trans (heap_alloc_old _ _ (by (try simp) <;> omega))
                    have e2 : w3.heap[g1]? = V.heap[g1]? := (hf3.out.block g1 (by (try simp) <;> omega) hgi).trans (heap_alloc_old _ _ (by (try simp) <;> omega))
                    have p0 := (cell_eq e1 1).trans l0
                    have p1 := (cell_eq e2 i).trans q1
                    have p2 := (frz_eq e2 i).trans hfz
                    have E1 := hid e1
                    have E2 := hid e2
                    clear e1 e2
                    have hwl : ∀ b, b < V.heap.size → (V.drew.alloc (.cells #[.int .i64 (-1 - (i : Int)), .slice none 0 0, .int .i64 0, .slice none 0 0, .int .i64 0, .int .i64 0, .bool false, .int .i64 (m : Int), .string ⟨#[]⟩] 25)).heap[b]? = V.heap[b]? := fun b hb => heap_alloc_old _ _ (by (try simp) <;> omega)
                    have hfr : Frm (V.drew.alloc (.cells #[.int .i64 (-1 - (i : Int)), .slice none 0 0, .int .i64 0, .slice none 0 0, .int .i64 0, .int .i64 0, .bool false, .int .i64 (m : Int), .string ⟨#[]⟩] 25)) w3 (SV' i) (.slice y1 (m + 1) y3) := by rw [HRV.out, ← HME.out]; exact hf3.out
                    have HWL := hid hwl
                    have HFR := hid hfr
                    clear hwl hfr
                    refine hK.out _ _ (fun _ => ⟨p0, p1⟩) (tail_cons fun K hK => ?_)
                    simp only [Act.put, List.setIfInBounds_toArray, List.set_cons_zero, List.set_cons_succ]
                    go_simp
                    refine hK.out _ _ (fun _ => ⟨p0, p1⟩) (tail_cons fun K hK => ?_)
                    simp only [Act.put, List.setIfInBounds_toArray, List.set_cons_zero, List.set_cons_succ]
                    go_simp
                    refine hK.out _ _ (fun h => absurd rfl h) (tail_nil ?_)
                    go_wp2_with fail
                    obtain ⟨s1, s2⟩ := HH.out.growS i hil ((mkS i (m + 1)).flatMap Nv.cs) (.slice y1 (m + 1) y3) (by (try simp) <;> omega) HWL.out HFR.out (by rw [← HME.out, mkS_succ]; exact ho3.out)
                    have hor : ∀ b, (SV' i).ownBlock = some b → (∃ p : Ky, p.ok n ∧ bkO lb (.slice (some ⟨g0, 0, none⟩) n c0) (.slice (some ⟨g1, 0, none⟩) n c1) RV SV p = some b) ∨ w.heap.size ≤ b := fun b hb => (HOR.out (.s i) b hil hb).imp (fun h => ⟨.s i, hil, h⟩) id
                    refine ⟨⟨k + 1, by push_cast; rfl, by omega, ⟨RV', _, ln', _, ⟨s1.ob, s1.r0, s1.r1, s1.lr, fun j hj => ?_, s1.dd, fun j hj => (by have := s1.bd j hj; omega)⟩, fun p b hp hb => ?_⟩, ⟨hf3.out.os.trans HC.out.os, hf3.out.tape.trans HC.out.tape, hf3.out.output.trans HC.out.output, by have := HC.out.size; simp [World.setCell]; omega, fun b hb hn => ?_⟩⟩, by simp [intOf]; omega⟩
                    · have := s1.ls j hj
                      by_cases e : j = i
                      · subst e; simp only [if_pos] at this ⊢; rw [← HME.out] at this ⊢; exact this
                      · simp only [if_neg e] at this ⊢; exact this
                    · rcases s2 p b hp hb with h1 | h1
                      · exact HOR.out p b hp h1
                      · right; have := HC.out.size; omega
                    · have hbr : b < V.heap.size := by have := HC.out.size; omega
                      exact (Below.heap_setCell _ _ _ _ (fun e => hn ⟨.b, trivial, by rw [e]; rfl⟩)).trans ((HFR.out.block b (by (try simp) <;> omega) (fun h => (hor b h).elim hn (by omega))).trans ((HWL.out b hbr).trans (HC.out.block b hb hn)))
            · have b3 : decide ((k : Int) < 5) = false := by simp; omega
              obtain rfl : k = 5 := by omega
              go_wp2
              exact ⟨⟨i + 1, by push_cast; rfl, by omega, (by have := HPH.out; rwa [show 1000000 + 10 * i + 2 * 5 = 1000000 + 10 * (i + 1) by omega] at this), HC.out⟩, by simp [intOf]; omega⟩
        · have b1 : decide ((i : Int) < (n : Int)) = false := by simp; omega
          obtain rfl : n = i := by omega
          go_wp2_with fail
          clear b1 l0
          go_loopw [8] (fun y wq => ∃ i : Nat, y = .int .i64 (i : Int) ∧ i ≤ n ∧ Hid (PH w wq lb n (.slice a0 n c0) (.slice a1 n c1) RV SV (1000000 + 10 * n)) ∧ Hid (Chs (fun b => ∃ p : Ky, p.ok n ∧ bkO lb (.slice a0 n c0) (.slice a1 n c1) RV SV p = some b) w wq)) (fun y _ => n - (intOf y).toNat)
          case atStart => exact ⟨0, rfl, by omega, HPH.out, HC.out⟩
          case round =>
            clear HPH HC
            obtain ⟨i, rfl, hi, HPH, HC⟩ := hrel
            have l0 : wr.cell? ⟨lb, 0, none⟩ = some (.slice a0 n c0) := by obtain ⟨_, _, _, _, h, _⟩ := HPH.out; exact Joins.cell_of_block h.ob 0
            by_cases hil : i < n
            · obtain ⟨g0, g1, rfl, rfl⟩ : ∃ g0 g1, a0 = some ⟨g0, 0, none⟩ ∧ a1 = some ⟨g1, 0, none⟩ := by
                obtain ⟨_, _, _, _, h, _⟩ := HPH.out
                obtain ⟨g0, c0', g1, c1', e0, e1, _, _⟩ := h.at0 i hil
                simp only [Value.slice.injEq] at e0 e1
                exact ⟨g0, g1, e0.1, e1.1⟩
              have b1 : decide ((i : Int) < (n : Int)) = true := by simp; omega
              have ad1 := add_one i (by omega)
              have ng := neg_i i (by omega)
              have b2 : (i : Int) < (n : Int) := by omega
              go_wp2_with fail
              clear l0
              obtain ⟨RV', SV', ln', lm', h, hor⟩ := HPH.out
              obtain ⟨ra, rc, hrv, _⟩ := row_shape (h.lr i hil)
              obtain ⟨sa, sc, hsv, _⟩ := row_shape (h.ls i hil)
              have hbl := (h.bd i hil).1
              have hbm := (h.bd i hil).2
              have HRV := hid hrv
              have HSV := hid hsv
              have HOR := hid hor
              have HST := hid h
              clear h hor hrv hsv HPH
              go_loopw [9] (fun y wq => ∃ k : Nat, y = .int .i64 (k : Int) ∧ k ≤ ln' i ∧ Hid (ST wq lb n (.slice (some ⟨g0, 0, none⟩) n c0) (.slice (some ⟨g1, 0, none⟩) n c1) RV' SV' ln' lm' (fun j => O2 (mkR j (ln' j))) (fun j => (mkS j (lm' j)).flatMap Nv.cs) (1000000 + 10 * n)) ∧ Hid (Chs (fun b => ∃ p : Ky, p.ok n ∧ bkO lb (.slice (some ⟨g0, 0, none⟩) n c0) (.slice (some ⟨g1, 0, none⟩) n c1) RV SV p = some b) w wq)) (fun y _ => ln' i - (intOf y).toNat)
              case atStart => exact ⟨0, rfl, by omega, HST.out, HC.out⟩
              case round =>
                clear HST HC
                obtain ⟨k, rfl, hk, HST, HC⟩ := hrel
                have l0 : wr.cell? ⟨lb, 0, none⟩ = some (.slice (some ⟨g0, 0, none⟩) n c0) := Joins.cell_of_block HST.out.ob 0
                obtain ⟨g0', c0', g1', c1', e0, e1, q0, q1⟩ := HST.out.at0 i hil
                simp only [Value.slice.injEq, Option.some.injEq, Addr.mk.injEq] at e0 e1
                obtain ⟨⟨rfl, _⟩, _, rfl⟩ := e0
                obtain ⟨⟨rfl, _⟩, _, rfl⟩ := e1
                rw [HRV.out] at q0
                clear q1
                by_cases hkl : k < ln' i
                · have b3 : decide ((k : Int) < (ln' i : Int)) = true := by simp; omega
                  have b4 : (k : Int) < (ln' i : Int) := by omega
                  have ad2 := add_one k (by omega)
                  have hrow := HST.out.lr i hil
                  rw [HRV.out] at hrow
                  obtain ⟨rb, hrb⟩ : ∃ rb, ra = some ⟨rb, 0, none⟩ := by
                    rcases hrow.2 with ⟨_, e⟩ | ⟨g, cap, cur, e, _⟩
                    · omega
                    · simp only [Value.slice.injEq] at e; exact ⟨g, e.1⟩
                  subst hrb
                  obtain ⟨r0, r1⟩ := O2_at (mkR i (ln' i)) k (by simpa using hkl)
                  have m0 : wr.cell? ⟨rb, k * 2, none⟩ = some (.int .i64 (-1 - (i : Int))) := by rw [hrow.cellAt (k * 2) (by omega), r0]; simp [mkR]
                  have m1 : wr.cell? ⟨rb, k * 2 + 1, none⟩ = some (.int .i64 (k : Int)) := by rw [hrow.cellAt (k * 2 + 1) (by omega), r1]; simp [mkR]
                  have hneq := fun W' => rng_neq (-1 - (i : Int)) (k : Int) W'
                  have hgd := fun x y W' => rng_guard x y (-1 - (i : Int)) (k : Int) (-1 - (i : Int)) (k : Int) W'
                  clear hrow r0 r1
                  go_wp2
                  exact ⟨⟨k + 1, by push_cast; rfl, by omega, HST.out, HC.out⟩, by simp [intOf]; omega⟩
                · have b3 : decide ((k : Int) < (ln' i : Int)) = false := by simp; omega
                  obtain rfl : k = ln' i := by omega
                  go_wp2_with fail
                  clear l0 q0 b3
                  go_loopw [10] (fun y wq => ∃ k : Nat, y = .int .i64 (k : Int) ∧ k ≤ lm' i ∧ Hid (ST wq lb n (.slice (some ⟨g0, 0, none⟩) n c0) (.slice (some ⟨g1, 0, none⟩) n c1) RV' SV' ln' lm' (fun j => O2 (mkR j (ln' j))) (fun j => (mkS j (lm' j)).flatMap Nv.cs) (1000000 + 10 * n)) ∧ Hid (Chs (fun b => ∃ p : Ky, p.ok n ∧ bkO lb (.slice (some ⟨g0, 0, none⟩) n c0) (.slice (some ⟨g1, 0, none⟩) n c1) RV SV p = some b) w wq)) (fun y _ => lm' i - (intOf y).toNat)
                  case atStart => exact ⟨0, rfl, by omega, HST.out, HC.out⟩
                  case round =>
                    clear HST HC
                    obtain ⟨k, rfl, hk, HST, HC⟩ := hrel
                    have l1 : wr.cell? ⟨lb, 1, none⟩ = some (.slice (some ⟨g1, 0, none⟩) n c1) := Joins.cell_of_block HST.out.ob 1
                    obtain ⟨g0', c0', g1', c1', e0, e1, q0, q1⟩ := HST.out.at0 i hil
                    simp only [Value.slice.injEq, Option.some.injEq, Addr.mk.injEq] at e0 e1
                    obtain ⟨⟨rfl, _⟩, _, rfl⟩ := e0
                    obtain ⟨⟨rfl, _⟩, _, rfl⟩ := e1
                    rw [HSV.out] at q1
                    clear q0
                    by_cases hkl : k < lm' i
                    · have b3 : decide ((k : Int) < (lm' i : Int)) = true := by simp; omega
                      have b4 : (k : Int) < (lm' i : Int) := by omega
                      have ad2 := add_one k (by omega)
                      have hrow := HST.out.ls i hil
                      rw [HSV.out] at hrow
                      obtain ⟨rb, hrb⟩ : ∃ rb, sa = some ⟨rb, 0, none⟩ := by
                        rcases hrow.2 with ⟨_, e⟩ | ⟨g, cap, cur, e, _⟩
                        · omega
                        · simp only [Value.slice.injEq] at e; exact ⟨g, e.1⟩
                      subst hrb
                      have m0 : wr.cell? ⟨rb, k * 9, none⟩ = some (.int .i64 (-1 - (i : Int))) := by
                        rw [hrow.cellAt (k * 9) (by omega)]
                        have := flat9 (mkS i (lm' i)) k 0 (by simpa using hkl) (by omega)
                        rw [Nat.add_zero] at this
                        rw [this]; simp [mkS]
                      have m1 : wr.cell? ⟨rb, k * 9 + 7, none⟩ = some (.int .i64 (k : Int)) := by
                        rw [hrow.cellAt (k * 9 + 7) (by omega), flat9 (mkS i (lm' i)) k 7 (by simpa using hkl) (by omega)]; simp [mkS]
                      clear hrow
                      go_wp2
                      exact ⟨⟨k + 1, by push_cast; rfl, by omega, HST.out, HC.out⟩, by simp [intOf]; omega⟩
                    · have b3 : decide ((k : Int) < (lm' i : Int)) = false := by simp; omega
                      go_wp2
                      exact ⟨⟨i + 1, by push_cast; rfl, by omega, ⟨RV', SV', ln', lm', HST.out, HOR.out⟩, HC.out⟩, by simp [intOf]; omega⟩
            · have b1 : decide ((i : Int) < (n : Int)) = false := by simp; omega
              go_wp2
              go_ret
              exact ⟨rfl, HC.out⟩
end Go.Proofs.Ytilpkeipjlnogaa
