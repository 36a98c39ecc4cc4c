/- HELPERS: an instruction out of a reader of the document's. -/
import Derived.Test.YteanndophopplaaDoorEa
import Derived.Test.YteanndophopplaaDoorGA
import Derived.Test.YteanndophopplaaDoorXh
/- HELPERS: an instruction's numbers read one by one: the document's way. -/
namespace Go.Proofs.YteanndophopplaaDoor
open Go.RowKit
set_option linter.unusedVariables false
set_option linter.unusedSimpArgs false
/-- so many numbers -/
def getNs {α : Type} (C : Codec α) : Nat → List α → Option (List Nat × List α)
  | 0, l => some ([], l)
  | n + 1, l => match C.get l with
    | none => none
    | some (x, l1) => match getNs C n l1 with
      | none => none
      | some (ns, l2) => some (x :: ns, l2)
def pairsN : List Nat → List (Int × Int)
  | a :: b :: r => ((a : Int), (b : Int)) :: pairsN r
  | _ => []
def manyN (op : Nat) : Nat := if op = 1 ∨ op = 2 ∨ op = 3 ∨ op = 4 then 2 else if op = 5 ∨ op = 7 then 1 else 0
/-- the instruction of an operation and its numbers -/
def mkIn (op : Nat) (l : List Nat) : In :=
  if op = 1 then ⟨1, (l.getD 0 0 : Nat), 0, 0, pairsN (l.drop 2)⟩
  else if op = 2 then ⟨2, (l.getD 0 0 : Nat), (l.getD 1 0 : Nat), 0, []⟩
  else if op = 3 ∨ op = 4 then ⟨op, (l.getD 1 0 : Nat), 0, (l.getD 0 0 : Nat), []⟩
  else if op = 5 then ⟨5, 0, 0, (l.getD 0 0 : Nat), []⟩
  else if op = 7 then ⟨7, (l.getD 0 0 : Nat), 0, 0, []⟩
  else ⟨op, 0, 0, 0, []⟩
def moreN (op : Nat) (ns : List Nat) : Nat := if op = 1 then 2 * ns.getD 1 0 else 0
/-- the document's instruction -/
def getD' {α : Type} (C : Codec α) (l : List α) : Option (In × List α) := match C.getop l with
  | none => none
  | some (op, l1) => if op < 1 ∨ 7 < op then none else match getNs C (manyN op) l1 with
    | none => none
    | some (ns, l2) => match getNs C (moreN op ns) l2 with
      | none => none
      | some (ms, l3) => some (mkIn op (ns ++ ms), l3)
theorem getNs_len {α : Type} {C : Codec α} : ∀ (n : Nat) {l u : List α} {ns : List Nat}, getNs C n l = some (ns, u) → ns.length = n := by
  intro n
  induction n with
  | zero => intro l u ns h; simp [getNs] at h; simp [← h.1]
  | succ n ih =>
    intro l u ns h
    unfold getNs at h
    split at h
    · simp at h
    split at h
    · simp at h
    rename_i h2
    simp at h
    rw [← h.1, List.length_cons, ih h2]
theorem getR_pairs {α : Type} (C : Codec α) : ∀ (c : Nat) (l : List α), getR C c l = (match getNs C (2 * c) l with | none => none | some (ms, l3) => some (pairsN ms, l3)) := by
  intro c
  induction c with
  | zero => intro l; rfl
  | succ c ih =>
    intro l
    rw [show 2 * (c + 1) = (2 * c + 1) + 1 by omega]
    simp only [getR, getNs]
    cases C.get l with
    | none => rfl
    | some p =>
      obtain ⟨lo, l1⟩ := p
      simp only
      cases C.get l1 with
      | none => rfl
      | some p =>
        obtain ⟨hi, l2⟩ := p
        simp only [ih l2]
        cases getNs C (2 * c) l2 with
        | none => rfl
        | some p => rfl
theorem getI_doc {α : Type} (C : Codec α) {L : Nat} (hL : C.top ≤ L) (l : List α) : getI C L l = getD' C l := by
  unfold getI getD'
  cases ho : C.getop l with
  | none => rfl
  | some p =>
    obtain ⟨op, l1⟩ := p
    simp only
    by_cases hop : op < 1 ∨ 7 < op
    · rw [if_pos hop]
      unfold getF
      rw [if_neg (by omega), if_neg (by omega), if_neg (by omega), if_neg (by omega), if_neg (by omega), if_neg (by omega)]
    · rw [if_neg hop]
      obtain rfl | rfl | rfl | rfl | rfl | rfl | rfl : op = 1 ∨ op = 2 ∨ op = 3 ∨ op = 4 ∨ op = 5 ∨ op = 6 ∨ op = 7 := by omega
      · simp only [getF, manyN, getNs, if_true, true_or]
        cases h1 : C.get l1 with
        | none => rfl
        | some p =>
          obtain ⟨x, l2⟩ := p
          simp only
          cases h2 : C.get l2 with
          | none => rfl
          | some p =>
            obtain ⟨c, l3⟩ := p
            have hc := (C.num_get _ _ _ h2).2
            simp only [if_neg (show ¬ L < c by omega), moreN, if_true, List.getD_cons_succ, List.getD_cons_zero, getR_pairs]
            cases getNs C (2 * c) l3 with
            | none => rfl
            | some p => simp [mkIn]
      all_goals
        simp only [getF, manyN, getNs, if_true, true_or, or_true, if_false, (by decide : ¬ (2:Nat) = 1), (by decide : ¬ (3:Nat) = 1), (by decide : ¬ (4:Nat) = 1), (by decide : ¬ (5:Nat) = 1), (by decide : ¬ (6:Nat) = 1), (by decide : ¬ (7:Nat) = 1), (by decide : ¬ (3:Nat) = 2), (by decide : ¬ (4:Nat) = 2), (by decide : ¬ (5:Nat) = 2), (by decide : ¬ (6:Nat) = 2), (by decide : ¬ (7:Nat) = 2), (by decide : ¬ (4:Nat) = 3), (by decide : ¬ (5:Nat) = 3), (by decide : ¬ (6:Nat) = 3), (by decide : ¬ (7:Nat) = 3), (by decide : ¬ (5:Nat) = 4), (by decide : ¬ (6:Nat) = 4), (by decide : ¬ (7:Nat) = 4), (by decide : ¬ (6:Nat) = 5), (by decide : ¬ (7:Nat) = 5), (by decide : ¬ (7:Nat) = 6), (by decide : ¬ (6:Nat) = 7), or_self, false_or]
        first
          | (cases h1 : C.get l1 with
             | none => rfl
             | some p =>
               obtain ⟨x, l2⟩ := p
               simp only
               cases h2 : C.get l2 with
               | none => rfl
               | some p => (simp [moreN, getNs, mkIn]; done))
          | (cases h1 : C.get l1 with
             | none => rfl
             | some p => (simp [moreN, getNs, mkIn]; done))
          | (simp [moreN, getNs, mkIn]; done)
/-- the numbers that were read so far, and those to come -/
def Nums {α : Type} (C : Codec α) (n : Nat) (l0 : List α) (j : Nat) (acc : List Nat) (l : List α) : Prop := getNs C n l0 = (match getNs C (n - j) l with | none => none | some (ns, u) => some (acc ++ ns, u))
theorem Nums.start {α : Type} (C : Codec α) (n : Nat) (l : List α) : Nums C n l 0 [] l := by
  unfold Nums
  simp only [Nat.sub_zero, List.nil_append]
  cases getNs C n l <;> rfl
theorem Nums.step {α : Type} {C : Codec α} {n j x : Nat} {l0 l u : List α} {acc : List Nat} (h : Nums C n l0 j acc l) (hj : j < n) (hg : C.get l = some (x, u)) : Nums C n l0 (j + 1) (acc ++ [x]) u := by
  unfold Nums at h ⊢
  rw [h, show n - j = (n - (j + 1)) + 1 by omega]
  simp only [getNs, hg]
  cases getNs C (n - (j + 1)) u with
  | none => rfl
  | some p => simp
theorem Nums.none {α : Type} {C : Codec α} {n j : Nat} {l0 l : List α} {acc : List Nat} (h : Nums C n l0 j acc l) (hj : j < n) (hg : C.get l = Option.none) : getNs C n l0 = Option.none := by
  unfold Nums at h
  rw [h, show n - j = (n - (j + 1)) + 1 by omega]
  simp only [getNs, hg]
theorem Nums.done {α : Type} {C : Codec α} {n : Nat} {l0 l : List α} {acc : List Nat} (h : Nums C n l0 n acc l) : getNs C n l0 = some (acc, l) := by
  unfold Nums at h
  rw [h, Nat.sub_self]
  simp [getNs]
end Go.Proofs.YteanndophopplaaDoor
/- HELPERS: the document's instruction of an operation and its numbers. -/
namespace Go.Proofs.YteanndophopplaaDoor
open Go.RowKit
set_option linter.unusedVariables false
set_option linter.unusedSimpArgs false
/-- numbers as cells -/
abbrev I1 (l : List Nat) : List Value := l.map fun (x : Nat) => Value.int .i64 (x : Int)
def pairAt (l : List Nat) (j : Nat) : Int × Int := ((l.getD (2 + 2 * j) 0 : Nat), (l.getD (2 + 2 * j + 1) 0 : Nat))
theorem pairsN_range : ∀ (n : Nat) (l : List Nat), l.length < n → pairsN l = (List.range (l.length / 2)).map fun j => (((l.getD (2 * j) 0 : Nat) : Int), ((l.getD (2 * j + 1) 0 : Nat) : Int)) := by
  intro n
  induction n with
  | zero => intro l h; omega
  | succ n ih =>
    intro l h
    match l, h with
    | [], _ => rfl
    | [a], _ => simp [pairsN]
    | a :: b :: r, h =>
      rw [pairsN, ih r (by simp at h; omega)]
      rw [show (a :: b :: r).length / 2 = r.length / 2 + 1 by simp only [List.length_cons]; omega, List.range_succ_eq_map, List.map_cons, List.map_map]
      refine congr (congrArg List.cons rfl) (List.map_congr_left fun j _ => ?_)
      show (((r.getD (2 * j) 0 : Nat) : Int), ((r.getD (2 * j + 1) 0 : Nat) : Int)) = ((((a :: b :: r).getD (2 * (j + 1)) 0 : Nat) : Int), (((a :: b :: r).getD (2 * (j + 1) + 1) 0 : Nat) : Int))
      rw [show 2 * (j + 1) + 1 = (2 * j + 1) + 2 by omega, show 2 * (j + 1) = 2 * j + 2 by omega]
      rfl
theorem pairs_drop (l : List Nat) : pairsN (l.drop 2) = (List.range ((l.length - 2) / 2)).map (pairAt l) := by
  rw [pairsN_range _ _ (Nat.lt_succ_self _), List.length_drop]
  apply List.map_congr_left
  intro j _
  simp only [pairAt, List.getD_eq_getElem?_getD, List.getElem?_drop]
  rfl
theorem I1_at {w : World} {base c : Nat} {g : Nat} {l : List Nat} (h : w.ownsRow base 3 1 (.slice (some ⟨g, 0, none⟩) l.length c) l.length (I1 l)) (i : Nat) (hi : i < l.length) : w.cell? ⟨g, i, none⟩ = some (.int .i64 ((l.getD i 0 : Nat) : Int)) := by
  rw [h.cellAt i (by omega)]
  simp [I1, List.getD_eq_getElem?_getD, List.getElem?_eq_getElem hi]
/-- an instruction that a call has made, its ranges in a block that is new -/
structure IFr (B : Nat) (w' : World) (N : Iv) (I : In) : Prop where
  op : N.op = I.op
  x : N.x = I.x
  y : N.y = I.y
  a : N.a = I.a
  len : N.r2 = I.R.length
  sm : I.R.length ≤ 8388620
  rr : w'.ownsRow B 51 2 N.rv I.R.length (O2 I.R)
theorem IFr.bare (B : Nat) (w' : World) (op x y a : Int) : IFr B w' ⟨op, x, y, a, none, 0, 0⟩ ⟨op, x, y, a, []⟩ := ⟨rfl, rfl, rfl, rfl, rfl, by simp, World.ownsRow_nil _ _ _ _⟩
theorem IFr.kept {B : Nat} {w w' : World} {N : Iv} {I : In} (h : IFr B w N I) (hk : ∀ b, B ≤ b → b < w.heap.size → w'.heap[b]? = w.heap[b]?) : IFr B w' N I :=
  ⟨h.op, h.x, h.y, h.a, h.len, h.sm, row_kept h.rr (fun b e => hk b (h.rr.lt b e).1 (h.rr.lt b e).2)⟩
theorem five_frz {w : World} {b : Nat} {v0 v1 v2 v3 v4 : Value} {t : TypeId} (h : w.heap[b]? = some (.cells #[v0, v1, v2, v3, v4] t (0, 0))) : w.frozen? ⟨b, 0, none⟩ = false ∧ w.frozen? ⟨b, 1, none⟩ = false ∧ w.frozen? ⟨b, 2, none⟩ = false ∧ w.frozen? ⟨b, 3, none⟩ = false ∧ w.frozen? ⟨b, 4, none⟩ = false :=
  ⟨Joins.unfrozen_of_block h 0, Joins.unfrozen_of_block h 1, Joins.unfrozen_of_block h 2, Joins.unfrozen_of_block h 3, Joins.unfrozen_of_block h 4⟩
theorem below_set5 {w w' : World} {b : Nat} (h : Below w.heap.size w w') (hb : w.heap.size ≤ b) (u0 u1 u2 u3 u4 : Value) : Below w.heap.size w (((((w'.setCell ⟨b, 0, none⟩ u0).setCell ⟨b, 1, none⟩ u1).setCell ⟨b, 2, none⟩ u2).setCell ⟨b, 3, none⟩ u3).setCell ⟨b, 4, none⟩ u4) :=
  (((((h.setCell (p := ⟨b, 0, none⟩) hb _).setCell (p := ⟨b, 1, none⟩) hb _).setCell (p := ⟨b, 2, none⟩) hb _).setCell (p := ⟨b, 3, none⟩) hb _).setCell (p := ⟨b, 4, none⟩) hb _)
set_option maxRecDepth 100000 in
set_option maxHeartbeats 4000000 in
theorem inst_2 {w : World} {base c n : Nat} {a : Option Addr} {l : List Nat} (hl : 2 ≤ l.length) (hn : n = l.length) (hr : w.ownsRow base 3 1 (.slice a l.length c) l.length (I1 l)) :
    Calls Tryd.prog 46 #[.int .i64 2, .slice a n c] w fun e w' => Below w.heap.size w w' ∧ ∃ N, e = .returned N.v ∧ IFr w.heap.size w' N (mkIn 2 l) := by
  obtain ⟨g, rfl⟩ : ∃ g, a = some ⟨g, 0, none⟩ := by
    rcases hr.2 with ⟨e, h0⟩ | ⟨g, cap, cur, e, _⟩
    · omega
    · simp only [Value.slice.injEq] at e; exact ⟨g, e.1⟩
  have hgl := (hr.lt g rfl).2
  have HN := hid hn
  have m0 := I1_at hr 0 (by omega)
  obtain ⟨x0, hx0⟩ : ∃ x, x = l.getD 0 0 := ⟨_, rfl⟩
  rw [← hx0] at m0
  have HX0 := hid hx0
  have m1 := I1_at hr 1 (by omega)
  obtain ⟨x1, hx1⟩ : ∃ x, x = l.getD 1 0 := ⟨_, rfl⟩
  rw [← hx1] at m1
  have HX1 := hid hx1
  obtain ⟨xb, hxb⟩ : ∃ xb, xb = w.heap.size + 1 := ⟨_, rfl⟩
  obtain ⟨W, hW⟩ : ∃ W, W = (w.alloc (.cells #[zI, zI, zI, zI, nilS] 49)).alloc (.cells #[.int .i64 2, zI, zI, zI, nilS] 49) := ⟨_, rfl⟩
  have hX : B5 W (xb) (.int .i64 2) zI zI zI nilS := by rw [hW, hxb]; exact two_new w _ _ _
  have hY : B5 W w.heap.size zI zI zI zI nilS := by rw [hW]; exact (heap_alloc_old _ _ (by simp)).trans (heap_alloc_new w _)
  have hB : Below w.heap.size w W := by rw [hW]; exact below_two' w _ _
  have m0 := (hB.cell (p := ⟨g, 0, none⟩) hgl).trans m0
  have m1 := (hB.cell (p := ⟨g, 1, none⟩) hgl).trans m1
  have hn2 : ((2 : Nat) : Int) ≤ (n : Int) := by omega
  have hk0 : (0 : Int) < (n : Int) := by omega
  have hk1 : (1 : Int) < (n : Int) := by omega
  have h0 := hX
  have h1 := B5.set1 h0 (.int .i64 (x0 : Int))
  have h2 := B5.set2 h1 (.int .i64 (x1 : Int))
  have hY2 : B5 ((W.setCell ⟨xb, 1, none⟩ (.int .i64 (x0 : Int))).setCell ⟨xb, 2, none⟩ (.int .i64 (x1 : Int))) w.heap.size zI zI zI zI nilS := ((Below.heap_setCell _ _ _ _ (show w.heap.size ≠ xb by omega)).trans ((Below.heap_setCell _ _ _ _ (show w.heap.size ≠ xb by omega)).trans hY))
  have hBN : Below w.heap.size w ((W.setCell ⟨xb, 1, none⟩ (.int .i64 (x0 : Int))).setCell ⟨xb, 2, none⟩ (.int .i64 (x1 : Int))) := (Below.setCell (Below.setCell hB (p := ⟨xb, 1, none⟩) (by show w.heap.size ≤ xb; omega) _) (p := ⟨xb, 2, none⟩) (by show w.heap.size ≤ xb; omega) _)
  have HYN := hid hY2
  have HBN := hid hBN
  obtain ⟨p00, p01, p02, p03, p04⟩ := five h0
  obtain ⟨f00, f01, f02, f03, f04⟩ := frz5 h0
  obtain ⟨p10, p11, p12, p13, p14⟩ := five h1
  obtain ⟨f10, f11, f12, f13, f14⟩ := frz5 h1
  obtain ⟨p20, p21, p22, p23, p24⟩ := five h2
  obtain ⟨f20, f21, f22, f23, f24⟩ := frz5 h2
  have m1 : (W.setCell ⟨xb, 1, none⟩ (.int .i64 (x0 : Int))).cell? ⟨g, 1, none⟩ = some (.int .i64 (x1 : Int)) := (cell_eq (Below.heap_setCell _ ⟨xb, 1, none⟩ _ _ (show g ≠ xb by omega)) 1).trans m1
  clear hx0
  clear hx1
  obtain ⟨r0, r1, r2, r3, r4⟩ := five hY2
  obtain ⟨s0, s1, s2, s3, s4⟩ := frz5 hY2
  have HW := hid hW
  clear hX hY hB hBN hW hY2 h0 h1 h2 hr hn
  have HXB := hid hxb
  have hlt : w.heap.size < xb := by omega
  clear hxb
  go_enter Tryd.func46, Tryd.ntmps46
  go_upto_region 2 with fail
  rw [← HW.out, ← HXB.out]
  go_wp2
  all_goals
    refine bodyPost_ret (results_cell_row rfl _ _ w.heap.size 49 _ (0, 0) _ rfl (all5 HYN.out _ _ _ _ _) Tryd.underlying49 rfl (by kernel_rfl)) rfl ?_
    refine ⟨below_set5 HBN.out (Nat.le_refl _) _ _ _ _ _, ⟨2, x0, x1, 0, none, 0, 0⟩, rfl, ?_⟩
    exact ⟨rfl, by simp [mkIn, HX0.out], by simp [mkIn, HX1.out], rfl, by simp [mkIn], by simp [mkIn], World.ownsRow_nil _ _ _ _⟩
set_option maxRecDepth 100000 in
set_option maxHeartbeats 4000000 in
theorem inst_3 {w : World} {base c n : Nat} {a : Option Addr} {l : List Nat} (hl : 2 ≤ l.length) (hn : n = l.length) (hr : w.ownsRow base 3 1 (.slice a l.length c) l.length (I1 l)) :
    Calls Tryd.prog 46 #[.int .i64 3, .slice a n c] w fun e w' => Below w.heap.size w w' ∧ ∃ N, e = .returned N.v ∧ IFr w.heap.size w' N (mkIn 3 l) := by
  obtain ⟨g, rfl⟩ : ∃ g, a = some ⟨g, 0, none⟩ := by
    rcases hr.2 with ⟨e, h0⟩ | ⟨g, cap, cur, e, _⟩
    · omega
    · simp only [Value.slice.injEq] at e; exact ⟨g, e.1⟩
  have hgl := (hr.lt g rfl).2
  have HN := hid hn
  have m0 := I1_at hr 0 (by omega)
  obtain ⟨x0, hx0⟩ : ∃ x, x = l.getD 0 0 := ⟨_, rfl⟩
  rw [← hx0] at m0
  have HX0 := hid hx0
  have m1 := I1_at hr 1 (by omega)
  obtain ⟨x1, hx1⟩ : ∃ x, x = l.getD 1 0 := ⟨_, rfl⟩
  rw [← hx1] at m1
  have HX1 := hid hx1
  obtain ⟨xb, hxb⟩ : ∃ xb, xb = w.heap.size + 1 := ⟨_, rfl⟩
  obtain ⟨W, hW⟩ : ∃ W, W = (w.alloc (.cells #[zI, zI, zI, zI, nilS] 49)).alloc (.cells #[.int .i64 3, zI, zI, zI, nilS] 49) := ⟨_, rfl⟩
  have hX : B5 W (xb) (.int .i64 3) zI zI zI nilS := by rw [hW, hxb]; exact two_new w _ _ _
  have hY : B5 W w.heap.size zI zI zI zI nilS := by rw [hW]; exact (heap_alloc_old _ _ (by simp)).trans (heap_alloc_new w _)
  have hB : Below w.heap.size w W := by rw [hW]; exact below_two' w _ _
  have m0 := (hB.cell (p := ⟨g, 0, none⟩) hgl).trans m0
  have m1 := (hB.cell (p := ⟨g, 1, none⟩) hgl).trans m1
  have hn2 : ((2 : Nat) : Int) ≤ (n : Int) := by omega
  have hk0 : (0 : Int) < (n : Int) := by omega
  have hk1 : (1 : Int) < (n : Int) := by omega
  have h0 := hX
  have h1 := B5.set3 h0 (.int .i64 (x0 : Int))
  have h2 := B5.set1 h1 (.int .i64 (x1 : Int))
  have hY2 : B5 ((W.setCell ⟨xb, 3, none⟩ (.int .i64 (x0 : Int))).setCell ⟨xb, 1, none⟩ (.int .i64 (x1 : Int))) w.heap.size zI zI zI zI nilS := ((Below.heap_setCell _ _ _ _ (show w.heap.size ≠ xb by omega)).trans ((Below.heap_setCell _ _ _ _ (show w.heap.size ≠ xb by omega)).trans hY))
  have hBN : Below w.heap.size w ((W.setCell ⟨xb, 3, none⟩ (.int .i64 (x0 : Int))).setCell ⟨xb, 1, none⟩ (.int .i64 (x1 : Int))) := (Below.setCell (Below.setCell hB (p := ⟨xb, 3, none⟩) (by show w.heap.size ≤ xb; omega) _) (p := ⟨xb, 1, none⟩) (by show w.heap.size ≤ xb; omega) _)
  have HYN := hid hY2
  have HBN := hid hBN
  obtain ⟨p00, p01, p02, p03, p04⟩ := five h0
  obtain ⟨f00, f01, f02, f03, f04⟩ := frz5 h0
  obtain ⟨p10, p11, p12, p13, p14⟩ := five h1
  obtain ⟨f10, f11, f12, f13, f14⟩ := frz5 h1
  obtain ⟨p20, p21, p22, p23, p24⟩ := five h2
  obtain ⟨f20, f21, f22, f23, f24⟩ := frz5 h2
  have m1 : (W.setCell ⟨xb, 3, none⟩ (.int .i64 (x0 : Int))).cell? ⟨g, 1, none⟩ = some (.int .i64 (x1 : Int)) := (cell_eq (Below.heap_setCell _ ⟨xb, 3, none⟩ _ _ (show g ≠ xb by omega)) 1).trans m1
  clear hx0
  clear hx1
  obtain ⟨r0, r1, r2, r3, r4⟩ := five hY2
  obtain ⟨s0, s1, s2, s3, s4⟩ := frz5 hY2
  have HW := hid hW
  clear hX hY hB hBN hW hY2 h0 h1 h2 hr hn
  have HXB := hid hxb
  have hlt : w.heap.size < xb := by omega
  clear hxb
  go_enter Tryd.func46, Tryd.ntmps46
  go_upto_region 2 with fail
  rw [← HW.out, ← HXB.out]
  go_wp2
  all_goals
    refine bodyPost_ret (results_cell_row rfl _ _ w.heap.size 49 _ (0, 0) _ rfl (all5 HYN.out _ _ _ _ _) Tryd.underlying49 rfl (by kernel_rfl)) rfl ?_
    refine ⟨below_set5 HBN.out (Nat.le_refl _) _ _ _ _ _, ⟨3, x1, 0, x0, none, 0, 0⟩, rfl, ?_⟩
    exact ⟨rfl, by simp [mkIn, HX1.out], rfl, by simp [mkIn, HX0.out], by simp [mkIn], by simp [mkIn], World.ownsRow_nil _ _ _ _⟩
set_option maxRecDepth 100000 in
set_option maxHeartbeats 4000000 in
theorem inst_4 {w : World} {base c n : Nat} {a : Option Addr} {l : List Nat} (hl : 2 ≤ l.length) (hn : n = l.length) (hr : w.ownsRow base 3 1 (.slice a l.length c) l.length (I1 l)) :
    Calls Tryd.prog 46 #[.int .i64 4, .slice a n c] w fun e w' => Below w.heap.size w w' ∧ ∃ N, e = .returned N.v ∧ IFr w.heap.size w' N (mkIn 4 l) := by
  obtain ⟨g, rfl⟩ : ∃ g, a = some ⟨g, 0, none⟩ := by
    rcases hr.2 with ⟨e, h0⟩ | ⟨g, cap, cur, e, _⟩
    · omega
    · simp only [Value.slice.injEq] at e; exact ⟨g, e.1⟩
  have hgl := (hr.lt g rfl).2
  have HN := hid hn
  have m0 := I1_at hr 0 (by omega)
  obtain ⟨x0, hx0⟩ : ∃ x, x = l.getD 0 0 := ⟨_, rfl⟩
  rw [← hx0] at m0
  have HX0 := hid hx0
  have m1 := I1_at hr 1 (by omega)
  obtain ⟨x1, hx1⟩ : ∃ x, x = l.getD 1 0 := ⟨_, rfl⟩
  rw [← hx1] at m1
  have HX1 := hid hx1
  obtain ⟨xb, hxb⟩ : ∃ xb, xb = w.heap.size + 1 := ⟨_, rfl⟩
  obtain ⟨W, hW⟩ : ∃ W, W = (w.alloc (.cells #[zI, zI, zI, zI, nilS] 49)).alloc (.cells #[.int .i64 4, zI, zI, zI, nilS] 49) := ⟨_, rfl⟩
  have hX : B5 W (xb) (.int .i64 4) zI zI zI nilS := by rw [hW, hxb]; exact two_new w _ _ _
  have hY : B5 W w.heap.size zI zI zI zI nilS := by rw [hW]; exact (heap_alloc_old _ _ (by simp)).trans (heap_alloc_new w _)
  have hB : Below w.heap.size w W := by rw [hW]; exact below_two' w _ _
  have m0 := (hB.cell (p := ⟨g, 0, none⟩) hgl).trans m0
  have m1 := (hB.cell (p := ⟨g, 1, none⟩) hgl).trans m1
  have hn2 : ((2 : Nat) : Int) ≤ (n : Int) := by omega
  have hk0 : (0 : Int) < (n : Int) := by omega
  have hk1 : (1 : Int) < (n : Int) := by omega
  have h0 := hX
  have h1 := B5.set3 h0 (.int .i64 (x0 : Int))
  have h2 := B5.set1 h1 (.int .i64 (x1 : Int))
  have hY2 : B5 ((W.setCell ⟨xb, 3, none⟩ (.int .i64 (x0 : Int))).setCell ⟨xb, 1, none⟩ (.int .i64 (x1 : Int))) w.heap.size zI zI zI zI nilS := ((Below.heap_setCell _ _ _ _ (show w.heap.size ≠ xb by omega)).trans ((Below.heap_setCell _ _ _ _ (show w.heap.size ≠ xb by omega)).trans hY))
  have hBN : Below w.heap.size w ((W.setCell ⟨xb, 3, none⟩ (.int .i64 (x0 : Int))).setCell ⟨xb, 1, none⟩ (.int .i64 (x1 : Int))) := (Below.setCell (Below.setCell hB (p := ⟨xb, 3, none⟩) (by show w.heap.size ≤ xb; omega) _) (p := ⟨xb, 1, none⟩) (by show w.heap.size ≤ xb; omega) _)
  have HYN := hid hY2
  have HBN := hid hBN
  obtain ⟨p00, p01, p02, p03, p04⟩ := five h0
  obtain ⟨f00, f01, f02, f03, f04⟩ := frz5 h0
  obtain ⟨p10, p11, p12, p13, p14⟩ := five h1
  obtain ⟨f10, f11, f12, f13, f14⟩ := frz5 h1
  obtain ⟨p20, p21, p22, p23, p24⟩ := five h2
  obtain ⟨f20, f21, f22, f23, f24⟩ := frz5 h2
  have m1 : (W.setCell ⟨xb, 3, none⟩ (.int .i64 (x0 : Int))).cell? ⟨g, 1, none⟩ = some (.int .i64 (x1 : Int)) := (cell_eq (Below.heap_setCell _ ⟨xb, 3, none⟩ _ _ (show g ≠ xb by omega)) 1).trans m1
  clear hx0
  clear hx1
  obtain ⟨r0, r1, r2, r3, r4⟩ := five hY2
  obtain ⟨s0, s1, s2, s3, s4⟩ := frz5 hY2
  have HW := hid hW
  clear hX hY hB hBN hW hY2 h0 h1 h2 hr hn
  have HXB := hid hxb
  have hlt : w.heap.size < xb := by omega
  clear hxb
  go_enter Tryd.func46, Tryd.ntmps46
  go_upto_region 2 with fail
  rw [← HW.out, ← HXB.out]
  go_wp2
  all_goals
    refine bodyPost_ret (results_cell_row rfl _ _ w.heap.size 49 _ (0, 0) _ rfl (all5 HYN.out _ _ _ _ _) Tryd.underlying49 rfl (by kernel_rfl)) rfl ?_
    refine ⟨below_set5 HBN.out (Nat.le_refl _) _ _ _ _ _, ⟨4, x1, 0, x0, none, 0, 0⟩, rfl, ?_⟩
    exact ⟨rfl, by simp [mkIn, HX1.out], rfl, by simp [mkIn, HX0.out], by simp [mkIn], by simp [mkIn], World.ownsRow_nil _ _ _ _⟩
set_option maxRecDepth 100000 in
set_option maxHeartbeats 4000000 in
theorem inst_5 {w : World} {base c n : Nat} {a : Option Addr} {l : List Nat} (hl : 1 ≤ l.length) (hn : n = l.length) (hr : w.ownsRow base 3 1 (.slice a l.length c) l.length (I1 l)) :
    Calls Tryd.prog 46 #[.int .i64 5, .slice a n c] w fun e w' => Below w.heap.size w w' ∧ ∃ N, e = .returned N.v ∧ IFr w.heap.size w' N (mkIn 5 l) := by
  obtain ⟨g, rfl⟩ : ∃ g, a = some ⟨g, 0, none⟩ := by
    rcases hr.2 with ⟨e, h0⟩ | ⟨g, cap, cur, e, _⟩
    · omega
    · simp only [Value.slice.injEq] at e; exact ⟨g, e.1⟩
  have hgl := (hr.lt g rfl).2
  have HN := hid hn
  have m0 := I1_at hr 0 (by omega)
  obtain ⟨x0, hx0⟩ : ∃ x, x = l.getD 0 0 := ⟨_, rfl⟩
  rw [← hx0] at m0
  have HX0 := hid hx0
  obtain ⟨xb, hxb⟩ : ∃ xb, xb = w.heap.size + 1 := ⟨_, rfl⟩
  obtain ⟨W, hW⟩ : ∃ W, W = (w.alloc (.cells #[zI, zI, zI, zI, nilS] 49)).alloc (.cells #[.int .i64 5, zI, zI, zI, nilS] 49) := ⟨_, rfl⟩
  have hX : B5 W (xb) (.int .i64 5) zI zI zI nilS := by rw [hW, hxb]; exact two_new w _ _ _
  have hY : B5 W w.heap.size zI zI zI zI nilS := by rw [hW]; exact (heap_alloc_old _ _ (by simp)).trans (heap_alloc_new w _)
  have hB : Below w.heap.size w W := by rw [hW]; exact below_two' w _ _
  have m0 := (hB.cell (p := ⟨g, 0, none⟩) hgl).trans m0
  have hn1 : ((1 : Nat) : Int) ≤ (n : Int) := by omega
  have hk0 : (0 : Int) < (n : Int) := by omega
  have h0 := hX
  have h1 := B5.set3 h0 (.int .i64 (x0 : Int))
  have hY1 : B5 (W.setCell ⟨xb, 3, none⟩ (.int .i64 (x0 : Int))) w.heap.size zI zI zI zI nilS := ((Below.heap_setCell _ _ _ _ (show w.heap.size ≠ xb by omega)).trans hY)
  have hBN : Below w.heap.size w (W.setCell ⟨xb, 3, none⟩ (.int .i64 (x0 : Int))) := (Below.setCell hB (p := ⟨xb, 3, none⟩) (by show w.heap.size ≤ xb; omega) _)
  have HYN := hid hY1
  have HBN := hid hBN
  obtain ⟨p00, p01, p02, p03, p04⟩ := five h0
  obtain ⟨f00, f01, f02, f03, f04⟩ := frz5 h0
  obtain ⟨p10, p11, p12, p13, p14⟩ := five h1
  obtain ⟨f10, f11, f12, f13, f14⟩ := frz5 h1
  clear hx0
  obtain ⟨r0, r1, r2, r3, r4⟩ := five hY1
  obtain ⟨s0, s1, s2, s3, s4⟩ := frz5 hY1
  have HW := hid hW
  clear hX hY hB hBN hW hY1 h0 h1 hr hn
  have HXB := hid hxb
  have hlt : w.heap.size < xb := by omega
  clear hxb
  go_enter Tryd.func46, Tryd.ntmps46
  go_upto_region 2 with fail
  rw [← HW.out, ← HXB.out]
  go_wp2
  all_goals
    refine bodyPost_ret (results_cell_row rfl _ _ w.heap.size 49 _ (0, 0) _ rfl (all5 HYN.out _ _ _ _ _) Tryd.underlying49 rfl (by kernel_rfl)) rfl ?_
    refine ⟨below_set5 HBN.out (Nat.le_refl _) _ _ _ _ _, ⟨5, 0, 0, x0, none, 0, 0⟩, rfl, ?_⟩
    exact ⟨rfl, rfl, rfl, by simp [mkIn, HX0.out], by simp [mkIn], by simp [mkIn], World.ownsRow_nil _ _ _ _⟩
set_option maxRecDepth 100000 in
set_option maxHeartbeats 4000000 in
theorem inst_6 {w : World} {base c n : Nat} {a : Option Addr} {l : List Nat} (hl : 0 ≤ l.length) (hn : n = l.length) (hr : w.ownsRow base 3 1 (.slice a l.length c) l.length (I1 l)) :
    Calls Tryd.prog 46 #[.int .i64 6, .slice a n c] w fun e w' => Below w.heap.size w w' ∧ ∃ N, e = .returned N.v ∧ IFr w.heap.size w' N (mkIn 6 l) := by
  obtain ⟨xb, hxb⟩ : ∃ xb, xb = w.heap.size + 1 := ⟨_, rfl⟩
  obtain ⟨W, hW⟩ : ∃ W, W = (w.alloc (.cells #[zI, zI, zI, zI, nilS] 49)).alloc (.cells #[.int .i64 6, zI, zI, zI, nilS] 49) := ⟨_, rfl⟩
  have hX : B5 W (xb) (.int .i64 6) zI zI zI nilS := by rw [hW, hxb]; exact two_new w _ _ _
  have hY : B5 W w.heap.size zI zI zI zI nilS := by rw [hW]; exact (heap_alloc_old _ _ (by simp)).trans (heap_alloc_new w _)
  have hB : Below w.heap.size w W := by rw [hW]; exact below_two' w _ _
  have h0 := hX
  have hY0 : B5 W w.heap.size zI zI zI zI nilS := hY
  have hBN : Below w.heap.size w W := hB
  have HYN := hid hY0
  have HBN := hid hBN
  obtain ⟨p00, p01, p02, p03, p04⟩ := five h0
  obtain ⟨f00, f01, f02, f03, f04⟩ := frz5 h0
  obtain ⟨r0, r1, r2, r3, r4⟩ := five hY0
  obtain ⟨s0, s1, s2, s3, s4⟩ := frz5 hY0
  have HW := hid hW
  clear hX hY hB hBN hW hY0 h0 hr hn
  have HXB := hid hxb
  have hlt : w.heap.size < xb := by omega
  clear hxb
  go_enter Tryd.func46, Tryd.ntmps46
  go_upto_region 2 with fail
  rw [← HW.out, ← HXB.out]
  go_wp2
  all_goals
    refine bodyPost_ret (results_cell_row rfl _ _ w.heap.size 49 _ (0, 0) _ rfl (all5 HYN.out _ _ _ _ _) Tryd.underlying49 rfl (by kernel_rfl)) rfl ?_
    refine ⟨below_set5 HBN.out (Nat.le_refl _) _ _ _ _ _, ⟨6, 0, 0, 0, none, 0, 0⟩, rfl, ?_⟩
    exact ⟨rfl, rfl, rfl, rfl, by simp [mkIn], by simp [mkIn], World.ownsRow_nil _ _ _ _⟩
set_option maxRecDepth 100000 in
set_option maxHeartbeats 4000000 in
theorem inst_7 {w : World} {base c n : Nat} {a : Option Addr} {l : List Nat} (hl : 1 ≤ l.length) (hn : n = l.length) (hr : w.ownsRow base 3 1 (.slice a l.length c) l.length (I1 l)) :
    Calls Tryd.prog 46 #[.int .i64 7, .slice a n c] w fun e w' => Below w.heap.size w w' ∧ ∃ N, e = .returned N.v ∧ IFr w.heap.size w' N (mkIn 7 l) := by
  obtain ⟨g, rfl⟩ : ∃ g, a = some ⟨g, 0, none⟩ := by
    rcases hr.2 with ⟨e, h0⟩ | ⟨g, cap, cur, e, _⟩
    · omega
    · simp only [Value.slice.injEq] at e; exact ⟨g, e.1⟩
  have hgl := (hr.lt g rfl).2
  have HN := hid hn
  have m0 := I1_at hr 0 (by omega)
  obtain ⟨x0, hx0⟩ : ∃ x, x = l.getD 0 0 := ⟨_, rfl⟩
  rw [← hx0] at m0
  have HX0 := hid hx0
  obtain ⟨xb, hxb⟩ : ∃ xb, xb = w.heap.size + 1 := ⟨_, rfl⟩
  obtain ⟨W, hW⟩ : ∃ W, W = (w.alloc (.cells #[zI, zI, zI, zI, nilS] 49)).alloc (.cells #[.int .i64 7, zI, zI, zI, nilS] 49) := ⟨_, rfl⟩
  have hX : B5 W (xb) (.int .i64 7) zI zI zI nilS := by rw [hW, hxb]; exact two_new w _ _ _
  have hY : B5 W w.heap.size zI zI zI zI nilS := by rw [hW]; exact (heap_alloc_old _ _ (by simp)).trans (heap_alloc_new w _)
  have hB : Below w.heap.size w W := by rw [hW]; exact below_two' w _ _
  have m0 := (hB.cell (p := ⟨g, 0, none⟩) hgl).trans m0
  have hn1 : ((1 : Nat) : Int) ≤ (n : Int) := by omega
  have hk0 : (0 : Int) < (n : Int) := by omega
  have h0 := hX
  have h1 := B5.set1 h0 (.int .i64 (x0 : Int))
  have hY1 : B5 (W.setCell ⟨xb, 1, none⟩ (.int .i64 (x0 : Int))) w.heap.size zI zI zI zI nilS := ((Below.heap_setCell _ _ _ _ (show w.heap.size ≠ xb by omega)).trans hY)
  have hBN : Below w.heap.size w (W.setCell ⟨xb, 1, none⟩ (.int .i64 (x0 : Int))) := (Below.setCell hB (p := ⟨xb, 1, none⟩) (by show w.heap.size ≤ xb; omega) _)
  have HYN := hid hY1
  have HBN := hid hBN
  obtain ⟨p00, p01, p02, p03, p04⟩ := five h0
  obtain ⟨f00, f01, f02, f03, f04⟩ := frz5 h0
  obtain ⟨p10, p11, p12, p13, p14⟩ := five h1
  obtain ⟨f10, f11, f12, f13, f14⟩ := frz5 h1
  clear hx0
  obtain ⟨r0, r1, r2, r3, r4⟩ := five hY1
  obtain ⟨s0, s1, s2, s3, s4⟩ := frz5 hY1
  have HW := hid hW
  clear hX hY hB hBN hW hY1 h0 h1 hr hn
  have HXB := hid hxb
  have hlt : w.heap.size < xb := by omega
  clear hxb
  go_enter Tryd.func46, Tryd.ntmps46
  go_upto_region 2 with fail
  rw [← HW.out, ← HXB.out]
  go_wp2
  all_goals
    refine bodyPost_ret (results_cell_row rfl _ _ w.heap.size 49 _ (0, 0) _ rfl (all5 HYN.out _ _ _ _ _) Tryd.underlying49 rfl (by kernel_rfl)) rfl ?_
    refine ⟨below_set5 HBN.out (Nat.le_refl _) _ _ _ _ _, ⟨7, x0, 0, 0, none, 0, 0⟩, rfl, ?_⟩
    exact ⟨rfl, by simp [mkIn, HX0.out], rfl, rfl, by simp [mkIn], by simp [mkIn], World.ownsRow_nil _ _ _ _⟩
end Go.Proofs.YteanndophopplaaDoor
/- HELPERS: the document's reader, whatever it reads; an instruction out of it. -/
namespace Go.Proofs.YteanndophopplaaDoor
open Go.RowKit
set_option linter.unusedVariables false
set_option linter.unusedSimpArgs false
/-- what the next number comes to: nothing is left once the reader has given up -/
def NX {α : Type} (C : Codec α) (m : Option (List α)) (v : Nat) (m' : Option (List α)) : Prop :=
  (m.bind C.get = none ∧ m' = none) ∨ ∃ u, m.bind C.get = some (v, u) ∧ m' = some u
def OX {α : Type} (C : Codec α) (m : Option (List α)) (v : Nat) (m' : Option (List α)) : Prop :=
  (m.bind C.getop = none ∧ v = 0 ∧ m' = m) ∨ ∃ u, m.bind C.getop = some (v, u) ∧ m' = some u
/-- a reader of the document's: S tells what is left -/
structure DRd {α : Type} (C : Codec α) (tx : Bool) (B rb : Nat) (S : World → Option (List α) → Prop) : Prop where
  low : B ≤ rb
  box : ∀ w m, S w m → w.cell? ⟨rb, 3, none⟩ = some (.bool m.isNone) ∧ w.frozen? ⟨rb, 3, none⟩ = false ∧ rb < w.heap.size
  kept : ∀ w w' m, S w m → w'.heap[rb]? = w.heap[rb]? → (∀ b, b < B → w'.heap[b]? = w.heap[b]?) → S w' m
  stop : ∀ w m, S w m → S (w.setCell ⟨rb, 3, none⟩ (.bool true)) none
  small : ∀ w m, S w (some m) → m.length ≤ 8388608
  next : ∀ w m, S w m → Calls Tryd.prog 34 #[pt rb, .bool tx] w fun e w' => ∃ (v : Nat) (m' : Option (List α)), e = .returned (.int .i64 (v : Int)) ∧ v ≤ 1099511627776 ∧ Mo w w' rb ∧ S w' m' ∧ NX C m v m'
  op : ∀ w m, S w m → Calls Tryd.prog 44 #[pt rb, .bool tx] w fun e w' => ∃ (v : Nat) (m' : Option (List α)), e = .returned (.int .i64 (v : Int)) ∧ v ≤ 255 ∧ Mo w w' rb ∧ S w' m' ∧ OX C m v m'
  eats : ∀ m n u, C.get m = some (n, u) → u.length < m.length
  eatsop : ∀ m n u, C.getop m = some (n, u) → u.length < m.length
theorem DRd.mo {α : Type} {C : Codec α} {tx : Bool} {B rb : Nat} {S : World → Option (List α) → Prop} (h : DRd C tx B rb S) {w w' : World} {m : Option (List α)} (hs : S w m) (hb : Below w.heap.size w w') : S w' m :=
  h.kept w w' m hs (hb.block rb (h.box w m hs).2.2) (fun b hb' => hb.block b (by have := (h.box w m hs).2.2; have := h.low; omega))
/-- numbers that were read so far -/
def NumO {α : Type} (C : Codec α) (n : Nat) (l0 : Option (List α)) (j : Nat) (acc : List Nat) (m : Option (List α)) : Prop :=
  (m = none ∧ l0.bind (getNs C n) = none) ∨ ∃ x0 l, l0 = some x0 ∧ m = some l ∧ Nums C n x0 j acc l
theorem NumO.start {α : Type} (C : Codec α) (n : Nat) (m : Option (List α)) : NumO C n m 0 [] m := by
  cases m with
  | none => exact .inl ⟨rfl, rfl⟩
  | some l => exact .inr ⟨l, l, rfl, rfl, Nums.start C n l⟩
theorem NumO.step {α : Type} {C : Codec α} {n j v : Nat} {l0 m m' : Option (List α)} {acc : List Nat} (h : NumO C n l0 j acc m) (hj : j < n) (hx : NX C m v m') : NumO C n l0 (j + 1) (acc ++ [v]) m' := by
  rcases h with ⟨rfl, h⟩ | ⟨x0, l, rfl, rfl, h⟩
  · rcases hx with ⟨_, rfl⟩ | ⟨u, h2, _⟩
    · exact .inl ⟨rfl, h⟩
    · cases h2
  · rcases hx with ⟨h2, rfl⟩ | ⟨u, h2, rfl⟩
    · exact .inl ⟨rfl, h.none hj h2⟩
    · exact .inr ⟨x0, u, rfl, rfl, h.step hj h2⟩
theorem NumO.done {α : Type} {C : Codec α} {n : Nat} {l0 m : Option (List α)} {acc : List Nat} (h : NumO C n l0 n acc m) : l0.bind (getNs C n) = m.map fun l => (acc, l) := by
  rcases h with ⟨rfl, h⟩ | ⟨x0, l, rfl, rfl, h⟩
  · exact h
  · exact h.done
/-- what an instruction comes to -/
def IX {α : Type} (C : Codec α) (m : Option (List α)) (I : In) (m' : Option (List α)) : Prop :=
  (m.bind (getD' C) = none ∧ m' = none) ∨ ∃ u, m.bind (getD' C) = some (I, u) ∧ m' = some u
theorem getD_bind {α : Type} {C : Codec α} {m m1 : Option (List α)} {op : Nat} (h : OX C m op m1) (hop : op < 1 ∨ 7 < op) : m.bind (getD' C) = none := by
  rcases h with ⟨h, rfl, rfl⟩ | ⟨u, h, rfl⟩
  · cases m1 with
    | none => rfl
    | some l => have h' : C.getop l = none := h; show getD' C l = none; unfold getD'; rw [h']
  · cases m with
    | none => cases h
    | some l => have h' : C.getop l = some (op, u) := h; show getD' C l = none; unfold getD'; rw [h']; simp only; rw [if_pos hop]
theorem IX.of {α : Type} {C : Codec α} {m m1 m2 m3 : Option (List α)} {op : Nat} {ns ms : List Nat} (h : OX C m op m1) (h1 : 1 ≤ op) (h7 : op ≤ 7) (h2 : m1.bind (getNs C (manyN op)) = m2.map fun l => (ns, l)) (h3 : m2.bind (getNs C (moreN op ns)) = m3.map fun l => (ms, l)) : IX C m (mkIn op (ns ++ ms)) m3 := by
  rcases h with ⟨h, rfl, rfl⟩ | ⟨u, h, rfl⟩
  · omega
  · cases m with
    | none => cases h
    | some l =>
      have h' : C.getop l = some (op, u) := h
      have e : (some l).bind (getD' C) = m3.map fun l => (mkIn op (ns ++ ms), l) := by
        show getD' C l = _
        unfold getD'
        rw [h']
        simp only
        rw [if_neg (by omega)]
        have h2' : getNs C (manyN op) u = m2.map fun l => (ns, l) := h2
        rw [h2']
        cases m2 with
        | none => cases m3 with
          | none => rfl
          | some x => cases h3
        | some l2 =>
          simp only [Option.map_some]
          have h3' : getNs C (moreN op ns) l2 = m3.map fun l => (ms, l) := h3
          rw [h3']
          cases m3 <;> rfl
      cases m3 with
      | none => exact .inl ⟨e, rfl⟩
      | some x => exact .inr ⟨x, e, rfl⟩
theorem many45 (op : Nat) (w : World) (h1 : 1 ≤ op) (h7 : op ≤ 7) : Calls Tryd.prog 45 #[.int .i64 (op : Int)] w fun e w' => e = .returned (.int .i64 ((manyN op : Nat) : Int)) ∧ w' = w := by
  obtain rfl | rfl | rfl | rfl | rfl | rfl | rfl : op = 1 ∨ op = 2 ∨ op = 3 ∨ op = 4 ∨ op = 5 ∨ op = 6 ∨ op = 7 := by omega
  all_goals
    go_enter Tryd.func45, Tryd.ntmps45
    go_wp2
    all_goals go_ret
    all_goals exact ⟨rfl, rfl⟩
/-- the walk of inst28: the result's box, the reader, what has turned -/
structure IW {α : Type} (S : World → Option (List α) → Prop) (w V : World) (rb : Nat) (m : Option (List α)) (y : Value) (acc : List Nat) : Prop where
  box : B5 V w.heap.size zI zI zI zI nilS
  st : S V m
  row : V.ownsRow (w.heap.size + 1) 3 1 y acc.length (I1 acc)
  mo : Mo w V rb
theorem IW.next {α : Type} {S : World → Option (List α) → Prop} {w V V' : World} {rb : Nat} {m m' : Option (List α)} {y : Value} {acc : List Nat} (h : IW S w V rb m y acc) (hrb : rb < w.heap.size) (hm : Mo V V' rb) (hs : S V' m') : IW S w V' rb m' y acc := by
  have hsz := (Array.getElem?_eq_some_iff.1 h.box).1
  exact ⟨(hm.block _ hsz (by omega)).trans h.box, hs, row_kept h.row (fun b e => hm.block b (h.row.lt b e).2 (by have := (h.row.lt b e).1; omega)), h.mo.trans hm⟩
theorem IW.push {α : Type} {C : Codec α} {tx : Bool} {B : Nat} {S : World → Option (List α) → Prop} {w V V' : World} {rb v : Nat} {m : Option (List α)} {y y' : Value} {acc : List Nat} (hR : DRd C tx B rb S) (h : IW S w V rb m y acc) (hrb : rb < w.heap.size) (hg : GB V V' y y') (ho : V'.ownsRow (w.heap.size + 1) 3 1 y' (acc.length + 1) (I1 acc ++ [.int .i64 (v : Int)])) : IW S w V' rb m y' (acc ++ [v]) := by
  have hsz := (Array.getElem?_eq_some_iff.1 h.box).1
  have hs := h.mo.size
  have hlow := hR.low
  have old : ∀ b, b < w.heap.size + 1 → V'.heap[b]? = V.heap[b]? := fun b hb => hg.block b (by omega) (fun e => by have := (h.row.lt b e).1; omega)
  refine ⟨(old _ (by omega)).trans h.box, hR.kept V V' m h.st (old _ (by omega)) (fun b hb => old b (by omega)), ?_, ?_⟩
  · rw [List.length_append, show I1 (acc ++ [v]) = I1 acc ++ [.int .i64 (v : Int)] by simp [I1]]; exact ho
  · exact ⟨hg.os.trans h.mo.os, hg.tape.trans h.mo.tape, hg.output.trans h.mo.output, Nat.le_trans h.mo.size hg.size, fun k hk hn => (old k (by omega)).trans (h.mo.block k hk hn)⟩
theorem I1_getD (acc : List Nat) (i : Nat) : True := trivial
theorem IW.at1 {α : Type} {S : World → Option (List α) → Prop} {w V : World} {rb : Nat} {m : Option (List α)} {y : Value} {acc : List Nat} (h : IW S w V rb m y acc) (hl : 2 ≤ acc.length) : ∃ g c, y = .slice (some ⟨g, 0, none⟩) acc.length c ∧ V.cell? ⟨g, 1, none⟩ = some (.int .i64 ((acc.getD 1 0 : Nat) : Int)) := by
  rcases h.row.2 with ⟨_, h0⟩ | ⟨g, cap, cur, e, _⟩
  · omega
  · refine ⟨g, cap, e, ?_⟩
    have hr := h.row
    rw [e] at hr
    exact I1_at hr 1 (by omega)
/-- what an instruction's reader answers -/
def I28 {α : Type} (C : Codec α) (S : World → Option (List α) → Prop) (rb : Nat) (m : Option (List α)) (w : World) (e : Ending) (w' : World) : Prop :=
  Mo w w' rb ∧ ∃ N I m', e = .returned N.v ∧ IFr w.heap.size w' N I ∧ S w' m' ∧ IX C m I m'
theorem DRd.set5 {α : Type} {C : Codec α} {tx : Bool} {B rb : Nat} {S : World → Option (List α) → Prop} (hR : DRd C tx B rb S) {w : World} {m : Option (List α)} (h : S w m) {b : Nat} (hb : rb < b) (u0 u1 u2 u3 u4 : Value) : S (((((w.setCell ⟨b, 0, none⟩ u0).setCell ⟨b, 1, none⟩ u1).setCell ⟨b, 2, none⟩ u2).setCell ⟨b, 3, none⟩ u3).setCell ⟨b, 4, none⟩ u4) m := by
  have := hR.low
  exact hR.kept _ _ _ h (set5_old (by omega) _ _ _ _ _) (fun k hk => set5_old (by omega) _ _ _ _ _)
theorem IFr.set5 {B : Nat} {w : World} {N : Iv} {I : In} (h : IFr B w N I) {b : Nat} (hb : b < B) (u0 u1 u2 u3 u4 : Value) : IFr B (((((w.setCell ⟨b, 0, none⟩ u0).setCell ⟨b, 1, none⟩ u1).setCell ⟨b, 2, none⟩ u2).setCell ⟨b, 3, none⟩ u3).setCell ⟨b, 4, none⟩ u4) N I :=
  h.kept (fun k hk _ => set5_old (by omega) _ _ _ _ _)
theorem IFr.wide {B B' : Nat} {w : World} {N : Iv} {I : In} (h : IFr B w N I) (hb : B' ≤ B) : IFr B' w N I := ⟨h.op, h.x, h.y, h.a, h.len, h.sm, own_wide h.rr hb⟩
set_option maxRecDepth 100000 in
set_option maxHeartbeats 4000000 in
theorem inst28_bad {α : Type} {C : Codec α} {tx : Bool} {B rb : Nat} {S : World → Option (List α) → Prop} (hR : DRd C tx B rb S) {w : World} {m m1 : Option (List α)} {v : Nat} (h : S w m) (hv : v < 1 ∨ 7 < v)
    (HC : ∀ W, Below w.heap.size w W → S W m → Calls Tryd.prog 44 #[pt rb, .bool tx] W fun e w' => e = .returned (.int .i64 (v : Int)) ∧ Mo W w' rb ∧ S w' m1) (hO : OX C m v m1) :
    Calls Tryd.prog 28 #[pt rb, .bool tx] w (I28 C S rb m w) := by
  have hrb := (hR.box w m h).2.2
  obtain ⟨W, hW⟩ : ∃ W, W = w.alloc (.cells #[zI, zI, zI, zI, nilS] 49) := ⟨_, rfl⟩
  have hX : B5 W w.heap.size zI zI zI zI nilS := by rw [hW]; exact heap_alloc_new w _
  have hB : Below w.heap.size w W := by rw [hW]; exact Joins.below_alloc1 w _
  have C44 := HC W hB (hR.mo h hB)
  have HX := hid hX
  have HB := hid hB
  have HW := hid hW
  have HR := hid hR
  have HO := hid hO
  have hsz : w.heap.size < W.heap.size := (Array.getElem?_eq_some_iff.1 hX).1
  have b12 : (decide ((v : Int) < 1) = true) ∨ (decide ((v : Int) < 1) = false ∧ ¬ (v : Int) < 1 ∧ decide ((v : Int) > 7) = true ∧ (7 : Int) < (v : Int)) := by
    rcases hv with hv | hv
    · left; simp; omega
    · right; refine ⟨?_, ?_, ?_, ?_⟩ <;> (try simp) <;> omega
  clear hX hB hW hR hO HC h
  rcases b12 with b1 | ⟨b1, b1', b2, b2'⟩
  all_goals
    go_enter Tryd.func28, Tryd.ntmps28
    go_upto_region 1 with fail
    rw [← HW.out]
    go_wp2_with (go_at_call 44; (with_reducible refine C44.mono ?_); rintro e w1 ⟨rfl, hM1, hS1⟩; obtain ⟨k3, f3, hl3⟩ := HR.out.box _ _ hS1; have hX1 : B5 w1 w.heap.size zI zI zI zI nilS := (hM1.block _ hsz (by omega)).trans HX.out; have hS2 := HR.out.stop _ _ hS1; have hX2 : B5 (w1.setCell ⟨rb, 3, none⟩ (.bool true)) w.heap.size zI zI zI zI nilS := (Below.heap_setCell _ ⟨rb, 3, none⟩ _ _ (by show w.heap.size ≠ rb; omega)).trans hX1; obtain ⟨r0, r1, r2, r3, r4⟩ := five hX2; obtain ⟨s0, s1, s2, s3, s4⟩ := frz5 hX2; have HX2 := hid hX2; have HS2 := hid hS2; have HM1 := hid hM1; clear hX1 hX2 hS1 hS2 hM1 C44)
    all_goals
      refine bodyPost_ret (results_cell_row rfl _ _ w.heap.size 49 _ (0, 0) _ rfl (all5 HX2.out _ _ _ _ _) Tryd.underlying49 rfl (by kernel_rfl)) rfl ?_
      have hMo : Mo w (w1.setCell ⟨rb, 3, none⟩ (.bool true)) rb := ((Mo.of_below (g := rb) (Below.trans (Below.refl _ _) HB.out)).trans HM1.out).trans (Mo.set _ _ _ _)
      exact ⟨hMo.set5 (Nat.le_refl _) _ _ _ _ _, ⟨0, 0, 0, 0, none, 0, 0⟩, ⟨0, 0, 0, 0, []⟩, none, rfl, (IFr.bare _ _ _ _ _ _), HR.out.set5 HS2.out hrb _ _ _ _ _, .inl ⟨getD_bind HO.out hv, rfl⟩⟩
end Go.Proofs.YteanndophopplaaDoor
/- HELPERS: the document's instruction that has ranges; an instruction out of a reader. -/
namespace Go.Proofs.YteanndophopplaaDoor
open Go.RowKit
set_option linter.unusedVariables false
set_option linter.unusedSimpArgs false
/-- the walk of inst_1 -/
structure PW (w V : World) (xb : Nat) (x0 : Nat) (l : List Nat) (j : Nat) (ra : Option Addr) (rc : Nat) : Prop where
  x : B5 V xb (.int .i64 1) (.int .i64 (x0 : Int)) zI zI (.slice ra j rc)
  y : B5 V w.heap.size zI zI zI zI nilS
  row : V.ownsRow (xb + 1) 51 2 (.slice ra j rc) j (O2 ((List.range j).map (pairAt l)))
  be : Below w.heap.size w V
theorem wrap_ok (x : Int) (h1 : -9223372036854775808 ≤ x) (h2 : x ≤ 9223372036854775807) : IntKind.i64.wrap x = x := by simp only [IntKind.wrap, IntKind.bits, IntKind.signed]; simp; omega
theorem rmap_succ {α : Type} (f : Nat → α) (i : Nat) : (List.range (i + 1)).map f = (List.range i).map f ++ [f i] := by simp [List.range_succ]
theorem O2_snoc (R : List (Int × Int)) (a b : Int) : O2 (R ++ [(a, b)]) = O2 R ++ [.int .i64 a, .int .i64 b] := by simp [O2]
theorem PW.next {w V V3 : World} {xb x0 : Nat} {l : List Nat} {j : Nat} {ra ra' : Option Addr} {rc rc' : Nat} {o : Obj} (h : PW w V xb x0 l j ra rc) (hx : xb = w.heap.size + 1) {v3 : Value} (hv : v3 = .slice ra' (j + 1) rc')
    (ho : V3.ownsRow (xb + 1) 51 2 v3 (j + 1) (O2 ((List.range j).map (pairAt l)) ++ [.int .i64 (pairAt l j).1, .int .i64 (pairAt l j).2])) (hf : Frm (V.drew.alloc o) V3 (.slice ra j rc) v3) : (∀ b, b < xb + 1 → V3.heap[b]? = V.heap[b]?) ∧ PW w (V3.setCell ⟨xb, 4, none⟩ v3) xb x0 l (j + 1) ra' rc' := by
  subst hv
  have hxl := (Array.getElem?_eq_some_iff.1 h.x).1
  have old : ∀ b, b < xb + 1 → V3.heap[b]? = V.heap[b]? := fun b hb => (hf.block b (by simp; omega) (fun e => by have := (h.row.lt b e).1; omega)).trans (heap_alloc_old V.drew o (by show b < V.heap.size; omega))
  have hsz : V.heap.size ≤ V3.heap.size := by have := hf.size; simp at this; omega
  have hn : (Value.slice ra' (j + 1) rc').ownBlock ≠ some xb := fun e => by have := (ho.lt xb e).1; omega
  refine ⟨old, ⟨B5.set4 ((old _ (by omega)).trans h.x) _, (Below.heap_setCell _ _ _ _ (show w.heap.size ≠ xb by omega)).trans ((old _ (by omega)).trans h.y), ?_, ?_⟩⟩
  · have := own_setCell (a := ⟨xb, 4, none⟩) (u := .slice ra' (j + 1) rc') ho hn
    rw [rmap_succ, show pairAt l j = ((pairAt l j).1, (pairAt l j).2) from rfl, O2_snoc]
    exact this
  · have hB := h.be
    refine Below.setCell ⟨hf.os.trans hB.os, hf.tape.trans hB.tape, hf.output.trans hB.output, Nat.le_trans hB.size hsz, fun k hk => (old k (by omega)).trans (hB.block k hk)⟩ (by show w.heap.size ≤ xb; omega) _
set_option maxRecDepth 100000 in
set_option maxHeartbeats 4000000 in
theorem inst_1 {w : World} {base c n : Nat} {a : Option Addr} {l : List Nat} (hl : 2 ≤ l.length) (hS : l.length ≤ 8388620) (hn : n = l.length) (hr : w.ownsRow base 3 1 (.slice a l.length c) l.length (I1 l)) :
    Calls Tryd.prog 46 #[.int .i64 1, .slice a n c] w fun e w' => Below w.heap.size w w' ∧ ∃ N, e = .returned N.v ∧ IFr w.heap.size w' N (mkIn 1 l) := by
  obtain ⟨i2, hi2, hz20, hz21, hz22⟩ := info_parts info49
  obtain ⟨g, rfl⟩ : ∃ g, a = some ⟨g, 0, none⟩ := by
    rcases hr.2 with ⟨e, h0⟩ | ⟨g, cap, cur, e, _⟩
    · omega
    · simp only [Value.slice.injEq] at e; exact ⟨g, e.1⟩
  have hgl := (hr.lt g rfl).2
  have hat := fun i (hi : i < l.length) => I1_at hr i hi
  have m0 := hat 0 (by omega)
  obtain ⟨x0, hx0⟩ : ∃ x, x = l.getD 0 0 := ⟨_, rfl⟩
  rw [← hx0] at m0
  have HX0 := hid hx0
  have HN := hid hn
  obtain ⟨xb, hxb⟩ : ∃ xb, xb = w.heap.size + 1 := ⟨_, rfl⟩
  obtain ⟨W, hW⟩ : ∃ W, W = (w.alloc (.cells #[zI, zI, zI, zI, nilS] 49)).alloc (.cells #[.int .i64 1, zI, zI, zI, nilS] 49) := ⟨_, rfl⟩
  have hX : B5 W xb (.int .i64 1) zI zI zI nilS := by rw [hW, hxb]; exact two_new w _ _ _
  have hY : B5 W w.heap.size zI zI zI zI nilS := by rw [hW]; exact (heap_alloc_old _ _ (by simp)).trans (heap_alloc_new w _)
  have hB : Below w.heap.size w W := by rw [hW]; exact below_two' w _ _
  have m0 := (hB.cell (p := ⟨g, 0, none⟩) hgl).trans m0
  have hk0 : (0 : Int) < (n : Int) := by omega
  have h1 := B5.set1 hX (.int .i64 (x0 : Int))
  have hPW : PW w (W.setCell ⟨xb, 1, none⟩ (.int .i64 (x0 : Int))) xb x0 l 0 none 0 := ⟨h1, (Below.heap_setCell _ _ _ _ (show w.heap.size ≠ xb by omega)).trans hY, World.ownsRow_nil _ _ _ _, Below.setCell hB (by show w.heap.size ≤ xb; omega) _⟩
  obtain ⟨p00, p01, p02, p03, p04⟩ := five hX
  obtain ⟨f00, f01, f02, f03, f04⟩ := frz5 hX
  have HW := hid hW
  have HPW := hid hPW
  have HAT := hid hat
  have HXB := hid hxb
  have hlt : w.heap.size < xb := by omega
  have hn2 : n ≤ 8388620 := by omega
  have hn3 : 2 ≤ n := by omega
  clear hX hY hB hW h1 hPW hr hn hx0 hat hxb
  go_enter Tryd.func46, Tryd.ntmps46
  go_upto_region 2 with fail
  rw [← HW.out, ← HXB.out]
  go_wp2_with fail
  go_loopw [6] (fun y wq => ∃ (i j : Nat) (ra : Option Addr) (rc : Nat), y = .int .i64 (i : Int) ∧ Hid (i = 2 + 2 * j) ∧ i ≤ n ∧ Hid (PW w wq xb x0 l j ra rc)) (fun y _ => n - (intOf y).toNat)
  case atStart => exact ⟨2, 0, none, 0, rfl, rfl, by omega, HPW.out⟩
  case round =>
    clear HPW HW p00 p01 p02 p03 p04 f00 f01 f02 f03 f04 m0
    obtain ⟨i, j, ra, rc, rfl, HI, hi, HP⟩ := hrel
    have a1 : IntKind.i64.wrap ((i : Int) + 1) = (i : Int) + 1 := wrap_ok _ (by omega) (by omega)
    have a2 : IntKind.i64.wrap ((i : Int) + 2) = (i : Int) + 2 := wrap_ok _ (by omega) (by omega)
    obtain ⟨p0, p1, p2, p3, p4⟩ := five HP.out.x
    obtain ⟨f0, f1, f2, f3, f4⟩ := frz5 HP.out.x
    have hxl : xb < wr.heap.size := (Array.getElem?_eq_some_iff.1 HP.out.x).1
    by_cases hil : i + 1 < n
    · have b1 : decide ((i : Int) + 1 < (n : Int)) = true := by simp; omega
      have b2 : (i : Int) + 1 < (n : Int) := by omega
      have b3 : (i : Int) < (n : Int) := by omega
      have b4 : (0 : Int) ≤ (i : Int) + 1 := by omega
      obtain ⟨lo, hlo⟩ : ∃ lo, lo = l.getD i 0 := ⟨_, rfl⟩
      obtain ⟨hi', hhi⟩ : ∃ hi, hi = l.getD (i + 1) 0 := ⟨_, rfl⟩
      have k0 : wr.cell? ⟨g, i, none⟩ = some (.int .i64 (lo : Int)) := by rw [hlo]; exact (HP.out.be.cell (p := ⟨g, i, none⟩) hgl).trans (HAT.out i (by rw [← HN.out]; omega))
      have k1 : wr.cell? ⟨g, i + 1, none⟩ = some (.int .i64 (hi' : Int)) := by rw [hhi]; exact (HP.out.be.cell (p := ⟨g, i + 1, none⟩) hgl).trans (HAT.out (i + 1) (by rw [← HN.out]; omega))
      have HPA : Hid (pairAt l j = ((lo : Int), (hi' : Int))) := by
        show _ = _
        unfold pairAt
        rw [← HI.out, ← hlo, ← hhi]
      have hjn : j ≤ 8388620 := by have := HI.out; omega
      have hgx : g < wr.heap.size := by have := HP.out.be.size; omega
      clear hlo hhi
      go_upto_region 8 with fail
      refine wp_region_lex 12 15 (fun W => W.cell? ⟨xb, 4, none⟩ = some (.slice ra j rc) ∧ W.cell? ⟨g, i, none⟩ = some (.int .i64 (lo : Int)) ∧ W.cell? ⟨g, i + 1, none⟩ = some (.int .i64 (hi' : Int))) (by kernel_rfl) (by kernel_rfl) (by decide) (by kernel_rfl) (by kernel_rfl) ⟨by simpa using p4, by simpa using k0, by simpa using k1⟩ ?_
      simp only [List.take_succ_cons, List.take_zero, List.drop_succ_cons, List.drop_zero]
      iterate 12
        refine lex_cons ?_ rfl (fun W hW => ?_) (fun _ _ _ h => h) ?_
        rotate_left
        · obtain ⟨s0, s1, s2⟩ := hW
          go_simp <;> with_reducible rfl
        simp only [Act.put, List.setIfInBounds_toArray, List.set_cons_zero, List.set_cons_succ]
      have HO6 : Hid ((wr.drew.alloc (.cells #[.int .i64 (lo : Int), .int .i64 (hi' : Int)] 51)).ownsRow (xb + 1) 51 2 (.slice ra j rc) j (O2 ((List.range j).map (pairAt l)))) := (HP.out.row.drew).alloc _
      refine lex_nil (tail_cons fun K hK => ?_)
      go_simp
      refine hK.out _ _ (fun _ => ⟨by simp [p4, hxl, World.cell?_alloc_lt], by simp [k0, hgx, World.cell?_alloc_lt], by simp [k1, hgx, World.cell?_alloc_lt]⟩) (tail_cons fun K hK => ?_)
      refine step_append_row rfl (.tmp 24) (.tmp 35) 47 rfl (xb + 1) 51 i2 (.agg #[.int .i64 0, .int .i64 0]) 2 16 Tryd.underlying47 hi2 hz20 hz21 hz22 rfl (by decide) (.slice ra j rc) j (O2 ((List.range j).map (pairAt l))) (by simp [Act.eval, Act.put]) (by exact HO6.out) wr.heap.size 1 1 #[.int .i64 (lo : Int), .int .i64 (hi' : Int)] 51 (by simp [Act.eval, Act.put]) (by exact heap_alloc_new wr.drew _) rfl (by decide) (by simp [Value.oneCell']) (by unfold maxLen; omega) (by omega) (by (try simp) <;> omega) ?_
      intro v3 w3 ho3 hf3
      obtain ⟨y1, y3, hv3, _⟩ := row_shape ho3.out
      obtain ⟨e1, hP2⟩ := HP.out.next HXB.out hv3 (by rw [HPA.out]; exact ho3.out) hf3.out
      subst hv3
      have q4 := (cell_eq (e1 xb (by omega)) 4).trans p4
      have t0 := (cell_eq (e1 g (by omega)) i).trans k0
      have t1 := (cell_eq (e1 g (by omega)) (i + 1)).trans k1
      have z4 := (frz_eq (e1 xb (by omega)) 4).trans f4
      have HP2 := hid hP2
      clear e1 hP2 ho3 hf3 HO6
      refine hK.out _ _ (fun _ => ⟨q4, t0, t1⟩) (tail_cons fun K hK => ?_)
      simp only [Act.put, List.setIfInBounds_toArray, List.set_cons_zero, List.set_cons_succ]
      go_simp
      refine hK.out _ _ (fun _ => ⟨q4, t0, t1⟩) (tail_cons fun K hK => ?_)
      simp only [Act.put, List.setIfInBounds_toArray, List.set_cons_zero, List.set_cons_succ]
      go_simp
      refine hK.out _ _ (fun h => absurd rfl h) (tail_nil ?_)
      go_wp2_with fail
      exact ⟨⟨i + 2, j + 1, y1, y3, by push_cast; rfl, hid (by have := HI.out; omega), by omega, HP2.out⟩, by simp [intOf]; omega⟩
    · have b1 : decide ((i : Int) + 1 < (n : Int)) = false := by simp; omega
      have b2 : ¬ ((i : Int) + 1 < (n : Int)) := by omega
      obtain ⟨r0, r1, r2, r3, r4⟩ := five HP.out.y
      obtain ⟨s0, s1, s2, s3, s4⟩ := frz5 HP.out.y
      have hj : j = (l.length - 2) / 2 := by have := HI.out; have := HN.out; omega
      have HJ := hid hj
      clear hj
      go_wp2
      all_goals
        refine bodyPost_ret (results_cell_row rfl _ _ w.heap.size 49 _ (0, 0) _ rfl (all5 HP.out.y _ _ _ _ _) Tryd.underlying49 rfl (by kernel_rfl)) rfl ?_
        refine ⟨below_set5 HP.out.be (Nat.le_refl _) _ _ _ _ _, ⟨1, x0, 0, 0, ra, j, rc⟩, rfl, ?_⟩
        have eR : (mkIn 1 l).R = (List.range j).map (pairAt l) := by rw [HJ.out]; exact pairs_drop l
        have eL : (mkIn 1 l).R.length = j := by rw [eR]; simp
        have hIF : IFr w.heap.size wr ⟨1, x0, 0, 0, ra, j, rc⟩ (mkIn 1 l) := ⟨rfl, by simp [mkIn, HX0.out], rfl, rfl, by rw [eL], by rw [eL, HJ.out]; omega, by rw [eL, eR]; exact own_wide HP.out.row (by have := HXB.out; omega)⟩
        exact ⟨hIF.op, hIF.x, hIF.y, hIF.a, hIF.len, hIF.sm, by have hr := own_wide (base := xb + 1) HP.out.row (Nat.le_refl _); rw [eL, eR]; exact own_wide (row_kept hr (fun b hb => set5_old (by have := (hr.lt b hb).1; omega) _ _ _ _ _)) (by have := HXB.out; omega)⟩
theorem inst46 {w : World} {base c n op : Nat} {a : Option Addr} {l : List Nat} (h1 : 1 ≤ op) (h7 : op ≤ 7) (hl : manyN op ≤ l.length) (hS : l.length ≤ 8388620) (hn : n = l.length) (hr : w.ownsRow base 3 1 (.slice a l.length c) l.length (I1 l)) :
    Calls Tryd.prog 46 #[.int .i64 (op : Int), .slice a n c] w fun e w' => Below w.heap.size w w' ∧ ∃ N, e = .returned N.v ∧ IFr w.heap.size w' N (mkIn op l) := by
  obtain rfl | rfl | rfl | rfl | rfl | rfl | rfl : op = 1 ∨ op = 2 ∨ op = 3 ∨ op = 4 ∨ op = 5 ∨ op = 6 ∨ op = 7 := by omega
  · exact inst_1 hl hS hn hr
  · exact inst_2 hl hn hr
  · exact inst_3 hl hn hr
  · exact inst_4 hl hn hr
  · exact inst_5 hl hn hr
  · exact inst_6 hl hn hr
  · exact inst_7 hl hn hr
end Go.Proofs.YteanndophopplaaDoor
namespace Go.Proofs.YteanndophopplaaDoor
open Go.RowKit
set_option linter.unusedVariables false
set_option linter.unusedSimpArgs false
theorem IW.mk' {α : Type} {C : Codec α} {tx : Bool} {B rb : Nat} {S : World → Option (List α) → Prop} (hR : DRd C tx B rb S) {w V : World} {m : Option (List α)} (hrb : rb < w.heap.size) (hX : B5 V w.heap.size zI zI zI zI nilS) (hs : S V m) (hm : Mo w V rb) : IW S w V rb m nilS [] := ⟨hX, hs, World.ownsRow_nil _ _ _ _, hm⟩
theorem NumO_len {α : Type} {C : Codec α} {tx : Bool} {B rb : Nat} {S : World → Option (List α) → Prop} (hR : DRd C tx B rb S) {m m' : Option (List α)} {v : Nat} (h : NX C m v m') : m = none ∧ m' = none ∨ (∃ l, m = some l ∧ (m' = none ∨ ∃ u, m' = some u ∧ u.length < l.length)) := by
  cases m with
  | none =>
    rcases h with ⟨_, rfl⟩ | ⟨u, h2, _⟩
    · exact .inl ⟨rfl, rfl⟩
    · cases h2
  | some l =>
    rcases h with ⟨_, rfl⟩ | ⟨u, h2, rfl⟩
    · exact .inr ⟨l, rfl, .inl rfl⟩
    · exact .inr ⟨l, rfl, .inr ⟨u, rfl, hR.eats l v u h2⟩⟩
/-- how many numbers may still come -/
def rest {α : Type} (m : Option (List α)) : Nat := match m with | none => 0 | some l => l.length + 1
theorem rest_step {α : Type} {C : Codec α} {tx : Bool} {B rb : Nat} {S : World → Option (List α) → Prop} (hR : DRd C tx B rb S) {l : List α} {m' : Option (List α)} {v : Nat} (h : NX C (some l) v m') : rest m' + 1 ≤ rest (some l) := by
  rcases NumO_len hR h with ⟨h, _⟩ | ⟨l', h1, h2⟩
  · cases h
  · cases h1
    rcases h2 with rfl | ⟨u, rfl, h3⟩
    · simp [rest]
    · simp [rest]; omega
theorem NumO.none_any {α : Type} {C : Codec α} {n : Nat} {l0 : Option (List α)} {j : Nat} {acc : List Nat} (h : NumO C n l0 j acc none) : l0.bind (getNs C n) = none := by
  rcases h with ⟨_, h⟩ | ⟨_, _, _, h, _⟩
  · exact h
  · cases h
set_option maxRecDepth 100000 in
set_option maxHeartbeats 4000000 in
theorem inst28_ok {α : Type} {C : Codec α} {tx : Bool} {B rb : Nat} {S : World → Option (List α) → Prop} (hR : DRd C tx B rb S) {w : World} {m m1 : Option (List α)} {v : Nat} (h : S w m) (hv1 : 1 ≤ v) (hv7 : v ≤ 7)
    (HC : ∀ W, Below w.heap.size w W → S W m → Calls Tryd.prog 44 #[pt rb, .bool tx] W fun e w' => e = .returned (.int .i64 (v : Int)) ∧ Mo W w' rb ∧ S w' m1) (hO : OX C m v m1) :
    Calls Tryd.prog 28 #[pt rb, .bool tx] w (I28 C S rb m w) := by
  have hrb := (hR.box w m h).2.2
  obtain ⟨W, hW⟩ : ∃ W, W = w.alloc (.cells #[zI, zI, zI, zI, nilS] 49) := ⟨_, rfl⟩
  have hX : B5 W w.heap.size zI zI zI zI nilS := by rw [hW]; exact heap_alloc_new w _
  have hB : Below w.heap.size w W := by rw [hW]; exact Joins.below_alloc1 w _
  have C44 := HC W hB (hR.mo h hB)
  have HX := hid hX
  have HB := hid hB
  have HW := hid hW
  have HR := hid hR
  have HO := hid hO
  have hsz : w.heap.size < W.heap.size := (Array.getElem?_eq_some_iff.1 hX).1
  have b1 : decide ((v : Int) < 1) = false := by simp; omega
  have b1' : ¬ (v : Int) < 1 := by omega
  have b2 : decide ((v : Int) > 7) = false := by simp; omega
  have b2' : ¬ (7 : Int) < (v : Int) := by omega
  have C45 := fun W => many45 v W hv1 hv7
  have hmn : manyN v ≤ 2 := by unfold manyN; split <;> (try split) <;> omega
  have HMN1 : Hid (v = 1 → manyN v = 2) := fun e => by subst e; rfl
  obtain ⟨k, hk⟩ : ∃ k, k = manyN v := ⟨_, rfl⟩
  rw [← hk] at C45 hmn HMN1
  have HK := hid hk
  clear hX hB hW hR hO HC h hk
  go_enter Tryd.func28, Tryd.ntmps28
  go_upto_region 1 with fail
  rw [← HW.out]
  go_upto_region 7 with (first | (go_at_call 44; (with_reducible refine C44.mono ?_); rintro e w1 ⟨rfl, hM1, hS1⟩; have hX1 : B5 w1 w.heap.size zI zI zI zI nilS := (hM1.block _ hsz (by omega)).trans HX.out; have HIW := hid (IW.mk' HR.out hrb hX1 hS1 ((Mo.of_below (g := rb) HB.out).trans hM1)); clear hX1 hS1 hM1 C44) | (go_at_call 45; (with_reducible refine (C45 _).mono ?_); rintro e w2 ⟨rfl, rfl⟩))
  clear HX HB HW hsz b1 b1' b2 b2' C45
  go_wp2_with fail
  go_loopw [6, 8] (fun y z wq => ∃ (j : Nat) (acc : List Nat) (mq : Option (List α)), z = .int .i64 (j : Int) ∧ j ≤ k ∧ Hid (acc.length = j) ∧ Hid (∀ x ∈ acc, x ≤ 1099511627776) ∧ Hid (IW S w wq rb mq y acc) ∧ Hid (NumO C k m1 j acc mq)) (fun _ z _ => k - (intOf z).toNat)
  case atStart => exact ⟨0, [], m1, rfl, by omega, rfl, (fun x hx => by simp at hx), HIW.out, NumO.start C k m1⟩
  case round =>
    clear HIW
    obtain ⟨j, acc, mq, rfl, hj, HAL, HBD, HI, HN⟩ := hrel
    by_cases hjk : j < k
    · have b3 : decide ((j : Int) < (k : Int)) = true := by simp; omega
      have b4 : (j : Int) < (k : Int) := by omega
      have C34 := HR.out.next _ _ HI.out.st
      go_upto_region 11 with (go_at_call 34; (with_reducible refine C34.mono ?_); rintro e w3 ⟨x, mq', rfl, hx, hM3, hS3, hX3⟩; have HXB := hid hx; clear hx; have HI3 := hid (HI.out.next hrb hM3 hS3); have HN3 := hid (HN.out.step hjk hX3); clear hM3 hS3 hX3 C34)
      have hbw : w.heap.size + 1 ≤ w3.heap.size := (Array.getElem?_eq_some_iff.1 HI3.out.box).1
      have hal := HAL.out
      have HO6 := hid HI3.out.row
      obtain ⟨an, han⟩ : ∃ an, an = acc.length := ⟨_, rfl⟩
      rw [← han] at HO6 hal
      have HAN := hid han
      clear han
      go_wp2_with (at_builtin; refine wpList_append_one rfl (.tmp 35) (.tmp 37) 71 rfl (w.heap.size + 1) 3 (.int .i64 0) 8 Tryd.underlying71 info3 rfl _ (.int .i64 (x : Int)) an 1 (I1 acc) rfl HO6.out _ rfl rfl rfl (by unfold maxLen; omega) (by omega) hbw ?_; intro v' w4 ho4 hm4; have HI4 := hid (HI3.out.push (v := x) HR.out hrb (GB.of_moved hm4.out) (by rw [← HAN.out]; exact ho4.out)); clear ho4 hm4)
      exact ⟨⟨j + 1, acc ++ [x], mq', by push_cast; rfl, by omega, hid (by show _ = _; rw [List.length_append, HAL.out]; rfl), (fun y hy => by rcases List.mem_append.1 hy with h | h; exact HBD.out y h; simp at h; rw [h]; exact HXB.out), HI4.out, HN3.out⟩, by simp [intOf]; omega⟩
    · have b3 : decide ((j : Int) < (k : Int)) = false := by simp; omega
      have b4 : ¬ (j : Int) < (k : Int) := by omega
      obtain rfl : j = k := by omega
      by_cases hv : v = 1
      · subst hv
        have hk2 : j = 2 := HMN1.out rfl
        have hal2 : acc.length = 2 := by rw [HAL.out, hk2]
        obtain ⟨c, hc⟩ : ∃ c, c = acc.getD 1 0 := ⟨_, rfl⟩
        have hcb : c ≤ 1099511627776 := by
          rw [hc, List.getD_eq_getElem?_getD, List.getElem?_eq_getElem (by omega)]
          exact HBD.out _ (List.getElem_mem _)
        have HCE := hid hc
        have HAL2 := hid hal2
        have w2 : IntKind.i64.wrap (2 * (c : Int)) = 2 * (c : Int) := wrap_ok _ (by omega) (by omega)
        have hrs : rest mq ≤ 8388609 := by
          cases mq with
          | none => simp [rest]
          | some l => have := HR.out.small _ _ HI.out.st; simp [rest]; omega
        have HRS := hid hrs
        have HI0 := hid (show IW S w wr rb mq _ (acc ++ []) by rw [List.append_nil]; exact HI.out)
        clear hc hal2 hk2 hrs HI b3 b4
        go_wp2_with fail
        go_loopw [6, 10] (fun y z wq => ∃ (i : Nat) (ms : List Nat) (mp : Option (List α)), z = .int .i64 (i : Int) ∧ i ≤ 2 * c ∧ Hid (ms.length = i) ∧ Hid (i + rest mp ≤ 8388609) ∧ Hid (IW S w wq rb mp y (acc ++ ms)) ∧ Hid (NumO C (2 * c) mq i ms mp)) (fun _ z _ => 2 * c - (intOf z).toNat)
        case atStart => exact ⟨0, [], mq, rfl, by omega, rfl, by have := HRS.out; show 0 + _ ≤ _; omega, HI0.out, NumO.start C (2 * c) mq⟩
        case round =>
          clear HI0 HRS
          obtain ⟨i, ms, mp, rfl, hi, HML, HRP, HI, HM⟩ := hrel
          obtain ⟨g, yc, hy, k1⟩ := HI.out.at1 (by rw [List.length_append, HAL2.out]; omega)
          have e1 : (acc ++ ms).getD 1 0 = c := by
            rw [HCE.out, List.getD_eq_getElem?_getD, List.getElem?_append_left (by rw [HAL2.out]; omega), List.getD_eq_getElem?_getD]
          rw [e1] at k1
          obtain ⟨an, han⟩ : ∃ an, an = (acc ++ ms).length := ⟨_, rfl⟩
          have hanb : an = 2 + i := by rw [han, List.length_append, HAL2.out, HML.out]
          have hab : an ≤ 8388620 := by have := HRP.out; omega
          have ha2 : (1 : Int) < (an : Int) := by omega
          have ha3 : 0 < an := by omega
          rw [← han] at hy
          have HAN := hid han
          subst hy
          obtain ⟨k3, f3, hl3⟩ := HR.out.box _ _ HI.out.st
          have hrow := HI.out.row
          rw [← han] at hrow
          have HO5 := hid hrow
          clear e1 han hanb hrow
          cases mp with
          | some l' =>
            have k3' : wr.cell? ⟨rb, 3, none⟩ = some (.bool false) := k3
            clear k3
            by_cases hic : i < 2 * c
            · have b3 : decide ((i : Int) < 2 * (c : Int)) = true := by simp; omega
              have b4 : (i : Int) < 2 * (c : Int) := by omega
              have C34 := HR.out.next _ _ HI.out.st
              have HRP2 := HRP
              go_upto_region 17 with (go_at_call 34; (with_reducible refine C34.mono ?_); rintro e w3 ⟨x, mq', rfl, hx, hM3, hS3, hX3⟩; have HRP3 := hid (rest_step HR.out hX3); have HI3 := hid (HI.out.next hrb hM3 hS3); have HN3 := hid (HM.out.step hic hX3); clear hx hM3 hS3 hX3 C34)
              have hbw : w.heap.size + 1 ≤ w3.heap.size := (Array.getElem?_eq_some_iff.1 HI3.out.box).1
              have hrow := HI3.out.row
              rw [← HAN.out] at hrow
              have HO6 := hid hrow
              clear hrow
              go_wp2_with (at_builtin; refine wpList_append_one rfl (.tmp 59) (.tmp 61) 71 rfl (w.heap.size + 1) 3 (.int .i64 0) 8 Tryd.underlying71 info3 rfl _ (.int .i64 (x : Int)) an 1 (I1 (acc ++ ms)) rfl HO6.out _ rfl rfl rfl (by unfold maxLen; omega) (by omega) hbw ?_; intro v' w4 ho4 hm4; have HI4 := hid (HI3.out.push (v := x) HR.out hrb (GB.of_moved hm4.out) (by rw [← HAN.out]; exact ho4.out)); clear ho4 hm4)
              exact ⟨⟨i + 1, ms ++ [x], mq', by push_cast; rfl, by omega, hid (by show _ = _; rw [List.length_append, HML.out]; rfl), hid (by have := HRP2.out; have := HRP3.out; omega), by rw [← List.append_assoc]; exact HI4.out, HN3.out⟩, by simp [intOf]; omega⟩
            · have b3 : decide ((i : Int) < 2 * (c : Int)) = false := by simp; omega
              have b4 : ¬ ((i : Int) < 2 * (c : Int)) := by omega
              obtain rfl : i = 2 * c := by omega
              have C46 := inst46 (op := 1) (n := an) (c := yc) (a := some ⟨g, 0, none⟩) (l := acc ++ ms) (base := w.heap.size + 1) hv1 hv7 (by rw [List.length_append, HAL2.out]; show 2 ≤ _; omega) (by rw [← HAN.out]; exact hab) HAN.out (by rw [← HAN.out]; exact HO5.out)
              have HIX : Hid (IX C m (mkIn 1 (acc ++ ms)) (some l')) := by
                have h2 := HN.out.done
                rw [HK.out] at h2
                exact IX.of HO.out hv1 hv7 h2 (by have h3 := HM.out.done; rw [HCE.out] at h3; exact h3)
              go_wp2_with (go_at_call 46; (refine C46.mono ?_); rintro e w5 ⟨hb5, N, rfl, hI5⟩; have hX5 : B5 w5 w.heap.size zI zI zI zI nilS := (hb5.block _ (Array.getElem?_eq_some_iff.1 HI.out.box).1).trans HI.out.box; have hS5 := HR.out.mo HI.out.st hb5; have HM5 := hid (HI.out.mo.trans (Mo.of_below (g := rb) hb5)); obtain ⟨r0, r1, r2, r3, r4⟩ := five hX5; obtain ⟨s0, s1, s2, s3, s4⟩ := frz5 hX5; have HX5 := hid hX5; have HS5 := hid hS5; have HI5 := hid hI5; obtain ⟨n0, n1, n2, n3, n4, n5, n6⟩ := N; clear hX5 hS5 hI5 hb5 C46)
              all_goals
                refine bodyPost_ret (results_cell_row rfl _ _ w.heap.size 49 _ (0, 0) _ rfl (all5 HX5.out _ _ _ _ _) Tryd.underlying49 rfl (by kernel_rfl)) rfl ?_
                exact ⟨HM5.out.set5 (Nat.le_refl _) _ _ _ _ _, _, _, _, rfl, ((HI5.out.set5 (by have := (Array.getElem?_eq_some_iff.1 HI.out.box).1; omega) _ _ _ _ _).wide (by have := HI.out.mo.size; omega)), HR.out.set5 HS5.out hrb _ _ _ _ _, HIX.out⟩
          | none =>
            have k3' : wr.cell? ⟨rb, 3, none⟩ = some (.bool true) := k3
            clear k3
            have C46 := inst46 (op := 1) (n := an) (c := yc) (a := some ⟨g, 0, none⟩) (l := acc ++ ms) (base := w.heap.size + 1) hv1 hv7 (by rw [List.length_append, HAL2.out]; show 2 ≤ _; omega) (by rw [← HAN.out]; exact hab) HAN.out (by rw [← HAN.out]; exact HO5.out)
            have HIX : Hid (IX C m (mkIn 1 (acc ++ ms)) none) := by
              have h2 := HN.out.done
              rw [HK.out] at h2
              exact IX.of (ms := ms) HO.out hv1 hv7 h2 (by have h3 := HM.out.none_any; rw [HCE.out] at h3; exact h3.trans rfl)
            by_cases hic : i < 2 * c
            · have b3 : decide ((i : Int) < 2 * (c : Int)) = true := by simp; omega
              have b4 : (i : Int) < 2 * (c : Int) := by omega
              go_wp2_with (go_at_call 46; (refine C46.mono ?_); rintro e w5 ⟨hb5, N, rfl, hI5⟩; have hX5 : B5 w5 w.heap.size zI zI zI zI nilS := (hb5.block _ (Array.getElem?_eq_some_iff.1 HI.out.box).1).trans HI.out.box; have hS5 := HR.out.mo HI.out.st hb5; have HM5 := hid (HI.out.mo.trans (Mo.of_below (g := rb) hb5)); obtain ⟨r0, r1, r2, r3, r4⟩ := five hX5; obtain ⟨s0, s1, s2, s3, s4⟩ := frz5 hX5; have HX5 := hid hX5; have HS5 := hid hS5; have HI5 := hid hI5; obtain ⟨n0, n1, n2, n3, n4, n5, n6⟩ := N; clear hX5 hS5 hI5 hb5 C46)
              all_goals
                refine bodyPost_ret (results_cell_row rfl _ _ w.heap.size 49 _ (0, 0) _ rfl (all5 HX5.out _ _ _ _ _) Tryd.underlying49 rfl (by kernel_rfl)) rfl ?_
                exact ⟨HM5.out.set5 (Nat.le_refl _) _ _ _ _ _, _, _, _, rfl, ((HI5.out.set5 (by have := (Array.getElem?_eq_some_iff.1 HI.out.box).1; omega) _ _ _ _ _).wide (by have := HI.out.mo.size; omega)), HR.out.set5 HS5.out hrb _ _ _ _ _, HIX.out⟩
            · have b3 : decide ((i : Int) < 2 * (c : Int)) = false := by simp; omega
              have b4 : ¬ ((i : Int) < 2 * (c : Int)) := by omega
              go_wp2_with (go_at_call 46; (refine C46.mono ?_); rintro e w5 ⟨hb5, N, rfl, hI5⟩; have hX5 : B5 w5 w.heap.size zI zI zI zI nilS := (hb5.block _ (Array.getElem?_eq_some_iff.1 HI.out.box).1).trans HI.out.box; have hS5 := HR.out.mo HI.out.st hb5; have HM5 := hid (HI.out.mo.trans (Mo.of_below (g := rb) hb5)); obtain ⟨r0, r1, r2, r3, r4⟩ := five hX5; obtain ⟨s0, s1, s2, s3, s4⟩ := frz5 hX5; have HX5 := hid hX5; have HS5 := hid hS5; have HI5 := hid hI5; obtain ⟨n0, n1, n2, n3, n4, n5, n6⟩ := N; clear hX5 hS5 hI5 hb5 C46)
              all_goals
                refine bodyPost_ret (results_cell_row rfl _ _ w.heap.size 49 _ (0, 0) _ rfl (all5 HX5.out _ _ _ _ _) Tryd.underlying49 rfl (by kernel_rfl)) rfl ?_
                exact ⟨HM5.out.set5 (Nat.le_refl _) _ _ _ _ _, _, _, _, rfl, ((HI5.out.set5 (by have := (Array.getElem?_eq_some_iff.1 HI.out.box).1; omega) _ _ _ _ _).wide (by have := HI.out.mo.size; omega)), HR.out.set5 HS5.out hrb _ _ _ _ _, HIX.out⟩
      · have b5 : ((v : Int) == 1) = false := by simp; omega
        have b6 : ¬ ((v : Int) = 1) := by omega
        have hms : moreN v acc = 0 := by unfold moreN; rw [if_neg hv]
        have hal := HAL.out
        obtain ⟨ya, yc, hy, _⟩ := row_shape HI.out.row
        have hrow := HI.out.row
        rw [hy] at hrow
        have C46 := inst46 (op := v) (n := acc.length) (c := yc) hv1 hv7 (by rw [← HK.out]; omega) (by omega) rfl hrow
        have HIX : Hid (IX C m (mkIn v acc) mq) := by
          have h2 := HN.out.done
          rw [HK.out] at h2
          have := IX.of (ms := []) (m3 := mq) HO.out hv1 hv7 h2 (by rw [hms]; cases mq <;> rfl)
          rw [List.append_nil] at this
          exact this
        subst hy
        clear hrow hal hms
        go_wp2_with (go_at_call 46; (with_reducible refine C46.mono ?_); rintro e w5 ⟨hb5, N, rfl, hI5⟩; have hX5 : B5 w5 w.heap.size zI zI zI zI nilS := (hb5.block _ (Array.getElem?_eq_some_iff.1 HI.out.box).1).trans HI.out.box; have hS5 := HR.out.mo HI.out.st hb5; have HM5 := hid (HI.out.mo.trans (Mo.of_below (g := rb) hb5)); obtain ⟨r0, r1, r2, r3, r4⟩ := five hX5; obtain ⟨s0, s1, s2, s3, s4⟩ := frz5 hX5; have HX5 := hid hX5; have HS5 := hid hS5; have HI5 := hid hI5; obtain ⟨n0, n1, n2, n3, n4, n5, n6⟩ := N; clear hX5 hS5 hI5 hb5 C46)
        all_goals
          refine bodyPost_ret (results_cell_row rfl _ _ w.heap.size 49 _ (0, 0) _ rfl (all5 HX5.out _ _ _ _ _) Tryd.underlying49 rfl (by kernel_rfl)) rfl ?_
          exact ⟨HM5.out.set5 (Nat.le_refl _) _ _ _ _ _, _, _, _, rfl, ((HI5.out.set5 (by have := (Array.getElem?_eq_some_iff.1 HI.out.box).1; omega) _ _ _ _ _).wide (by have := HI.out.mo.size; omega)), HR.out.set5 HS5.out hrb _ _ _ _ _, HIX.out⟩
/-- AN INSTRUCTION OUT OF A READER OF THE DOCUMENT'S -/
theorem inst28 {α : Type} {C : Codec α} {tx : Bool} {B rb : Nat} {S : World → Option (List α) → Prop} (hR : DRd C tx B rb S) {w : World} {m : Option (List α)} (h : S w m) (hdet : ∃ (v : Nat) (m1 : Option (List α)), OX C m v m1 ∧ ∀ W, S W m → Calls Tryd.prog 44 #[pt rb, .bool tx] W fun e w' => e = .returned (.int .i64 (v : Int)) ∧ Mo W w' rb ∧ S w' m1) :
    Calls Tryd.prog 28 #[pt rb, .bool tx] w (I28 C S rb m w) := by
  obtain ⟨v, m1, hO, hC⟩ := hdet
  by_cases hv : v < 1 ∨ 7 < v
  · exact inst28_bad hR h hv (fun W _ hs => hC W hs) hO
  · exact inst28_ok hR h (by omega) (by omega) (fun W _ hs => hC W hs) hO
/-- what the next operation is -/
theorem OX.det {α : Type} {C : Codec α} (m : Option (List α)) : ∃ v m1, OX C m v m1 ∧ ∀ v' m', OX C m v' m' → v' = v ∧ m' = m1 := by
  cases h : m.bind C.getop with
  | none => exact ⟨0, m, .inl ⟨h, rfl, rfl⟩, fun v' m' h' => by
      rcases h' with ⟨_, rfl, rfl⟩ | ⟨u, h2, _⟩
      · exact ⟨rfl, rfl⟩
      · rw [h] at h2; cases h2⟩
  | some p =>
    obtain ⟨v, u⟩ := p
    exact ⟨v, some u, .inr ⟨u, h, rfl⟩, fun v' m' h' => by
      rcases h' with ⟨h2, _⟩ | ⟨u', h2, rfl⟩
      · rw [h] at h2; cases h2
      · rw [h] at h2
        have h3 := Option.some.inj h2
        simp only [Prod.mk.injEq] at h3
        exact ⟨h3.1.symm, by rw [h3.2]⟩⟩
theorem DRd.inst {α : Type} {C : Codec α} {tx : Bool} {B rb : Nat} {S : World → Option (List α) → Prop} (hR : DRd C tx B rb S) {w : World} {m : Option (List α)} (h : S w m) : Calls Tryd.prog 28 #[pt rb, .bool tx] w (I28 C S rb m w) := by
  obtain ⟨v, m1, hO, hd⟩ := OX.det (C := C) m
  refine inst28 hR h ⟨v, m1, hO, fun W hs => (hR.op W m hs).mono ?_⟩
  rintro e w' ⟨v', m', rfl, _, hM, hS, hX⟩
  obtain ⟨rfl, rfl⟩ := hd _ _ hX
  exact ⟨rfl, hM, hS⟩
end Go.Proofs.YteanndophopplaaDoor
