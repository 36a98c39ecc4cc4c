/- HELPERS: Read. -/
import Derived.Test.YteanndophopplaaDoorJB
import Derived.Test.YteanndophopplaaDoorHB
import Derived.Deep.LoopGhost
/- HELPERS: the program that a text is. -/
namespace Go.Proofs.YteanndophopplaaDoor
open Go.RowKit
set_option linter.unusedVariables false
set_option linter.unusedSimpArgs false
/-- what words are read as, word by word -/
def readS (L M : Nat) (W : List (List Nat)) : Option Pr3 := match W with
  | [] => none
  | c :: w1 => if c ≠ capsW then none else match wordC.get w1 with
    | none => none
    | some (k, w2) => match w2 with
      | [] => none
      | t :: w3 => if t ≠ startW then none else match wordC.get w3 with
        | none => none
        | some (s, l) => match getA wordC L M l with
          | none => none
          | some J => if mayB J (s : Int) (k : Int) then some (J, (s : Int), (k : Int)) else none
theorem readP_seq (L M : Nat) (W : List (List Nat)) : readP L M W = readS L M W := by
  match W with
  | [] => rfl
  | [c] =>
    unfold readP readS
    simp only
    split
    · rfl
    · rfl
  | [c, kw] =>
    unfold readP readS
    simp only
    split
    · rfl
    · show _ = (match (numW kw).map fun n => (n, ([] : List (List Nat))) with | none => none | some (k, w2) => _)
      cases numW kw <;> rfl
  | [c, kw, t] =>
    unfold readP readS
    simp only
    split
    · rfl
    · show _ = (match (numW kw).map fun n => (n, [t]) with | none => none | some (k, w2) => _)
      cases numW kw with
      | none => rfl
      | some k =>
        simp only [Option.map_some]
        split <;> rfl
  | c :: kw :: t :: sw :: l =>
    unfold readP readS
    simp only
    by_cases hc : c = capsW
    · rw [if_neg (show ¬ c ≠ capsW by simpa using hc)]
      show _ = (match (numW kw).map fun n => (n, t :: sw :: l) with | none => none | some (k, w2) => _)
      by_cases ht : t = startW
      · rw [if_pos ⟨hc, ht⟩]
        cases numW kw with
        | none => rfl
        | some k =>
          simp only [Option.map_some]
          rw [if_neg (show ¬ t ≠ startW by simpa using ht)]
          show _ = (match (numW sw).map fun n => (n, l) with | none => none | some (s, l) => _)
          cases numW sw <;> rfl
      · rw [if_neg (fun h => ht h.2)]
        cases numW kw with
        | none => rfl
        | some k =>
          simp only [Option.map_some]
          rw [if_pos ht]
    · rw [if_neg (fun h => hc h.1), if_pos hc]
/-- a row that grows, whose ranges lie apart -/
structure PA (V : World) (base : Nat) (v : Value) (MS : List Iv) (J : List In) : Prop where
  pg : PG V base v MS J
  apart : ∀ i j (h : i < MS.length) (h' : j < MS.length), i ≠ j → ∀ b, MS[i].rv.ownBlock = some b → MS[j].rv.ownBlock ≠ some b
theorem PA.kept {V V' : World} {base : Nat} {v : Value} {MS : List Iv} {J : List In} (h : PA V base v MS J) (hk : ∀ b, base ≤ b → b < V.heap.size → V'.heap[b]? = V.heap[b]?) : PA V' base v MS J := ⟨h.pg.kept hk, h.apart⟩
theorem PA.po {V : World} {base : Nat} {v : Value} {MS : List Iv} {J : List In} (h : PA V base v MS J) : PO V base v J MS := ⟨h.pg.len, h.pg.row, h.pg.io, h.apart⟩
theorem PA.push {V0 V V2 V3 : World} {base : Nat} {v v3 : Value} {MS : List Iv} {J : List In} {N : Iv} {I : In} (h0 : PA V0 base v MS J) (h : PA V base v MS J) (hb : base ≤ V0.heap.size) (hV2 : Below V.heap.size V V2) (hf : Frm V2 V3 v v3) (ho : V3.ownsRow base 49 5 v3 (J.length + 1) (MS.flatMap Iv.cs ++ Iv.cs N)) (hI : IFr V0.heap.size V N I) : PA V3 base v3 (MS ++ [N]) (J ++ [I]) := by
  refine ⟨h.pg.push hV2 hf ho (hI.wide hb), fun i j hi hj hne b e1 e2 => ?_⟩
  have old : ∀ q (hq : q < MS.length) b, MS[q].rv.ownBlock = some b → b < V0.heap.size := fun q hq b hb' => ((h0.pg.io q hq (by rw [← h0.pg.len]; exact hq)).rr.lt b hb').2
  have new : ∀ b, N.rv.ownBlock = some b → V0.heap.size ≤ b := fun b hb' => (hI.rr.lt b hb').1
  by_cases ei : i < MS.length
  · rw [List.getElem_append_left ei] at e1
    by_cases ej : j < MS.length
    · rw [List.getElem_append_left ej] at e2
      exact h.apart i j ei ej hne b e1 e2
    · have : j = MS.length := by simp at hj; omega
      subst this
      have e3 : (MS ++ [N])[MS.length] = N := by simp
      rw [e3] at e2
      have := old i ei b e1; have := new b e2; omega
  · have : i = MS.length := by simp at hi; omega
    subst this
    have e3 : (MS ++ [N])[MS.length] = N := by simp
    rw [e3] at e1
    have ej : j < MS.length := by simp at hj; omega
    rw [List.getElem_append_left ej] at e2
    have := old j ej b e2; have := new b e1; omega
/-- the walk of ofText: the boxes -/
structure LT (w V : World) (rb pb : Nat) (m : List (List Nat)) (v0 v1 v2 : Value) : Prop where
  er : rb = w.heap.size + 1
  ep : pb = w.heap.size + 2
  res : B3 V w.heap.size nilS zI zI
  p : B3 V pb v0 v1 v2
  st : RDw w.heap.size rb V m
  be : Below w.heap.size w V
theorem LT.lt {w V : World} {rb pb : Nat} {m : List (List Nat)} {v0 v1 v2 : Value} (h : LT w V rb pb m v0 v1 v2) : w.heap.size + 2 < V.heap.size := by have := h.ep; have := (Array.getElem?_eq_some_iff.1 h.p).1; omega
theorem LT.mo {w V V' : World} {rb pb : Nat} {m m' : List (List Nat)} {v0 v1 v2 : Value} (h : LT w V rb pb m v0 v1 v2) (hm : Mo V V' rb) (hs : RDw w.heap.size rb V' m') : LT w V' rb pb m' v0 v1 v2 := by
  have := h.lt
  have := h.er
  have := h.ep
  exact ⟨h.er, h.ep, (hm.block _ (by omega) (by omega)).trans h.res, (hm.block _ (by omega) (by omega)).trans h.p, hs, h.be.trans (hm.below (by omega) (by omega))⟩
theorem LT.set {w V : World} {rb pb : Nat} {m : List (List Nat)} {v0 v1 v2 u0 u1 u2 : Value} {i : Nat} {v : Value} (h : LT w V rb pb m v0 v1 v2) (hp : B3 (V.setCell ⟨pb, i, none⟩ v) pb u0 u1 u2) : LT w (V.setCell ⟨pb, i, none⟩ v) rb pb m u0 u1 u2 := by
  have e1 := h.er
  have e2 := h.ep
  exact ⟨h.er, h.ep, (Below.heap_setCell _ _ _ _ (show w.heap.size ≠ pb by omega)).trans h.res, hp, (rdr_w (by omega)).kept _ _ _ h.st (Below.heap_setCell _ _ _ _ (show rb ≠ pb by omega)) (fun b hb => Below.heap_setCell _ _ _ _ (show b ≠ pb by omega)), h.be.setCell (by show w.heap.size ≤ pb; omega) v⟩
theorem LT.set2 {w V : World} {rb pb : Nat} {m : List (List Nat)} {v0 v1 v2 : Value} (h : LT w V rb pb m v0 v1 v2) (v : Value) : LT w (V.setCell ⟨pb, 2, none⟩ v) rb pb m v0 v1 v := h.set (Joins.block_setCell h.p v)
theorem LT.set1 {w V : World} {rb pb : Nat} {m : List (List Nat)} {v0 v1 v2 : Value} (h : LT w V rb pb m v0 v1 v2) (v : Value) : LT w (V.setCell ⟨pb, 1, none⟩ v) rb pb m v0 v v2 := h.set (Joins.block_setCell h.p v)
theorem LT.set0 {w V : World} {rb pb : Nat} {m : List (List Nat)} {v0 v1 v2 : Value} (h : LT w V rb pb m v0 v1 v2) (v : Value) : LT w (V.setCell ⟨pb, 0, none⟩ v) rb pb m v v1 v2 := h.set (Joins.block_setCell h.p v)
theorem LT.old {w V V' : World} {rb pb : Nat} {m : List (List Nat)} {v0 v1 v2 : Value} (h : LT w V rb pb m v0 v1 v2) (hk : ∀ b, b < w.heap.size + 3 → V'.heap[b]? = V.heap[b]?) (hb : Below w.heap.size w V') : LT w V' rb pb m v0 v1 v2 := by
  have e1 := h.er
  have e2 := h.ep
  exact ⟨h.er, h.ep, (hk _ (by omega)).trans h.res, (hk _ (by omega)).trans h.p, (rdr_w (by omega)).kept _ _ _ h.st (hk _ (by omega)) (fun b hb => hk b (by omega)), hb⟩
theorem LT.mk' {w : World} {s : ByteArray} (hs : s.size ≤ 8388608) : LT w (((w.alloc (.cells #[nilS, zI, zI] 24)).alloc (.cells #[.string s] 80)).alloc (.cells #[nilS, zI, zI] 24)) (w.heap.size + 1) (w.heap.size + 1 + 1) (wordsL (bs s)) nilS zI zI := by
  have hsz : ((w.alloc (.cells #[nilS, zI, zI] 24)).alloc (.cells #[.string s] 80)).heap.size = w.heap.size + 1 + 1 := by simp
  have hsz1 : (w.alloc (.cells #[nilS, zI, zI] 24)).heap.size = w.heap.size + 1 := by simp
  refine ⟨rfl, by omega, ?_, ?_, ⟨by omega, s, ?_, hs, rfl⟩, ?_⟩
  · exact (heap_alloc_old _ _ (by simp; omega)).trans ((heap_alloc_old _ _ (by simp)).trans (heap_alloc_new w _))
  · have := heap_alloc_new ((w.alloc (.cells #[nilS, zI, zI] 24)).alloc (.cells #[.string s] 80)) (.cells #[nilS, zI, zI] 24)
    rw [hsz] at this
    exact this
  · have := heap_alloc_new (w.alloc (.cells #[nilS, zI, zI] 24)) (.cells #[.string s] 80)
    rw [hsz1] at this
    exact (heap_alloc_old _ _ (by simp)).trans this
  · exact ((Joins.below_alloc1 w _).alloc (by simp) _).alloc (by simp; omega) _
def readU (L M k s : Nat) (l : List (List Nat)) : Option Pr3 := match getA wordC L M l with
  | none => none
  | some J => if mayB J (s : Int) (k : Int) then some (J, (s : Int), (k : Int)) else none
def readT (L M k : Nat) (w2 : List (List Nat)) : Option Pr3 := match w2 with
  | [] => none
  | t :: w3 => if t ≠ startW then none else match wordC.get w3 with
    | none => none
    | some (s, l) => readU L M k s l
theorem readS_no {L M : Nat} {W : List (List Nat)} (h : W.head? ≠ some capsW) : readS L M W = none := by
  cases W with
  | nil => rfl
  | cons c r =>
    unfold readS
    simp only
    rw [if_pos]
    intro e
    exact h (by rw [e]; rfl)
theorem readS_cons {L M : Nat} {u : List (List Nat)} : readS L M (capsW :: u) = (match wordC.get u with | none => none | some (k, w2) => readT L M k w2) := by
  show (if capsW ≠ capsW then none else _) = _
  rw [if_neg (by simp)]
  cases wordC.get u with
  | none => rfl
  | some p => rfl
theorem readT_no {L M k : Nat} {W : List (List Nat)} (h : W.head? ≠ some startW) : readT L M k W = none := by
  cases W with
  | nil => rfl
  | cons c r =>
    unfold readT
    simp only
    rw [if_pos]
    intro e
    exact h (by rw [e]; rfl)
theorem readT_cons {L M k : Nat} {u : List (List Nat)} : readT L M k (startW :: u) = (match wordC.get u with | none => none | some (s, l) => readU L M k s l) := by
  show (if startW ≠ startW then none else _) = _
  rw [if_neg (by simp)]
  cases wordC.get u with
  | none => rfl
  | some p => rfl
theorem word50w {B rb : Nat} {w : World} {m : List (List Nat)} (h : RDw B rb w m) : Calls Tryd.prog 50 #[pt rb] w fun e w' => ∃ (v : ByteArray) (m' : List (List Nat)), e = .returned (.string v) ∧ RDw B rb w' m' ∧ Mo w w' rb ∧ ((bs v = [] ∧ m = [] ∧ m' = []) ∨ (bs v ≠ [] ∧ m = bs v :: m')) := by
  obtain ⟨hB, s, h1, h2, rfl⟩ := h
  refine (word50 h1 h2).mono ?_
  rintro e w' ⟨v, s', rfl, h3, h4, h5, _, h6⟩
  exact ⟨v, wordsL (bs s'), rfl, ⟨hB, s', h3, h5, rfl⟩, h4, h6⟩
theorem expect_no {B rb : Nat} {w : World} {m : List (List Nat)} {x : ByteArray} (hm : RDw B rb w m) (hx : bs x ≠ []) (hh : m.head? ≠ some (bs x)) : Calls Tryd.prog 48 #[pt rb, .string x] w fun e w' => e = Broke ∧ Mo w w' rb :=
  (expect48 hm hx).mono (by
    rintro e w' ⟨hM, ⟨_, rfl⟩ | ⟨u, h, _⟩⟩
    · exact ⟨rfl, hM⟩
    · rw [h] at hh; exact absurd rfl hh)
theorem expect_ok {B rb : Nat} {w : World} {u : List (List Nat)} {x : ByteArray} (hx : bs x ≠ []) (hm : RDw B rb w (bs x :: u)) : Calls Tryd.prog 48 #[pt rb, .string x] w fun e w' => e = .returned (.tuple #[]) ∧ RDw B rb w' u ∧ Mo w w' rb :=
  (expect48 hm hx).mono (by
    rintro e w' ⟨hM, ⟨h, _⟩ | ⟨u', h, rfl, h3⟩⟩
    · exact absurd rfl h
    · simp only [List.cons.injEq, true_and] at h
      rw [← h] at h3
      exact ⟨rfl, h3, hM⟩)
theorem head_cons {W : List (List Nat)} {x : List Nat} (h : W.head? = some x) : ∃ u, W = x :: u := by
  cases W with
  | nil => cases h
  | cons a r => exact ⟨r, by rw [Option.some.inj h]⟩
theorem getA_step {L n : Nat} {a : List Nat} {l l1 : List (List Nat)} {I : In} (h : getF wordC L (opOfW a) l = some (I, l1)) : getA wordC L (n + 1) (a :: l) = (match getA wordC L n l1 with | none => none | some J => some (I :: J)) := by
  have e : getI wordC L (a :: l) = some (I, l1) := h
  conv => lhs; unfold getA
  rw [e]
  dsimp only
  cases getA wordC L n l1 <;> rfl
theorem getA_stop {L n : Nat} {a : List Nat} {l : List (List Nat)} (h : getF wordC L (opOfW a) l = none) : getA wordC L (n + 1) (a :: l) = none := by
  have e : getI wordC L (a :: l) = none := h
  unfold getA
  rw [e]
theorem getA_nil {L n : Nat} : getA wordC L n [] = some [] := by cases n <;> rfl
theorem getF_shorter {L op : Nat} {l u : List (List Nat)} {I : In} (h : getF wordC L op l = some (I, u)) (h1 : 1 ≤ op) (h7 : op ≤ 7) : u.length ≤ l.length := by
  have h2 : getI wordC L (opW op :: l) = some (I, u) := by
    show getF wordC L (opOfW (opW op)) l = _
    rw [op_opW h1 h7]; exact h
  have := congrArg List.length (getI_sound wordC h2)
  rw [List.length_append] at this
  have : 1 ≤ (wordC.inst I).length := by simp [Codec.inst, wordC]
  simp at *
  omega
theorem empty_bs (v : ByteArray) : v.toList.isEmpty = decide (bs v = []) := by
  rw [ByteArray.toList_eq]
  unfold bs
  cases v.data.toList <;> simp
/-- what ofText answers -/
abbrev OTP (W : List (List Nat)) (w : World) (e : Ending) (w' : World) : Prop := Below w.heap.size w w' ∧ ((readP 5000 20000 W = none ∧ e = Broke) ∨ ∃ J s k a c MS, readP 5000 20000 W = some (J, s, k) ∧ e = .returned (pv a J.length c s k) ∧ PO w' w.heap.size (.slice a J.length c) J MS)
theorem G8.low {w w' : World} {g : Nat} (h : G8 w) (hm : Mo w w' g) (hg : 0 < g) (h0 : 0 < w.heap.size) : G8 w' := fun i hi => (cell_eq (hm.block 0 h0 (by omega)) i).trans (h i hi)
theorem en52 : Enters 52 := enter_of Tryd.func52 (by kernel_rfl) rfl
set_option maxRecDepth 100000 in
set_option maxHeartbeats 8000000 in
theorem ofText32 {w : World} {s : ByteArray} (hG : G8 w) (h0 : 0 < w.heap.size) (hs : s.size ≤ 8388608) : Calls Tryd.prog 32 #[.string s] w (OTP (wordsL (bs s)) w) := by
  obtain ⟨W, hW⟩ : ∃ W, W = wordsL (bs s) := ⟨_, rfl⟩
  have hLT := LT.mk' (w := w) hs
  rw [← hW] at hLT ⊢
  obtain ⟨X, hX⟩ : ∃ X, X = ((w.alloc (.cells #[nilS, zI, zI] 24)).alloc (.cells #[.string s] 80)).alloc (.cells #[nilS, zI, zI] 24) := ⟨_, rfl⟩
  rw [← hX] at hLT
  have HX := hid hX
  have HG := hid hG
  unfold OTP
  rw [readP_seq]
  obtain ⟨i51, hi51, hz510, hz511, hz512⟩ := info_parts info51
  have HL := hid hLT
  clear hX hG hW hLT
  go_enter Tryd.func32, Tryd.ntmps32
  go_upto_region 3 with fail
  rw [← HX.out]
  clear HX
  obtain ⟨pb, hpb⟩ : ∃ pb, w.heap.size + 1 + 1 = pb := ⟨_, rfl⟩
  rw [hpb] at HL ⊢
  obtain ⟨rb, hrb⟩ : ∃ rb, w.heap.size + 1 = rb := ⟨_, rfl⟩
  rw [hrb] at HL ⊢
  clear hpb hrb
  have hN : NumR 49 rb (RDw w.heap.size rb) wordC := number49
  by_cases hh : W.head? = some capsW
  · obtain ⟨u1, rfl⟩ := head_cons hh
    have C48 := expect_ok (x := ⟨#[99, 97, 112, 115]⟩) (by decide) HL.out.st
    go_upto_region 4 with (go_at_call 48; (with_reducible refine C48.mono ?_); rintro e w1 ⟨rfl, hR1, hM1⟩; have HL1 := hid (HL.out.mo hM1 hR1); have HG1 := hid (HG.out.low ((Mo.of_below (g := rb) HL.out.be)) (by have := HL.out.er; omega) h0 |>.low hM1 (by have := HL.out.er; omega) (by have := HL.out.lt; omega)); clear hR1 hM1 C48)
    clear HL hh
    cases hg1 : wordC.get u1 with
    | none =>
      have C49 := hN.none HL1.out.st hg1
      go_wp2_with (go_at_call 49; (with_reducible refine C49.mono ?_); rintro e w2 ⟨rfl, hM⟩)
      exact ⟨rfl, HL1.out.be.trans (hM.below (by have := HL1.out.er; omega) HL1.out.be.size), .inl ⟨by rw [readS_cons, hg1], rfl⟩⟩
    | some p1 =>
      obtain ⟨k0, u2⟩ := p1
      have C49 := hN.some HL1.out.st hg1
      go_upto_region 5 with (go_at_call 49; (with_reducible refine C49.mono ?_); rintro e w2 ⟨rfl, hR2, hM2⟩; have h1 := HL1.out.mo hM2 hR2; obtain ⟨c0, c1, c2⟩ := three_cells h1.p; obtain ⟨f0, f1, f2⟩ := frz3 h1.p; have HL2 := hid (h1.set2 (.int .i64 (k0 : Int))); have HG2 := hid ((HG1.out.low hM2 (by have := HL1.out.er; omega) (by have := HL1.out.lt; omega)).low (Mo.set _ pb 2 (.int .i64 (k0 : Int))) (by have := HL1.out.ep; omega) (by have := h1.lt; omega)); clear h1 hR2 hM2 C49)
      have HS1 := hid (readS_cons (L := 5000) (M := 20000) (u := u1))
      rw [hg1] at HS1
      clear HL1 HG1 hg1
      by_cases hh : u2.head? = some startW
      · obtain ⟨u3, rfl⟩ := head_cons hh
        have C48 := expect_ok (x := ⟨#[115, 116, 97, 114, 116]⟩) (by decide) HL2.out.st
        go_upto_region 6 with (go_at_call 48; (with_reducible refine C48.mono ?_); rintro e w3 ⟨rfl, hR3, hM3⟩; have HL3 := hid (HL2.out.mo hM3 hR3); have HG3 := hid (HG2.out.low hM3 (by have := HL2.out.er; omega) (by have := HL2.out.lt; omega)); clear hR3 hM3 C48)
        clear HL2 HG2 hh
        cases hg2 : wordC.get u3 with
        | none =>
          have C49 := hN.none HL3.out.st hg2
          go_wp2_with (go_at_call 49; (with_reducible refine C49.mono ?_); rintro e w4 ⟨rfl, hM⟩)
          exact ⟨rfl, HL3.out.be.trans (hM.below (by have := HL3.out.er; omega) HL3.out.be.size), .inl ⟨HS1.out.trans (by show readT _ _ _ (startW :: u3) = _; rw [readT_cons, hg2]), rfl⟩⟩
        | some p2 =>
          obtain ⟨s0, u4⟩ := p2
          have C49 := hN.some HL3.out.st hg2
          go_upto_region 7 with (go_at_call 49; (with_reducible refine C49.mono ?_); rintro e w4 ⟨rfl, hR4, hM4⟩; have h1 := HL3.out.mo hM4 hR4; obtain ⟨c0, c1, c2⟩ := three_cells h1.p; obtain ⟨f0, f1, f2⟩ := frz3 h1.p; have HL4 := hid (h1.set1 (.int .i64 (s0 : Int))); have HG4 := hid ((HG3.out.low hM4 (by have := HL3.out.er; omega) (by have := HL3.out.lt; omega)).low (Mo.set _ pb 1 (.int .i64 (s0 : Int))) (by have := HL3.out.ep; omega) (by have := h1.lt; omega)); clear h1 hR4 hM4 C49)
          have HS2 : Hid (readS 5000 20000 (capsW :: u1) = readU 5000 20000 k0 s0 u4) := HS1.out.trans (by show readT _ _ _ (startW :: u3) = _; rw [readT_cons, hg2])
          clear HL3 HG3 hg2 HS1
          have C50 := word50w HL4.out.st
          go_upto_region 8 with (go_at_call 50; (with_reducible refine C50.mono ?_); rintro e w5 ⟨v, m5, rfl, hR5, hM5, hx5⟩; have HL5 := hid (HL4.out.mo hM5 hR5); have HG5 := hid (HG4.out.low hM5 (by have := HL4.out.er; omega) (by have := HL4.out.lt; omega)); have HX5 := hid hx5; clear hR5 hM5 hx5 C50)
          clear HL4 HG4
          go_wp2_with fail
          have HGA : Hid (getA wordC 5000 20000 u4 = (match getA wordC 5000 (20000 - 0) u4 with | none => none | some A => some (([] : List In) ++ A))) := by
            show _ = _
            cases getA wordC 5000 20000 u4 <;> rfl
          go_loopg [5] (u4.length) (fun k y wq => ∃ (v : ByteArray) (m' cur : List (List Nat)) (i : Nat) (J : List In) (MS : List Iv) (ra : Option Addr) (rc : Nat), y = .string v ∧ Hid (k = cur.length) ∧ Hid ((bs v = [] ∧ cur = [] ∧ m' = []) ∨ (bs v ≠ [] ∧ cur = bs v :: m')) ∧ Hid (J.length = i) ∧ i ≤ 20000 ∧ Hid (LT w wq rb pb m' (.slice ra i rc) (.int .i64 (s0 : Int)) (.int .i64 (k0 : Int))) ∧ Hid (PA wq (w.heap.size + 3) (.slice ra i rc) MS J) ∧ Hid (G8 wq) ∧ Hid (getA wordC 5000 20000 u4 = (match getA wordC 5000 (20000 - i) cur with | none => none | some A => some (J ++ A))))
          case atStart => exact ⟨v, m5, u4, 0, [], [], none, 0, rfl, rfl, HX5.out, rfl, by omega, HL5.out, ⟨PG.nil _ _, fun i j h => by simp at h⟩, HG5.out, HGA.out⟩
          case round =>
            clear HL5 HX5 HG5 HGA
            obtain ⟨v, m', cur, i, J, MS, ra, rc, rfl, HKC, HX, HJL, hi, HL, HP, HG, HGA⟩ := hrel
            have hlt := HL.out.lt
            rcases HX.out with ⟨hv, hcur, hm'⟩ | ⟨hv, hcur⟩
            · have bq : v.toList.isEmpty = true := by rw [empty_bs, hv]; rfl
              have hpi := HP.out.pg.pi HJL.out.symm
              have C53 := mayBe53 (c := rc) (s := (s0 : Int)) (k := (k0 : Int)) hpi
              obtain ⟨c0, c1, c2⟩ := three_cells HL.out.p
              obtain ⟨r0, r1, r2⟩ := three_cells HL.out.res
              obtain ⟨t0, t1, t2⟩ := frz3 HL.out.res
              have HU : Hid (readU 5000 20000 k0 s0 u4 = if mayB J (s0 : Int) (k0 : Int) then some (J, (s0 : Int), (k0 : Int)) else none) := by
                show _ = _
                unfold readU
                rw [HGA.out, hcur, getA_nil]
                simp
              cases hm : mayB J (s0 : Int) (k0 : Int) with
              | false =>
                have D53 : Calls Tryd.prog 53 #[pv ra i rc (s0 : Int) (k0 : Int)] wr fun e w' => e = Broke ∧ Below wr.heap.size wr w' := C53.mono (by
                  rintro e w' ⟨hb, ⟨_, rfl⟩ | ⟨h2, _⟩⟩
                  · exact ⟨rfl, hb⟩
                  · rw [hm] at h2; cases h2)
                have HNO : Hid (readS 5000 20000 (capsW :: u1) = none) := HS2.out.trans (HU.out.trans (by rw [hm]; rfl))
                clear C53 hpi hm
                go_wp2_with (go_at_call 53; (with_reducible refine D53.mono ?_); rintro e w7 ⟨rfl, hb7⟩)
                exact ⟨rfl, HL.out.be.trans (Joins.below_le hb7 HL.out.be.size), .inl ⟨HNO.out, rfl⟩⟩
              | true =>
                have D53 : Calls Tryd.prog 53 #[pv ra i rc (s0 : Int) (k0 : Int)] wr fun e w' => e = .returned (pv ra i rc (s0 : Int) (k0 : Int)) ∧ Below wr.heap.size wr w' := C53.mono (by
                  rintro e w' ⟨hb, ⟨h2, _⟩ | ⟨_, rfl⟩⟩
                  · rw [hm] at h2; cases h2
                  · exact ⟨rfl, hb⟩)
                have HYE : Hid (readS 5000 20000 (capsW :: u1) = some (J, (s0 : Int), (k0 : Int))) := HS2.out.trans (HU.out.trans (by rw [hm]; rfl))
                clear C53 hpi hm r0 r1 r2 t0 t1 t2
                go_wp2_with (go_at_call 53; (with_reducible refine D53.mono ?_); rintro e w7 ⟨rfl, hb7⟩; have HL7 := hid (HL.out.old (fun b hb => hb7.block b (by omega)) (HL.out.be.trans (Joins.below_le hb7 HL.out.be.size))); have HP7 := hid (HP.out.kept (fun b _ hb => hb7.block b hb)); obtain ⟨r0, r1, r2⟩ := three_cells HL7.out.res; obtain ⟨t0, t1, t2⟩ := frz3 HL7.out.res; clear hb7 D53)
                all_goals
                  refine bodyPost_ret (results_cell_row rfl _ _ w.heap.size 24 _ (0, 0) _ rfl (all3 HL7.out.res _ _ _) Tryd.underlying24 rfl (by kernel_rfl)) rfl ?_
                  refine ⟨((HL7.out.be.setCell (Nat.le_refl _) _).setCell (Nat.le_refl _) _).setCell (Nat.le_refl _) _, .inr ⟨J, (s0 : Int), (k0 : Int), ra, rc, MS, HYE.out, by rw [HJL.out], ?_⟩⟩
                  rw [HJL.out]
                  exact ((HP7.out.kept (fun q hq _ => set3_old (by omega) _ _ _)).po).wide (by omega)
            · have bq : v.toList.isEmpty = false := by rw [empty_bs]; simpa using hv
              obtain ⟨c0, c1, c2⟩ := three_cells HL.out.p
              by_cases hfull : i = 20000
              · have d1 : decide ((i : Int) = 20000) = true := by simp; omega
                have d2 : (i : Int) = 20000 := by omega
                have d3 : ((i : Int) == 20000) = true := by simp; omega
                have HNO : Hid (readS 5000 20000 (capsW :: u1) = none) := by
                  show _ = _
                  rw [HS2.out]
                  unfold readU
                  rw [HGA.out, hcur, hfull]
                  rfl
                go_wp2
                all_goals exact ⟨rfl, HL.out.be, .inl ⟨HNO.out, rfl⟩⟩
              · have d1 : decide ((i : Int) = 20000) = false := by simp; omega
                have d2 : ¬ (i : Int) = 20000 := by omega
                have d3 : ((i : Int) == 20000) = false := by simp; omega
                go_upto_region 12 with fail
                have HKS := hid HL.out
                have hpos : 1 ≤ opOfW (bs v) ∨ opOfW (bs v) = 0 := by omega
                obtain ⟨op, hop⟩ : ∃ op, op = opOfW (bs v) := ⟨_, rfl⟩
                have C52 := opOf52 (w := wr.drew) (v := v) (fun q hq => HG.out q hq) hv
                rw [← hop] at C52
                have HOP := hid hop
                have hrd : RDw w.heap.size rb wr.drew m' := (rdr_w (by have := HL.out.er; omega)).kept _ _ _ HL.out.st rfl (fun _ _ => rfl)
                have HLd := hid (HL.out.mo (Mo.drew wr rb) hrd)
                have HPd := hid (HP.out.kept (V' := wr.drew) (fun _ _ _ => rfl))
                clear hop hrd hpos
                refine wp_region_lexK [0, 1, 2, 4] [3, 5, 6, 7, 8, 9] 9 (fun V => V.cell? ⟨pb, 0, none⟩ = some (.slice ra i rc)) (by kernel_rfl) (by kernel_rfl) rfl (by kernel_rfl) (by kernel_rfl) c0 ?_
                simp only [opsAt, opsNo, List.getElem?_toArray, List.getElem?_cons_zero, List.getElem?_cons_succ]
                iterate 4
                  refine lex_cons ?_ rfl (fun V hV => ?_) (fun _ _ _ h => h) ?_
                  rotate_left
                  · go_simp <;> with_reducible rfl
                  simp only [Act.put, List.setIfInBounds_toArray, List.set_cons_zero, List.set_cons_succ]
                refine lex_nil (tailK_cons fun K1 hK1 => ?_)
                refine step_callP rfl 52 (.tmp 26) 9 rfl en52 ?_
                refine C52.mono ?_
                rintro e w6 ⟨rfl, rfl⟩
                refine .inl ⟨_, rfl, ?_⟩
                refine hK1.out _ _ (fun _ => Joins.cell_of_block HLd.out.p 0) (tailK_cons fun K2 hK2 => ?_)
                have C51 := take51 hN en49 (rdr_w (by have := HLd.out.er; omega)) op HLd.out.st
                refine step_callG2 rfl 51 (.tmp 27) (.tmp 28) 3 82 rfl en51 ?_
                refine C51.mono ?_
                have hbe := HLd.out.be
                have hlt2 := HLd.out.lt
                have hpbl : pb < wr.drew.heap.size := by have := HLd.out.ep; omega
                have hpbw : pb < w.heap.size + 3 := by have := HLd.out.ep; omega
                have hK20 : 20000 - i = (20000 - (i + 1)) + 1 := by omega
                rintro e w7 ⟨hM7, ⟨hgf, rfl⟩ | ⟨I, u, hgf, ⟨n0, n1, n2, n3, n4, n5, n6⟩, rfl, q0, q1, q2, q3, q4, q5, hR7⟩⟩
                · refine .inr ⟨_, rfl, ?_⟩
                  exact ⟨rfl, hbe.trans (hM7.below (by have := HLd.out.er; omega) hbe.size), .inl ⟨by rw [HS2.out]; unfold readU; rw [HGA.out, hcur, hK20, getA_stop (by rw [← HOP.out]; exact hgf)], rfl⟩⟩
                · refine .inl ⟨_, rfl, ?_⟩
                  have hRl := getF_len hgf
                  have HL7 := hid (HLd.out.mo hM7 hR7)
                  have HP7 := hid (HPd.out.kept (fun b hb hb' => hM7.block b hb' (by have := HLd.out.er; omega)))
                  have HI7 : Hid (IFr wr.drew.heap.size w7 ⟨n0, n1, n2, n3, n4, n5, n6⟩ I) := ⟨q0, q1, q2, q3, q4, by omega, q5⟩
                  have HG7 := hid ((show G8 wr.drew from fun q hq => HG.out q hq).low hM7 (by have := HLd.out.er; omega) (by omega))
                  have HSG : Hid (getA wordC 5000 20000 u4 = (match getA wordC 5000 (20000 - (i + 1)) u with | none => none | some A => some ((J ++ [I]) ++ A))) := by
                    show _ = _
                    rw [HGA.out, hcur, hK20, getA_step (by rw [← HOP.out]; exact hgf)]
                    cases getA wordC 5000 (20000 - (i + 1)) u with
                    | none => rfl
                    | some A => simp
                  have HUL : Hid (1 ≤ op → op ≤ 7 → u.length ≤ m'.length) := fun h1 h7 => getF_shorter hgf h1 h7
                  have hop17 : 1 ≤ op ∧ op ≤ 7 := by
                    by_cases ho : op < 1 ∨ 7 < op
                    · rw [getF_no ho] at hgf; cases hgf
                    · omega
                  have HU2 := hid (HUL.out hop17.1 hop17.2)
                  have hs7 := hM7.size
                  have hrow := HP7.out.pg.row
                  rw [HJL.out] at hrow
                  have HO7 : Hid ((w7.alloc (.cells #[.int .i64 n0, .int .i64 n1, .int .i64 n2, .int .i64 n3, .slice n4 n5 n6] 49)).ownsRow (w.heap.size + 3) 49 5 (.slice ra i rc) i (MS.flatMap Iv.cs)) := hrow.alloc _
                  have hpb7 : pb < w7.heap.size := by omega
                  have hne : (Value.slice ra i rc).ownBlock ≠ some pb := fun e => by have := (hrow.lt pb e).1; omega
                  have p0 := Joins.cell_of_block HL7.out.p 0
                  simp at p0
                  have f0 := (frz3 HL7.out.p).1
                  have HROW := hid hrow
                  clear hgf hR7 q0 q1 q2 q3 q4 q5 HUL hrow C51 C52
                  refine hK2.out _ _ (fun _ => p0) (tailK_cons fun K3 hK3 => ?_)
                  simp only [Act.put, List.setIfInBounds_toArray, List.set_cons_zero, List.set_cons_succ]
                  go_simp
                  refine hK3.out _ _ (fun _ => by simp [p0, hpb7, World.cell?_alloc_lt]) (tailK_cons fun K4 hK4 => ?_)
                  refine step_append_row rfl (.tmp 25) (.tmp 30) 22 rfl (w.heap.size + 3) 49 i51 Z5 5 56 Tryd.underlying22 hi51 hz510 hz511 hz512 rfl (by decide) (.slice ra i rc) i (MS.flatMap Iv.cs) (by simp [Act.eval, Act.put]) (by exact HO7.out) w7.heap.size 1 1 #[.int .i64 n0, .int .i64 n1, .int .i64 n2, .int .i64 n3, .slice n4 n5 n6] 49 (by simp [Act.eval, Act.put]) (by exact heap_alloc_new w7 _) rfl (by decide) (by simp [Value.oneCell']) (by unfold maxLen; omega) (by omega) (by (try simp) <;> omega) ?_
                  intro v8 w8 ho8 hf8
                  obtain ⟨x8, d8, hv8, _⟩ := row_shape ho8.out
                  subst hv8
                  have hlow : ∀ q, q < w.heap.size + 3 → w8.heap[q]? = w7.heap[q]? := fun q hq => (hf8.out.block q (by simp; omega) (fun e => by have := (HROW.out.lt q e).1; omega)).trans (heap_alloc_old w7 _ (by omega))
                  have hz8 : w7.heap.size ≤ w8.heap.size := by have := hf8.out.size; simp at this; omega
                  have hB8 : Below w.heap.size w w8 := ⟨hf8.out.os.trans HL7.out.be.os, hf8.out.tape.trans HL7.out.be.tape, hf8.out.output.trans HL7.out.be.output, Nat.le_trans HL7.out.be.size hz8, fun q hq => (hlow q (by omega)).trans (HL7.out.be.block q hq)⟩
                  have hPA := PA.push HPd.out HP7.out (by omega) (Joins.below_alloc1 w7 _) hf8.out (by rw [HJL.out]; exact ho8.out) HI7.out
                  have HL8 := hid ((HL7.out.old hlow hB8).set0 (.slice x8 (i + 1) d8))
                  have HP8 : Hid (PA (w8.setCell ⟨pb, 0, none⟩ (.slice x8 (i + 1) d8)) (w.heap.size + 3) (.slice x8 (i + 1) d8) (MS ++ [(⟨n0, n1, n2, n3, n4, n5, n6⟩ : Iv)]) (J ++ [I])) := hPA.kept (fun q hq _ => Below.heap_setCell _ _ _ _ (show q ≠ pb by omega))
                  have HG8 : Hid (G8 (w8.setCell ⟨pb, 0, none⟩ (.slice x8 (i + 1) d8))) := fun q hq => (cell_eq (Below.heap_setCell _ _ _ _ (show 0 ≠ pb by have := HL7.out.ep; omega)) q).trans ((cell_eq (hlow 0 (by omega)) q).trans (HG7.out q hq))
                  have p8 := (cell_eq (hlow pb (by omega)) 0).trans p0
                  have f8 := (frz_eq (hlow pb (by omega)) 0).trans f0
                  clear hlow hz8 hB8 hPA ho8 hf8 HO7 HP7 HL7 HI7 HG7 HROW p0 f0 hne
                  refine hK4.out _ _ (fun _ => p8) (tailK_cons fun K5 hK5 => ?_)
                  simp only [Act.put, List.setIfInBounds_toArray, List.set_cons_zero, List.set_cons_succ]
                  go_simp
                  refine hK5.out _ _ (fun _ => p8) (tailK_cons fun K6 hK6 => ?_)
                  simp only [Act.put, List.setIfInBounds_toArray, List.set_cons_zero, List.set_cons_succ]
                  go_simp
                  refine hK6.out _ _ (fun h => absurd rfl h) (tailK_nil ?_)
                  have C50 := word50w HL8.out.st
                  go_wp2_with (go_at_call 50; (with_reducible refine C50.mono ?_); rintro e w9 ⟨v9, m9, rfl, hR9, hM9, hx9⟩; have HL9 := hid (HL8.out.mo hM9 hR9); have HG9 := hid (HG8.out.low hM9 (by have := HL8.out.er; omega) (by have := HL8.out.lt; omega)); have HP9 := hid (HP8.out.kept (fun b hb hb' => hM9.block b hb' (by have := HL8.out.er; omega))); have HX9 := hid hx9; clear hR9 hM9 hx9 C50)
                  go_roundg (u.length)
                  case measure => have h1 := HKC.out; rw [hcur, List.length_cons] at h1; have h2 := HU2.out; omega
                  case rel => exact ⟨v9, m9, u, i + 1, J ++ [I], MS ++ [(⟨n0, n1, n2, n3, n4, n5, n6⟩ : Iv)], x8, d8, rfl, rfl, HX9.out, hid (by show _ = _; rw [List.length_append, HJL.out]; rfl), by omega, HL9.out, HP9.out, HG9.out, HSG.out⟩
      · have C48 := expect_no (x := ⟨#[115, 116, 97, 114, 116]⟩) HL2.out.st (by decide) hh
        go_wp2_with (go_at_call 48; (with_reducible refine C48.mono ?_); rintro e w3 ⟨rfl, hM⟩)
        exact ⟨rfl, HL2.out.be.trans (hM.below (by have := HL2.out.er; omega) HL2.out.be.size), .inl ⟨HS1.out.trans (readT_no hh), rfl⟩⟩
  · have C48 := expect_no (x := ⟨#[99, 97, 112, 115]⟩) HL.out.st (by decide) hh
    go_wp2_with (go_at_call 48; (with_reducible refine C48.mono ?_); rintro e w1 ⟨rfl, hM⟩)
    exact ⟨rfl, HL.out.be.trans (hM.below (by have := HL.out.er; omega) HL.out.be.size), .inl ⟨readS_no hh, rfl⟩⟩
end Go.Proofs.YteanndophopplaaDoor
namespace Go.Proofs.YteanndophopplaaDoor
open Go.RowKit Go.Extern.Stop Go.Stop Go.Extern
set_option linter.unusedVariables false
set_option linter.unusedSimpArgs false
theorem res16 (tmps : Array Value) (w : World) (tb eb : Nat) (v0 v1 v2 ev : Value) (h2 : tmps.getD 2 undef = .pointer (some ⟨tb, 0, none⟩)) (h3 : tmps.getD 3 undef = .pointer (some ⟨eb, 0, none⟩)) (ht : B3 w tb v0 v1 v2) (he : w.heap[eb]? = some (.cells #[ev] 30 (0, 0))) :
    (results Tryd.f16 tmps).run Tryd.prog w = .ok (.tuple #[.agg #[v0, v1, v2], ev]) w := by
  have h24 : (Tryd.prog.info? 24).map (fun i => i.size) = some (#[v0, v1, v2] : Array Value).size := by kernel_rfl
  have hl := run_loadVar_row (P := Tryd.prog) w tb 24 24 #[v0, v1, v2] (0, 0) _ ht Tryd.underlying24 rfl h24
  have h2' : tmps[2]?.getD undef = .pointer (some ⟨tb, 0, none⟩) := by simpa using h2
  have h3' : tmps[3]?.getD undef = .pointer (some ⟨eb, 0, none⟩) := by simpa using h3
  have hc := Joins.cell_of_block he 0
  simp at hc
  have hl2 : (loadVar 30 ⟨eb, 0, none⟩).run Tryd.prog w = .ok ev w := by simp [loadVar, isAgg, underlying, Tryd.underlying30, hc, Result.andThen]
  simp [results, Tryd.results16, h2', h3', asAddr, hl, hl2, Result.andThen]
/-- what comes of nothing -/
abbrev noR (code : Int) : Ending := .returned (.tuple #[.agg #[nilS, zI, zI], .int .i64 code])
set_option maxHeartbeats 2000000 in
theorem read16_long {w : World} {t : ByteArray} (h : 8388608 < t.size) : Calls Tryd.prog 16 #[.string t] w fun e w' => e = noR 2 ∧ Below w.heap.size w w' := by
  have hb : decide (8388608 < (t.size : Int)) = true := by simp; omega
  have hb2 : (8388608 : Int) < (t.size : Int) := by omega
  go_enter_defers Tryd.func16, Tryd.ntmps16
  go_wp2
  refine ⟨_, res16 _ _ w.heap.size (w.heap.size + 1) nilS zI zI (.int .i64 2) rfl rfl ?_ ?_, rfl, ?_⟩
  · exact (heap_alloc_old _ _ (by simp)).trans (heap_alloc_new w _)
  · have := heap_alloc_new (w.alloc (.cells #[nilS, zI, zI] 24)) (.cells #[.int .i64 2] 30)
    simpa using this
  · exact Joins.below_alloc2 w _ _
/-- what is read is no program -/
theorem read16_gave {w : World} {t : ByteArray} (h : ¬ 8388608 < t.size) (HR : ∀ W, Below w.heap.size w W → Calls Tryd.prog 32 #[.string t] W fun e w' => e = Broke ∧ Below W.heap.size W w') :
    Calls Tryd.prog 16 #[.string t] w fun e w' => e = noR 100 ∧ Below w.heap.size w w' := by
  have hb : decide (8388608 < (t.size : Int)) = false := by simp; omega
  have hb2 : ¬ (8388608 : Int) < (t.size : Int) := by omega
  have hmf : ∀ (fn : Fn) (first cap : Array Value) (w : World), (Instr.makeFunc fn first cap).run Tryd.prog w = .ok (.func fn first cap) w := fun _ _ _ _ => rfl
  have B0 : Below w.heap.size w ((w.alloc (.cells #[nilS, zI, zI] 24)).alloc (.cells #[zI] 30)) := Joins.below_alloc2 w _ _
  have C1 := HR _ B0
  go_enter_defers Tryd.func16, Tryd.ntmps16
  go_wp2_with (go_at_call 32; (with_reducible refine C1.mono ?_); rintro e w2 ⟨rfl, B2⟩)
  have htb : B3 w2 w.heap.size nilS zI zI := (B2.block _ (by simp; omega)).trans ((heap_alloc_old _ _ (by simp)).trans (heap_alloc_new w _))
  have heb : w2.heap[w.heap.size + 1]? = some (.cells #[zI] 30 (0, 0)) := (B2.block _ (by simp)).trans (by have := heap_alloc_new (w.alloc (.cells #[nilS, zI, zI] 24)) (.cells #[zI] 30); simpa using this)
  have BB : Below w.heap.size w w2 := B0.trans (Joins.below_le B2 (by simp; omega))
  refine leaves_cons (f := 30) (args := #[.pointer (some ⟨w.heap.size, 0, none⟩), .pointer (some ⟨w.heap.size + 1, 0, none⟩)]) (by simp) (by simp [go_sem]) ?_
  refine (defer30_gave w.heap.size (w.heap.size + 1) nilS zI zI zI [] w2 htb heb (by omega)).mono ?_
  rintro e u' w3 ⟨rfl, rfl, h1, h2, F3⟩
  refine ⟨_, res16 _ _ w.heap.size (w.heap.size + 1) nilS zI zI _ rfl rfl h1 h2, rfl, ⟨F3.os.trans BB.os, F3.tape.trans BB.tape, F3.output.trans BB.output, Nat.le_trans BB.size F3.size, fun j hj => ?_⟩⟩
  have := BB.size
  exact (F3.block j (by omega) (by omega) (by omega)).trans (BB.block j hj)
set_option maxHeartbeats 4000000 in
/-- what is read is a program -/
theorem read16_fine {w : World} {Q0 : List In → Int → Int → Prop} {t : ByteArray} (h : ¬ 8388608 < t.size) (HR : ∀ W, Below w.heap.size w W → w.heap.size + 2 ≤ W.heap.size → Calls Tryd.prog 32 #[.string t] W fun e w' => ∃ a c s k J MS, e = .returned (pv a J.length c s k) ∧ Below W.heap.size W w' ∧ PO w' W.heap.size (.slice a J.length c) J MS ∧ Q0 J s k) :
    Calls Tryd.prog 16 #[.string t] w fun e w' => ∃ a c s k J MS, e = .returned (.tuple #[pv a J.length c s k, zI]) ∧ Below w.heap.size w w' ∧ PO w' w.heap.size (.slice a J.length c) J MS ∧ Q0 J s k := by
  have hb : decide (8388608 < (t.size : Int)) = false := by simp; omega
  have hb2 : ¬ (8388608 : Int) < (t.size : Int) := by omega
  have hmf : ∀ (fn : Fn) (first cap : Array Value) (w : World), (Instr.makeFunc fn first cap).run Tryd.prog w = .ok (.func fn first cap) w := fun _ _ _ _ => rfl
  have B0 : Below w.heap.size w ((w.alloc (.cells #[nilS, zI, zI] 24)).alloc (.cells #[zI] 30)) := Joins.below_alloc2 w _ _
  have C1 := HR _ B0 (by simp)
  go_enter_defers Tryd.func16, Tryd.ntmps16
  go_wp2_with (go_at_call 32; (with_reducible refine C1.mono ?_); rintro e w2 ⟨a, c, s, k, J, MS, rfl, B2, hpo, hq⟩; have htb : B3 w2 w.heap.size nilS zI zI := (B2.block _ (by simp; omega)).trans ((heap_alloc_old _ _ (by simp)).trans (heap_alloc_new w _)); have heb : w2.heap[w.heap.size + 1]? = some (.cells #[zI] 30 (0, 0)) := (B2.block _ (by simp)).trans (by have := heap_alloc_new (w.alloc (.cells #[nilS, zI, zI] 24)) (.cells #[zI] 30); simpa using this); have BB : Below w.heap.size w w2 := B0.trans (Joins.below_le B2 (by simp; omega)); obtain ⟨q0, q1, q2⟩ := three_cells htb; obtain ⟨f0, f1, f2⟩ := frz3 htb; have k0 : w2.cell? ⟨w.heap.size + 1, 0, none⟩ = some (.int .i64 0) := Joins.cell_of_block heb 0; have g0 := Joins.unfrozen_of_block heb 0)
  refine leaves_cons (f := 30) (args := #[.pointer (some ⟨w.heap.size, 0, none⟩), .pointer (some ⟨w.heap.size + 1, 0, none⟩)]) (by simp) (by simp [go_sem]) ?_
  have G3 := fr2_of (V := .int .i64 0) B2 htb heb (by omega) (.slice a J.length c) (.int .i64 s) (.int .i64 k)
  refine (defer30_idle w.heap.size (w.heap.size + 1) _).mono ?_
  rintro e u' w3 ⟨rfl, rfl, rfl⟩
  refine ⟨_, res16 _ _ w.heap.size (w.heap.size + 1) _ _ _ _ rfl rfl G3.1 G3.2.1, a, c, s, k, J, MS, rfl, ?_, ?_, hq⟩
  · have F := G3.2.2
    refine ⟨F.os.trans B0.os, F.tape.trans B0.tape, F.output.trans B0.output, Nat.le_trans B0.size F.size, fun j hj => ?_⟩
    exact (F.block j (by have := B0.size; omega) (by omega) (by omega)).trans (B0.block j hj)
  · refine (hpo.kept (fun b h1 h2 => ?_)).wide (by simp; omega)
    simp at h1
    exact (Below.heap_setCell _ _ _ _ (show b ≠ w.heap.size + 1 by omega)).trans (set3_old (by omega) _ _ _)
/-- what Read answers -/
def ReadAns (s : ByteArray) (w : World) (e : Ending) (w' : World) : Prop := Below w.heap.size w w' ∧
  ((8388608 < s.size ∧ e = noR 2) ∨ (s.size ≤ 8388608 ∧ readP 5000 20000 (wordsL (bs s)) = none ∧ e = noR 100) ∨ (s.size ≤ 8388608 ∧ ∃ J st k a c MS, readP 5000 20000 (wordsL (bs s)) = some (J, st, k) ∧ e = .returned (.tuple #[pv a J.length c st k, zI]) ∧ PO w' w.heap.size (.slice a J.length c) J MS))
theorem read16 {w : World} {s : ByteArray} (hG : G8 w) (h0 : 0 < w.heap.size) : Calls Tryd.prog 16 #[.string s] w (ReadAns s w) := by
  by_cases h8 : 8388608 < s.size
  · refine (read16_long (t := s) h8).mono ?_
    rintro e w' ⟨rfl, hb⟩
    exact ⟨hb, .inl ⟨h8, rfl⟩⟩
  · have C32 : ∀ W, Below w.heap.size w W → _ := fun W hW => ofText32 (w := W) (s := s) (fun i hi => (cell_eq (hW.block 0 h0) i).trans (hG i hi)) (Nat.lt_of_lt_of_le h0 hW.size) (by omega)
    cases hl : readP 5000 20000 (wordsL (bs s)) with
    | none =>
      refine (read16_gave (t := s) h8 (fun W hW => (C32 W hW).mono ?_)).mono ?_
      · rintro e w' ⟨hb, ⟨_, rfl⟩ | ⟨J, st, k, a, c, MS, h2, _⟩⟩
        · exact ⟨rfl, hb⟩
        · rw [hl] at h2; cases h2
      · rintro e w' ⟨rfl, hb⟩
        exact ⟨hb, .inr (.inl ⟨by omega, hl, rfl⟩)⟩
    | some p =>
      obtain ⟨J0, s0, k0⟩ := p
      refine (read16_fine (t := s) (Q0 := fun J st k => readP 5000 20000 (wordsL (bs s)) = some (J, st, k)) h8 (fun W hW _ => (C32 W hW).mono ?_)).mono ?_
      · rintro e w' ⟨hb, ⟨h2, _⟩ | ⟨J, st, k, a, c, MS, h2, rfl, hpo⟩⟩
        · rw [hl] at h2; cases h2
        · exact ⟨a, c, st, k, J, MS, rfl, hb, hpo, h2⟩
      · rintro e w' ⟨a, c, st, k, J, MS, rfl, hb, hpo, hq⟩
        refine ⟨hb, .inr (.inr ⟨by omega, J, st, k, a, c, MS, ?_, rfl, hpo⟩)⟩
        exact hl ▸ hq
end Go.Proofs.YteanndophopplaaDoor
