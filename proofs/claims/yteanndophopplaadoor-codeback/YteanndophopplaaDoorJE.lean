/- HELPERS: THE DOCUMENT'S Read OF ANY TEXT. -/
import Derived.Test.YteanndophopplaaDoorJC
import Derived.Test.YteanndophopplaaDoorHI
import Derived.Test.YteanndophopplaaDoorIR
import Derived.Test.YteanndophopplaaDoorCF
import Derived.Deep.LoopGhost
/- HELPERS: the document's reader of words is a reader; what its Read reads. -/
namespace Go.Proofs.YteanndophopplaaDoor
open Go.RowKit
set_option linter.unusedVariables false
set_option linter.unusedSimpArgs false
/-- the document's reader of the words L -/
def SW (B rb : Nat) (L : List ByteArray) (a : Option Addr) (c : Nat) (w : World) (m : Option (List (List Nat))) : Prop :=
  ∃ p bd, DW B rb w L a c p bd ∧ ((m = none ∧ bd = true) ∨ (m = some ((L.map bs).drop p) ∧ bd = false))
theorem SW.cases {B rb : Nat} {L : List ByteArray} {a : Option Addr} {c : Nat} {w : World} {m : Option (List (List Nat))} (h : SW B rb L a c w m) : (m = none ∧ ∃ p, DW B rb w L a c p true) ∨ (∃ p, m = some ((L.map bs).drop p) ∧ DW B rb w L a c p false) := by
  obtain ⟨p, bd, hD, ⟨h1, rfl⟩ | ⟨h1, rfl⟩⟩ := h
  · exact .inl ⟨h1, p, hD⟩
  · exact .inr ⟨p, h1, hD⟩
theorem SW.no {B rb : Nat} {L : List ByteArray} {a : Option Addr} {c : Nat} {w : World} {p : Nat} (h : DW B rb w L a c p true) : SW B rb L a c w none := ⟨p, true, h, .inl ⟨rfl, rfl⟩⟩
theorem SW.yes {B rb : Nat} {L : List ByteArray} {a : Option Addr} {c : Nat} {w : World} {p : Nat} (h : DW B rb w L a c p false) : SW B rb L a c w (some ((L.map bs).drop p)) := ⟨p, false, h, .inr ⟨rfl, rfl⟩⟩
theorem drop_cons {L : List ByteArray} {p : Nat} (hp : p < L.length) : (L.map bs).drop p = bs L[p] :: (L.map bs).drop (p + 1) := by
  rw [List.drop_eq_getElem_cons (by rw [List.length_map]; exact hp), List.getElem_map]
theorem drop_end {L : List ByteArray} {p : Nat} (hp : L.length ≤ p) : (L.map bs).drop p = [] := List.drop_eq_nil_of_le (by rw [List.length_map]; exact hp)
theorem getW_cons (x : List Nat) (r : List (List Nat)) : wordD.get (x :: r) = (numW x).map fun n => (n, r) := rfl
theorem getopW_cons (x : List Nat) (r : List (List Nat)) : wordD.getop (x :: r) = if opOfW x = 0 then none else some (opOfW x, r) := rfl
theorem opOf_le (w : List Nat) : opOfW w ≤ 7 := by
  unfold opOfW
  repeat' split
  all_goals omega
theorem drd_w {B rb : Nat} {L : List ByteArray} {a : Option Addr} {c : Nat} (hB : B ≤ rb) : DRd wordD true B rb (SW B rb L a c) where
  low := hB
  box := fun w m h => by
    obtain ⟨p, bd, hD, hm⟩ := h
    refine ⟨?_, Joins.unfrozen_of_block hD.box 3, (Array.getElem?_eq_some_iff.1 hD.box).1⟩
    rw [(four_cells hD.box).2.2.2]
    rcases hm with ⟨rfl, rfl⟩ | ⟨rfl, rfl⟩ <;> rfl
  kept := fun w w' m h h1 h2 => by
    obtain ⟨p, bd, hD, hm⟩ := h
    exact ⟨p, bd, hD.kept h1 h2, hm⟩
  stop := fun w m h => by
    obtain ⟨p, bd, hD, hm⟩ := h
    exact SW.no (hD.setB true)
  small := fun w m h => by
    rcases h.cases with ⟨h1, _⟩ | ⟨p, h1, hD⟩
    · cases h1
    · have h2 := Option.some.inj h1
      have := hD.sm
      rw [h2, List.length_drop, List.length_map]; omega
  next := fun w m h => by
    rcases h.cases with ⟨rfl, p, hD⟩ | ⟨p, rfl, hD⟩
    · refine (next34w_bad hD).mono ?_
      rintro e w' ⟨rfl, rfl⟩
      exact ⟨0, none, rfl, by omega, Mo.refl _ _, SW.no hD, .inl ⟨rfl, rfl⟩⟩
    · by_cases hp : p < L.length
      · refine (next34w_ok hD hp).mono ?_
        rintro e w' ⟨rfl, hM, hD'⟩
        cases hn : numW (bs L[p]) with
        | none =>
          have e1 : numI (bs L[p]) = -1 := by unfold numI; rw [hn]
          rw [e1] at hD' ⊢
          refine ⟨0, none, rfl, by omega, hM, SW.no hD', .inl ⟨?_, rfl⟩⟩
          rw [drop_cons hp]
          show wordD.get _ = _
          rw [getW_cons, hn]; rfl
        | some n =>
          have e1 : numI (bs L[p]) = (n : Int) := by unfold numI; rw [hn]
          have hle := (dec_num hn).2
          rw [e1] at hD' ⊢
          rw [show decide ((n : Int) < 0) = false by simp] at hD'
          refine ⟨n, some ((L.map bs).drop (p + 1)), by rw [Int.max_eq_left (by omega)], by omega, hM, SW.yes hD', .inr ⟨_, ?_, rfl⟩⟩
          rw [drop_cons hp]
          show wordD.get _ = _
          rw [getW_cons, hn]; rfl
      · refine (next34w_end hD (by omega)).mono ?_
        rintro e w' ⟨rfl, hM, hD'⟩
        refine ⟨0, none, rfl, by omega, hM, SW.no hD', .inl ⟨?_, rfl⟩⟩
        rw [drop_end (by omega)]
        rfl
  op := fun w m h => by
    rcases h.cases with ⟨rfl, p, hD⟩ | ⟨p, rfl, hD⟩
    · refine (op44w_bad hD).mono ?_
      rintro e w' ⟨rfl, rfl⟩
      exact ⟨0, none, rfl, by omega, Mo.refl _ _, SW.no hD, .inl ⟨rfl, rfl, rfl⟩⟩
    · by_cases hp : p < L.length
      · refine (op44w_ok hD hp).mono ?_
        rintro e w' ⟨rfl, hM, ⟨h0, hD'⟩ | ⟨h0, hD'⟩⟩
        · refine ⟨_, some ((L.map bs).drop p), rfl, by omega, hM, SW.yes hD', .inl ⟨?_, h0, rfl⟩⟩
          rw [drop_cons hp]
          show wordD.getop _ = _
          rw [getopW_cons, if_pos h0]
        · refine ⟨_, some ((L.map bs).drop (p + 1)), rfl, by have := opOf_le (bs L[p]); omega, hM, SW.yes hD', .inr ⟨_, ?_, rfl⟩⟩
          rw [drop_cons hp]
          show wordD.getop _ = _
          rw [getopW_cons, if_neg h0]
      · refine (op44w_end hD (by omega)).mono ?_
        rintro e w' ⟨rfl, hM, hD'⟩
        refine ⟨0, _, rfl, by omega, hM, SW.yes hD', .inl ⟨?_, rfl, rfl⟩⟩
        rw [drop_end (by omega)]
        rfl
  eats := fun m n u h => by
    cases m with
    | nil => cases h
    | cons x r =>
      rw [getW_cons] at h
      cases hn : numW x with
      | none => rw [hn] at h; cases h
      | some k => rw [hn] at h; have := Option.some.inj h; simp only [Prod.mk.injEq] at this; rw [← this.2]; simp
  eatsop := fun m n u h => by
    cases m with
    | nil => cases h
    | cons x r =>
      rw [getopW_cons] at h
      by_cases h0 : opOfW x = 0
      · rw [if_pos h0] at h; cases h
      · rw [if_neg h0] at h; have := Option.some.inj h; simp only [Prod.mk.injEq] at this; rw [← this.2]; simp
abbrev LL : Nat := 999999999
theorem getI_W (l : List (List Nat)) : getI wordC LL l = getD' wordD l := (getI_doc wordC (L := LL) (Nat.le_refl _) l).trans (getD_D l).symm
theorem rest_instW {l : List (List Nat)} {I : In} {m' : Option (List (List Nat))} (h : IX wordD (some l) I m') : rest m' + 1 ≤ rest (some l) := by
  rcases h with ⟨_, rfl⟩ | ⟨u, h, rfl⟩
  · simp [rest]
  · have e := getI_sound wordC ((getI_W l).trans h)
    have : l.length = (wordC.inst I ++ u).length := congrArg List.length e
    simp only [rest]
    rw [this, List.length_append]
    have : 1 ≤ (wordC.inst I).length := by show 1 ≤ ([_] ++ _).length; simp
    omega
/-- the instructions that were read so far, and those to come -/
def AO (M : Nat) (l0 : List (List Nat)) (J : List In) (m : Option (List (List Nat))) : Prop :=
  (m = none ∧ getA wordC LL M l0 = none) ∨ ∃ l n, m = some l ∧ l.length ≤ n ∧ getA wordC LL M l0 = (getA wordC LL n l).map (J ++ ·)
theorem AO.start {M : Nat} {l0 : List (List Nat)} (h : l0.length ≤ M) : AO M l0 [] (some l0) := by
  refine .inr ⟨l0, M, rfl, h, ?_⟩
  cases getA wordC LL M l0 <;> simp
theorem AO.step {M : Nat} {l0 l : List (List Nat)} {J : List In} {I : In} {m' : Option (List (List Nat))} (h : AO M l0 J (some l)) (hl : l ≠ []) (hx : IX wordD (some l) I m') : AO M l0 (J ++ [I]) m' := by
  rcases h with ⟨h, _⟩ | ⟨l', n, h1, h2, h3⟩
  · cases h
  obtain rfl := Option.some.inj h1
  cases l with
  | nil => exact absurd rfl hl
  | cons x r =>
    obtain ⟨n', rfl⟩ : ∃ n', n = n' + 1 := ⟨n - 1, by simp at h2; omega⟩
    have hr := rest_instW hx
    rcases hx with ⟨hx, rfl⟩ | ⟨u, hx, rfl⟩
    · left
      refine ⟨rfl, ?_⟩
      have e : getI wordC LL (x :: r) = none := (getI_W _).trans hx
      rw [h3, getA, e]
      rfl
    · right
      have e : getI wordC LL (x :: r) = some (I, u) := (getI_W _).trans hx
      refine ⟨u, n', rfl, by simp [rest] at hr; simp at h2; omega, ?_⟩
      rw [h3, getA, e]
      simp only
      cases getA wordC LL n' u with
      | none => rfl
      | some K => simp
theorem AO.done {M : Nat} {l0 : List (List Nat)} {J : List In} (h : AO M l0 J (some [])) : getA wordC LL M l0 = some J := by
  rcases h with ⟨h, _⟩ | ⟨l', n, h1, h2, h3⟩
  · cases h
  obtain rfl := Option.some.inj h1
  rw [h3, getA_nil]
  simp
theorem AO.none {M : Nat} {l0 : List (List Nat)} {J : List In} (h : AO M l0 J Option.none) : getA wordC LL M l0 = Option.none := by
  rcases h with ⟨_, h⟩ | ⟨l', n, h1, _⟩
  · exact h
  · cases h1
theorem may_neg_s {J : List In} {k : Int} : mayB J (-1) k = false := by
  cases h : mayB J (-1) k with
  | false => rfl
  | true => have := (may_fit h).2.1; omega
theorem may_neg_k {J : List In} {s : Int} : mayB J s (-1) = false := by
  cases h : mayB J s (-1) with
  | false => rfl
  | true => have := (may_fit h).2.2.2.1; omega
theorem readP_none {M : Nat} {kw sw : List Nat} {l : List (List Nat)} (h : getA wordC LL M l = none) : readP LL M (capsW :: kw :: startW :: sw :: l) = none := by
  unfold readP
  simp only
  rw [if_pos ⟨trivial, trivial⟩]
  cases numW kw with
  | none => rfl
  | some k =>
    cases numW sw with
    | none => rfl
    | some s => simp only; rw [h]
theorem readP_some {M : Nat} {kw sw : List Nat} {l : List (List Nat)} {J : List In} (h : getA wordC LL M l = some J) : readP LL M (capsW :: kw :: startW :: sw :: l) = if mayB J (numI sw) (numI kw) = true then some (J, numI sw, numI kw) else none := by
  unfold readP numI
  simp only
  rw [if_pos ⟨trivial, trivial⟩]
  cases numW kw with
  | none => rw [may_neg_k]; rfl
  | some k =>
    cases numW sw with
    | none => rw [may_neg_s]; rfl
    | some s => simp only; rw [h]
/-- the walk of the document's Read: the boxes -/
structure LXw (w V : World) (rb pb : Nat) (L : List ByteArray) (a : Option Addr) (c : Nat) (m : Option (List (List Nat))) (v0 v1 v2 : Value) : Prop where
  er : w.heap.size < rb
  ep : pb = rb + 1
  res : B3 V w.heap.size nilS zI zI
  p : B3 V pb v0 v1 v2
  st : SW rb rb L a c V m
  be : Below w.heap.size w V
theorem LXw.lt {w V : World} {rb pb : Nat} {L : List ByteArray} {a : Option Addr} {c : Nat} {m : Option (List (List Nat))} {v0 v1 v2 : Value} (h : LXw w V rb pb L a c m v0 v1 v2) : pb < V.heap.size := (Array.getElem?_eq_some_iff.1 h.p).1
theorem LXw.mo {w V V' : World} {rb pb : Nat} {L : List ByteArray} {a : Option Addr} {c : Nat} {m m' : Option (List (List Nat))} {v0 v1 v2 : Value} (h : LXw w V rb pb L a c m v0 v1 v2) (hm : Mo V V' rb) (hs : SW rb rb L a c V' m') : LXw w V' rb pb L a c m' v0 v1 v2 := by
  have := h.lt
  have := h.er
  have := h.ep
  exact ⟨h.er, h.ep, (hm.block _ (by omega) (by omega)).trans h.res, (hm.block _ (by omega) (by omega)).trans h.p, hs, h.be.trans (hm.below (by omega) (by omega))⟩
theorem LXw.set0 {w V : World} {rb pb : Nat} {L : List ByteArray} {a : Option Addr} {c : Nat} {m : Option (List (List Nat))} {v0 v1 v2 : Value} (h : LXw w V rb pb L a c m v0 v1 v2) (v : Value) : LXw w (V.setCell ⟨pb, 0, none⟩ v) rb pb L a c m v v1 v2 := by
  have e1 := h.er
  have e2 := h.ep
  exact ⟨h.er, h.ep, (Below.heap_setCell _ _ _ _ (show w.heap.size ≠ pb by omega)).trans h.res, Joins.block_setCell h.p v, (drd_w (Nat.le_refl _)).kept _ _ _ h.st (Below.heap_setCell _ _ _ _ (show rb ≠ pb by omega)) (fun b hb => Below.heap_setCell _ _ _ _ (show b ≠ pb by omega)), h.be.setCell (by show w.heap.size ≤ pb; omega) v⟩
theorem LXw.old {w V V' : World} {rb pb : Nat} {L : List ByteArray} {a : Option Addr} {c : Nat} {m : Option (List (List Nat))} {v0 v1 v2 : Value} (h : LXw w V rb pb L a c m v0 v1 v2) (hk : ∀ b, b < pb + 1 → V'.heap[b]? = V.heap[b]?) (hb : Below w.heap.size w V') : LXw w V' rb pb L a c m v0 v1 v2 := by
  have e1 := h.er
  have e2 := h.ep
  exact ⟨h.er, h.ep, (hk _ (by omega)).trans h.res, (hk _ (by omega)).trans h.p, (drd_w (Nat.le_refl _)).kept _ _ _ h.st (hk _ (by omega)) (fun b hb => hk b (by omega)), hb⟩
theorem res15 (tmps : Array Value) (w : World) (tb : Nat) (v0 v1 v2 ev : Value) (h2 : tmps.getD 2 undef = .pointer (some ⟨tb, 0, none⟩)) (h3 : tmps.getD 3 undef = ev) (ht : B3 w tb v0 v1 v2) :
    (results Tryd.f15 tmps).run Tryd.prog w = .ok (.tuple #[.agg #[v0, v1, v2], ev]) w := by
  have h24 : (Tryd.prog.info? 24).map (fun i => i.size) = some (#[v0, v1, v2] : Array Value).size := by kernel_rfl
  have hl := run_loadVar_row (P := Tryd.prog) w tb 24 24 #[v0, v1, v2] (0, 0) _ ht Tryd.underlying24 rfl h24
  have h2' : tmps[2]?.getD undef = .pointer (some ⟨tb, 0, none⟩) := by simpa using h2
  have h3' : tmps[3]?.getD undef = ev := by simpa using h3
  simp [results, Tryd.results15, h2', h3', asAddr, hl, Result.andThen]
end Go.Proofs.YteanndophopplaaDoor
/- HELPERS: the document's Read: what is no text of a program at once. -/
namespace Go.Proofs.YteanndophopplaaDoor
open Go.RowKit
set_option linter.unusedVariables false
set_option linter.unusedSimpArgs false
set_option maxRecDepth 100000 in
set_option maxHeartbeats 4000000 in
theorem read15_long {w : World} {s : ByteArray} (h : 8388608 < s.size) : Calls Tryd.prog 15 #[.string s] w fun e w' => e = noR 2 ∧ Below w.heap.size w w' := by
  have b1 : decide ((s.size : Int) > 8388608) = true := by simp; omega
  have b2 : (8388608 : Int) < (s.size : Int) := by omega
  have hX : B3 (w.alloc (.cells #[nilS, zI, zI] 24)) w.heap.size nilS zI zI := heap_alloc_new w _
  obtain ⟨c0, c1, c2⟩ := three_cells hX
  obtain ⟨f0, f1, f2⟩ := frz3 hX
  have HX := hid hX
  clear hX
  go_enter Tryd.func15, Tryd.ntmps15
  go_wp2
  refine bodyPost_ret (res15 _ _ w.heap.size nilS zI zI (.int .i64 2) rfl rfl HX.out) rfl ?_
  exact ⟨rfl, Joins.below_alloc1 w _⟩
/-- the row of words, and the reader's box above it -/
structure WBx (w W : World) (rb : Nat) (L : List ByteArray) (a : Option Addr) (c : Nat) : Prop where
  er : w.heap.size < rb
  sz : W.heap.size = rb + 1
  res : B3 W w.heap.size nilS zI zI
  dw : DW rb rb W L a c 0 false
  be : Below w.heap.size w W
theorem WBx.mk' {w W1 W2 : World} {s : ByteArray} {y : Value} (h1 : W1 = w.alloc (.cells #[nilS, zI, zI] 24)) (h : WRow W1 W2 s y) (hs : s.size ≤ 8388608) : ∃ (L : List ByteArray) (a : Option Addr) (c : Nat), y = .slice a L.length c ∧ L.map bs = wordsL (bs s) ∧ L.length ≤ 8388608 ∧ WBx w (W2.alloc (.cells #[.slice a L.length c, nilS, zI, .bool false] 56)) W2.heap.size L a c := by
  obtain ⟨hB, L, hO, hL, hS, hW⟩ := h
  obtain ⟨a, c, rfl, _, _⟩ := row_shape hO
  have hs1 : W1.heap.size = w.heap.size + 1 := by rw [h1]; simp
  have hsz := hB.size
  have hb1 : Below w.heap.size w W1 := by rw [h1]; exact Joins.below_alloc1 w _
  refine ⟨L, a, c, rfl, hW, by omega, by omega, by simp, ?_, ?_, (hb1.trans (Joins.below_le hB (by omega))).alloc (by omega) _⟩
  · refine (heap_alloc_old _ _ (by omega)).trans ((hB.block _ (by omega)).trans ?_)
    rw [h1]; exact heap_alloc_new w _
  · refine ⟨heap_alloc_new W2 _, ?_, Nat.le_refl _, by omega, by omega, hS⟩
    rcases hO.2 with ⟨_, h0⟩ | ⟨g, cap, cur, e, _⟩
    · left; exact List.length_eq_zero_iff.1 h0
    · right
      simp only [Value.slice.injEq] at e
      obtain ⟨rfl, _, rfl⟩ := e
      refine ⟨g, 0, rfl, (hO.lt g rfl).2, fun k hk => ?_⟩
      have e1 := hO.cellAt k (by omega)
      rw [Nat.zero_add]
      refine (cell_eq (heap_alloc_old W2 _ (hO.lt g rfl).2) k).trans (e1.trans ?_)
      simp [S1, List.getElem?_eq_getElem hk]
theorem WBx.cell {w W : World} {rb : Nat} {L : List ByteArray} {a : Option Addr} {c : Nat} (h : WBx w W rb L a c) {k : Nat} (hk : k < L.length) : ∃ g o, a = some ⟨g, o, none⟩ ∧ g < rb ∧ W.cell? ⟨g, o + k, none⟩ = some (.string L[k]) := by
  rcases h.dw.bw with e | ⟨g, o, e, hg, hc⟩
  · subst e; simp at hk
  · exact ⟨g, o, e, hg, hc k hk⟩
set_option maxRecDepth 100000 in
set_option maxHeartbeats 4000000 in
theorem read15_short {w : World} {s : ByteArray} (h : s.size ≤ 8388608) (h4 : (wordsL (bs s)).length < 4) : Calls Tryd.prog 15 #[.string s] w fun e w' => e = noR 100 ∧ Below w.heap.size w w' := by
  have b1 : decide ((s.size : Int) > 8388608) = false := by simp; omega
  have b2 : ¬ (8388608 : Int) < (s.size : Int) := by omega
  obtain ⟨V, hV⟩ : ∃ V, V = w.alloc (.cells #[nilS, zI, zI] 24) := ⟨_, rfl⟩
  have C26 := words26 s V h
  have HV := hid hV
  have H4 := hid h4
  clear hV h4
  go_enter Tryd.func15, Tryd.ntmps15
  go_upto_region 1 with fail
  rw [← HV.out]
  go_upto_region 4 with (go_at_call 26; (with_reducible refine C26.mono ?_); rintro e w2 ⟨y, rfl, hR⟩; obtain ⟨L, a, c, rfl, hLW, hLs, hWB⟩ := WBx.mk' HV.out hR h; have HLW := hid hLW; have HWB := hid hWB; clear hLW hWB hR C26)
  obtain ⟨W, hW⟩ : ∃ W, W = w2.alloc (.cells #[.slice a L.length c, nilS, zI, .bool false] 56) := ⟨_, rfl⟩
  have HB : Hid (WBx w W w2.heap.size L a c) := by rw [hW]; exact HWB.out
  rw [← hW]
  clear hW HWB
  obtain ⟨k0, k1, k2, k3⟩ := four_cells HB.out.dw.box
  obtain ⟨r0, r1, r2⟩ := three_cells HB.out.res
  obtain ⟨f0, f1, f2⟩ := frz3 HB.out.res
  have hL4 : L.length < 4 := by have := congrArg List.length HLW.out; rw [List.length_map] at this; have := H4.out; omega
  have b3 : decide ((L.length : Int) < 4) = true := by simp; omega
  have b4 : (L.length : Int) < 4 := by omega
  go_wp2
  all_goals
    refine bodyPost_ret (res15 _ _ w.heap.size nilS zI zI (.int .i64 100) rfl rfl (all3 HB.out.res _ _ _)) rfl ?_
    exact ⟨rfl, ((HB.out.be.setCell (Nat.le_refl _) _).setCell (Nat.le_refl _) _).setCell (Nat.le_refl _) _⟩
theorem toList_bs {x : ByteArray} {l : List UInt8} : x.toList = l ↔ bs x = l.map UInt8.toNat := by
  rw [ByteArray.toList_eq]
  constructor
  · intro e; unfold bs; rw [e]
  · intro e
    unfold bs at e
    exact (List.map_inj_right (fun x y hxy => UInt8.toNat_inj.1 hxy)).1 e
theorem caps_is {x : ByteArray} : x.toList = [99, 97, 112, 115] ↔ bs x = capsW := toList_bs
theorem start_is {x : ByteArray} : x.toList = [115, 116, 97, 114, 116] ↔ bs x = startW := toList_bs
set_option maxRecDepth 100000 in
set_option maxHeartbeats 4000000 in
theorem read15_caps {w : World} {s : ByteArray} (h : s.size ≤ 8388608) (h4 : 4 ≤ (wordsL (bs s)).length) (hne : (wordsL (bs s))[0] ≠ capsW) : Calls Tryd.prog 15 #[.string s] w fun e w' => e = noR 100 ∧ Below w.heap.size w w' := by
  have b1 : decide ((s.size : Int) > 8388608) = false := by simp; omega
  have b2 : ¬ (8388608 : Int) < (s.size : Int) := by omega
  obtain ⟨V, hV⟩ : ∃ V, V = w.alloc (.cells #[nilS, zI, zI] 24) := ⟨_, rfl⟩
  have C26 := words26 s V h
  have HV := hid hV
  have H4 := hid h4
  have HNE : Hid ((wordsL (bs s))[0]? ≠ some capsW) := by
    show _ ≠ _
    rw [List.getElem?_eq_getElem (by omega)]
    intro e
    exact hne (Option.some.inj e)
  clear hV hne h4
  go_enter Tryd.func15, Tryd.ntmps15
  go_upto_region 1 with fail
  rw [← HV.out]
  go_upto_region 4 with (go_at_call 26; (with_reducible refine C26.mono ?_); rintro e w2 ⟨y, rfl, hR⟩; obtain ⟨L, a, c, rfl, hLW, hLs, hWB⟩ := WBx.mk' HV.out hR h; have HLW := hid hLW; have HWB := hid hWB; clear hLW hWB hR C26)
  obtain ⟨W, hW⟩ : ∃ W, W = w2.alloc (.cells #[.slice a L.length c, nilS, zI, .bool false] 56) := ⟨_, rfl⟩
  have HB : Hid (WBx w W w2.heap.size L a c) := by rw [hW]; exact HWB.out
  rw [← hW]
  clear hW HWB
  obtain ⟨k0, k1, k2, k3⟩ := four_cells HB.out.dw.box
  obtain ⟨r0, r1, r2⟩ := three_cells HB.out.res
  obtain ⟨f0, f1, f2⟩ := frz3 HB.out.res
  have hL4 : 4 ≤ L.length := by have := congrArg List.length HLW.out; rw [List.length_map] at this; have := H4.out; omega
  obtain ⟨g, o, rfl, hg, q0⟩ := HB.out.cell (k := 0) (by omega)
  obtain ⟨x0, hx0⟩ : ∃ x0, x0 = L[0] := ⟨_, rfl⟩
  rw [← hx0] at q0
  have hxn : bs x0 ≠ capsW := by
    have := HNE.out
    rw [← HLW.out, List.getElem?_map, List.getElem?_eq_getElem (by omega), ← hx0] at this
    exact fun e => this (by rw [← e]; rfl)
  have hq : ¬ x0.toList = [99, 97, 112, 115] := fun e => hxn (caps_is.1 e)
  have b3 : decide ((L.length : Int) < 4) = false := by simp; omega
  have b4 : ¬ (L.length : Int) < 4 := by omega
  have b5 : (0 : Int) < (L.length : Int) := by omega
  rw [Nat.add_zero] at q0
  clear hx0 hxn
  go_wp2
  all_goals
    refine bodyPost_ret (res15 _ _ w.heap.size nilS zI zI (.int .i64 100) rfl rfl (all3 HB.out.res _ _ _)) rfl ?_
    exact ⟨rfl, ((HB.out.be.setCell (Nat.le_refl _) _).setCell (Nat.le_refl _) _).setCell (Nat.le_refl _) _⟩
set_option maxRecDepth 100000 in
set_option maxHeartbeats 4000000 in
theorem read15_start {w : World} {s : ByteArray} (h : s.size ≤ 8388608) (h4 : 4 ≤ (wordsL (bs s)).length) (hc : (wordsL (bs s))[0] = capsW) (hne : (wordsL (bs s))[2] ≠ startW) : Calls Tryd.prog 15 #[.string s] w fun e w' => e = noR 100 ∧ Below w.heap.size w w' := by
  have b1 : decide ((s.size : Int) > 8388608) = false := by simp; omega
  have b2 : ¬ (8388608 : Int) < (s.size : Int) := by omega
  obtain ⟨V, hV⟩ : ∃ V, V = w.alloc (.cells #[nilS, zI, zI] 24) := ⟨_, rfl⟩
  have C26 := words26 s V h
  have HV := hid hV
  have H4 := hid h4
  have HCE : Hid ((wordsL (bs s))[0]? = some capsW) := by
    show _ = _
    rw [List.getElem?_eq_getElem (by omega), hc]
  have HNE : Hid ((wordsL (bs s))[2]? ≠ some startW) := by
    show _ ≠ _
    rw [List.getElem?_eq_getElem (by omega)]
    intro e
    exact hne (Option.some.inj e)
  clear hV hne hc h4
  go_enter Tryd.func15, Tryd.ntmps15
  go_upto_region 1 with fail
  rw [← HV.out]
  go_upto_region 4 with (go_at_call 26; (with_reducible refine C26.mono ?_); rintro e w2 ⟨y, rfl, hR⟩; obtain ⟨L, a, c, rfl, hLW, hLs, hWB⟩ := WBx.mk' HV.out hR h; have HLW := hid hLW; have HWB := hid hWB; clear hLW hWB hR C26)
  obtain ⟨W, hW⟩ : ∃ W, W = w2.alloc (.cells #[.slice a L.length c, nilS, zI, .bool false] 56) := ⟨_, rfl⟩
  have HB : Hid (WBx w W w2.heap.size L a c) := by rw [hW]; exact HWB.out
  rw [← hW]
  clear hW HWB
  obtain ⟨k0, k1, k2, k3⟩ := four_cells HB.out.dw.box
  obtain ⟨r0, r1, r2⟩ := three_cells HB.out.res
  obtain ⟨f0, f1, f2⟩ := frz3 HB.out.res
  have hL4 : 4 ≤ L.length := by have := congrArg List.length HLW.out; rw [List.length_map] at this; have := H4.out; omega
  obtain ⟨g, o, rfl, hg, q0⟩ := HB.out.cell (k := 0) (by omega)
  obtain ⟨g', o', e', _, q2⟩ := HB.out.cell (k := 2) (by omega)
  simp only [Option.some.injEq, Addr.mk.injEq, and_true] at e'
  obtain ⟨rfl, rfl⟩ := e'
  obtain ⟨x0, hx0⟩ : ∃ x0, x0 = L[0] := ⟨_, rfl⟩
  obtain ⟨x2, hx2⟩ : ∃ x2, x2 = L[2] := ⟨_, rfl⟩
  rw [← hx0] at q0
  rw [← hx2] at q2
  have hxy : bs x0 = capsW := by
    have := HCE.out
    rw [← HLW.out, List.getElem?_map, List.getElem?_eq_getElem (by omega), ← hx0] at this
    exact Option.some.inj this
  have hxn : bs x2 ≠ startW := by
    have := HNE.out
    rw [← HLW.out, List.getElem?_map, List.getElem?_eq_getElem (by omega), ← hx2] at this
    exact fun e => this (by rw [← e]; rfl)
  have hq : x0.toList = [99, 97, 112, 115] := caps_is.2 hxy
  have hq2 : ¬ x2.toList = [115, 116, 97, 114, 116] := fun e => hxn (start_is.1 e)
  have hq3 : (x2.toList == [115, 116, 97, 114, 116]) = false := by rw [beq_eq_false_iff_ne]; exact hq2
  have b6 : (2 : Int) < (L.length : Int) := by omega
  have b3 : decide ((L.length : Int) < 4) = false := by simp; omega
  have b4 : ¬ (L.length : Int) < 4 := by omega
  have b5 : (0 : Int) < (L.length : Int) := by omega
  rw [Nat.add_zero] at q0
  clear hx0 hx2 hxn hxy
  go_wp2
  all_goals
    refine bodyPost_ret (res15 _ _ w.heap.size nilS zI zI (.int .i64 100) rfl rfl (all3 HB.out.res _ _ _)) rfl ?_
    exact ⟨rfl, ((HB.out.be.setCell (Nat.le_refl _) _).setCell (Nat.le_refl _) _).setCell (Nat.le_refl _) _⟩
end Go.Proofs.YteanndophopplaaDoor
namespace Go.Proofs.YteanndophopplaaDoor
open Go.RowKit
set_option linter.unusedVariables false
set_option linter.unusedSimpArgs false
theorem frz_eq2 {w w' : World} {b : Nat} (h : w'.heap[b]? = w.heap[b]?) (i : Nat) : w'.frozen? ⟨b, i, none⟩ = w.frozen? ⟨b, i, none⟩ := frz_eq h i
theorem LXw.mk' {w W : World} {rb : Nat} {L : List ByteArray} {a : Option Addr} {c : Nat} (h : WBx w W rb L a c) (h4 : 4 ≤ L.length) (s k : Int) :
    LXw w ((W.setCell ⟨rb, 2, none⟩ (.int .i64 4)).alloc (.cells #[nilS, .int .i64 s, .int .i64 k] 24)) rb (rb + 1) L a c (some ((L.map bs).drop 4)) nilS (.int .i64 s) (.int .i64 k) := by
  have e1 := h.er
  have e2 := h.sz
  have hs : (W.setCell ⟨rb, 2, none⟩ (.int .i64 4)).heap.size = rb + 1 := by simp [World.setCell]; exact e2
  have p0 : B3 ((W.setCell ⟨rb, 2, none⟩ (.int .i64 4)).alloc (.cells #[nilS, .int .i64 s, .int .i64 k] 24)) (rb + 1) nilS (.int .i64 s) (.int .i64 k) := by rw [← hs]; exact heap_alloc_new _ _
  have old : ∀ b, b < rb + 1 → ((W.setCell ⟨rb, 2, none⟩ (.int .i64 4)).alloc (.cells #[nilS, .int .i64 s, .int .i64 k] 24)).heap[b]? = (W.setCell ⟨rb, 2, none⟩ (.int .i64 4)).heap[b]? := fun b hb => heap_alloc_old _ _ (by omega)
  refine ⟨e1, rfl, ?_, p0, SW.yes ⟨?_, ?_, Nat.le_refl _, h4, h.dw.sm, h.dw.sz⟩, ?_⟩
  · exact (old _ (by omega)).trans ((Below.heap_setCell _ _ _ _ (show w.heap.size ≠ rb by omega)).trans h.res)
  · exact (old _ (by omega)).trans (Joins.block_setCell (i := 2) h.dw.box (.int .i64 4))
  · exact h.dw.bw.imp id (fun ⟨g, o, e, hg, hc⟩ => ⟨g, o, e, hg, fun k hk => (cell_eq (old g (by omega)) _).trans ((cell_eq (Below.heap_setCell _ _ _ _ (show g ≠ rb by omega)) _).trans (hc k hk))⟩)
  · exact (h.be.setCell (by show w.heap.size ≤ rb; omega) _).alloc (by omega) _
theorem LXw.drewN {w V : World} {rb pb : Nat} {L : List ByteArray} {a : Option Addr} {c : Nat} {m : Option (List (List Nat))} {v0 v1 v2 : Value} (h : LXw w V rb pb L a c m v0 v1 v2) (n : Nat) : LXw w (V.drewN n) rb pb L a c m v0 v1 v2 := h.old (fun _ _ => rfl) (below_drewN' h.be n)
theorem PG.drewN {V : World} {base : Nat} {v : Value} {MS : List Iv} {J : List In} (h : PG V base v MS J) (n : Nat) : PG (V.drewN n) base v MS J := h.kept (fun _ _ _ => rfl)
theorem SW.at' {B rb : Nat} {L : List ByteArray} {a : Option Addr} {c : Nat} {w : World} {u : List (List Nat)} (h : SW B rb L a c w (some u)) : ∃ p, u = (L.map bs).drop p ∧ p ≤ L.length ∧ w.cell? ⟨rb, 0, none⟩ = some (.slice a L.length c) ∧ w.cell? ⟨rb, 2, none⟩ = some (.int .i64 (p : Int)) ∧ w.cell? ⟨rb, 3, none⟩ = some (.bool false) := by
  rcases h.cases with ⟨h1, _⟩ | ⟨p, h1, hD⟩
  · cases h1
  · exact ⟨p, Option.some.inj h1, hD.at', (four_cells hD.box).1, (four_cells hD.box).2.2.1, (four_cells hD.box).2.2.2⟩
theorem SW.atN {B rb : Nat} {L : List ByteArray} {a : Option Addr} {c : Nat} {w : World} (h : SW B rb L a c w none) : ∃ p : Nat, w.cell? ⟨rb, 0, none⟩ = some (.slice a L.length c) ∧ w.cell? ⟨rb, 2, none⟩ = some (.int .i64 (p : Int)) ∧ w.cell? ⟨rb, 3, none⟩ = some (.bool true) := by
  rcases h.cases with ⟨_, p, hD⟩ | ⟨p, h1, hD⟩
  · exact ⟨p, (four_cells hD.box).1, (four_cells hD.box).2.2.1, (four_cells hD.box).2.2.2⟩
  · cases h1
set_option maxRecDepth 100000 in
set_option maxHeartbeats 8000000 in
theorem read15_body {w : World} {s : ByteArray} {kw sw : List Nat} {l : List (List Nat)} (h : s.size ≤ 8388608) (hW : wordsL (bs s) = capsW :: kw :: startW :: sw :: l) : Calls Tryd.prog 15 #[.string s] w fun e w' => Below w.heap.size w w' ∧ ((readP LL (wordsL (bs s)).length (wordsL (bs s)) = none ∧ e = noR 100) ∨ ∃ ad n c st k J, readP LL (wordsL (bs s)).length (wordsL (bs s)) = some (J, st, k) ∧ e = .returned (.tuple #[pv ad n c st k, zI]) ∧ PI w' w'.heap.size ad n J) := by
  have b1 : decide ((s.size : Int) > 8388608) = false := by simp; omega
  have b2 : ¬ (8388608 : Int) < (s.size : Int) := by omega
  obtain ⟨V, hV⟩ : ∃ V, V = w.alloc (.cells #[nilS, zI, zI] 24) := ⟨_, rfl⟩
  have C26 := words26 s V h
  obtain ⟨M, hM⟩ : ∃ M, M = (wordsL (bs s)).length := ⟨_, rfl⟩
  have HMl : Hid (l.length ≤ M) := by show _ ≤ _; rw [hM, hW]; simp; omega
  rw [← hM, hW]
  have HV := hid hV
  have HWW := hid hW
  clear hV hW hM
  go_enter Tryd.func15, Tryd.ntmps15
  go_upto_region 1 with fail
  rw [← HV.out]
  go_upto_region 4 with (go_at_call 26; (with_reducible refine C26.mono ?_); rintro e w2 ⟨y, rfl, hR⟩; obtain ⟨L, a, c, rfl, hLW, hLs, hWB⟩ := WBx.mk' HV.out hR h; have HLW := hid hLW; have HWB := hid hWB; clear hLW hWB hR C26)
  obtain ⟨W, hWW⟩ : ∃ W, W = w2.alloc (.cells #[.slice a L.length c, nilS, zI, .bool false] 56) := ⟨_, rfl⟩
  have HB : Hid (WBx w W w2.heap.size L a c) := by rw [hWW]; exact HWB.out
  rw [← hWW]
  obtain ⟨rb, hrb⟩ : ∃ rb, w2.heap.size = rb := ⟨_, rfl⟩
  rw [hrb] at HB ⊢
  clear hWW HWB hrb
  obtain ⟨k0, k1, k2, k3⟩ := four_cells HB.out.dw.box
  have kf2 := Joins.unfrozen_of_block HB.out.dw.box 2
  obtain ⟨r0, r1, r2⟩ := three_cells HB.out.res
  obtain ⟨f0, f1, f2⟩ := frz3 HB.out.res
  have hLl := congrArg List.length (HLW.out.trans HWW.out)
  rw [List.length_map] at hLl
  simp only [List.length_cons] at hLl
  have hL4 : 4 ≤ L.length := by omega
  obtain ⟨g, o, rfl, hg, q0⟩ := HB.out.cell (k := 0) (by omega)
  obtain ⟨g', o', e', _, q2⟩ := HB.out.cell (k := 2) (by omega)
  simp only [Option.some.injEq, Addr.mk.injEq, and_true] at e'
  obtain ⟨rfl, rfl⟩ := e'
  obtain ⟨g', o', e', _, q1⟩ := HB.out.cell (k := 1) (by omega)
  simp only [Option.some.injEq, Addr.mk.injEq, and_true] at e'
  obtain ⟨rfl, rfl⟩ := e'
  obtain ⟨g', o', e', _, q3⟩ := HB.out.cell (k := 3) (by omega)
  simp only [Option.some.injEq, Addr.mk.injEq, and_true] at e'
  obtain ⟨rfl, rfl⟩ := e'
  obtain ⟨x0, x1, x2, x3, Lr, rfl⟩ : ∃ x0 x1 x2 x3 Lr, L = x0 :: x1 :: x2 :: x3 :: Lr := by
    match L, hL4 with
    | x0 :: x1 :: x2 :: x3 :: Lr, _ => exact ⟨x0, x1, x2, x3, Lr, rfl⟩
  have hall := HLW.out.trans HWW.out
  simp only [List.map_cons, List.cons.injEq] at hall
  obtain ⟨hx0, hx1, hx2, hx3, hlr⟩ := hall
  simp only [List.getElem_cons_zero, List.getElem_cons_succ] at q0 q1 q2 q3
  have hq : x0.toList = [99, 97, 112, 115] := caps_is.2 hx0
  have hq2 : x2.toList = [115, 116, 97, 114, 116] := start_is.2 hx2
  have C1 := fun V => number27 x1 V (HB.out.dw.sz _ (by simp))
  have C3 := fun V => number27 x3 V (HB.out.dw.sz _ (by simp))
  rw [hx1] at C1
  rw [hx3] at C3
  obtain ⟨kk, hkk⟩ : ∃ kk, kk = numI kw := ⟨_, rfl⟩
  obtain ⟨ss, hss⟩ : ∃ ss, ss = numI sw := ⟨_, rfl⟩
  rw [← hkk] at C1
  rw [← hss] at C3
  have HKK := hid hkk
  have HSS := hid hss
  have HLr := hid hlr
  obtain ⟨N, hN⟩ : ∃ N, (x0 :: x1 :: x2 :: x3 :: Lr).length = N := ⟨_, rfl⟩
  rw [hN] at k0 hL4 hLs
  obtain ⟨L, hL⟩ : ∃ L, L = x0 :: x1 :: x2 :: x3 :: Lr := ⟨_, rfl⟩
  rw [← hL] at hN HB HLW ⊢
  have HdL : Hid ((L.map bs).drop 4 = l) := by show _ = _; rw [hL]; exact hlr
  rw [hN]
  have HN := hid hN
  have hLX := LXw.mk' HB.out (by omega) ss kk
  have HLX := hid hLX
  have b3 : decide ((N : Int) < 4) = false := by simp; omega
  have b4 : ¬ (N : Int) < 4 := by omega
  have b5 : (0 : Int) < (N : Int) := by omega
  have b6 : (2 : Int) < (N : Int) := by omega
  have b7 : (1 : Int) < (N : Int) := by omega
  have b8 : (3 : Int) < (N : Int) := by omega
  have hWs := HB.out.sz
  rw [Nat.add_zero] at q0
  clear hx0 hx1 hx2 hx3 hlr hkk hss hL hN hLX hLl HLW HWW HV
  go_upto_region 8 with (first | (go_at_call 27; first | (with_reducible refine (C1 _).mono ?_) | (with_reducible refine (C3 _).mono ?_)); rintro e w3 ⟨rfl, hw⟩; obtain rfl := hw.symm)
  clear C1 C3 q0 q1 q2 q3 hq hq2 b5 b6 b7 b8
  go_upto_region 9 with fail
  go_upto_region 10 with fail
  obtain ⟨W3, hW3⟩ : ∃ W3, W3 = (W.setCell ⟨rb, 2, none⟩ (.int .i64 4)).alloc (.cells #[nilS, .int .i64 ss, .int .i64 kk] 24) := ⟨_, rfl⟩
  have HL : Hid (LXw w W3 rb (rb + 1) L (some ⟨g, o, none⟩) c (some l) nilS (.int .i64 ss) (.int .i64 kk)) := by rw [hW3, ← HdL.out]; exact HLX.out
  rw [← hW3]
  have HZ3 : Hid (W3.heap.size = rb + 2) := by show _ = _; rw [hW3]; simp [World.setCell]; exact hWs
  clear hW3 HLX k0 k1 k2 k3 kf2 r0 r1 r2 f0 f1 f2
  have hrb := HB.out.er
  have HD : Hid (DRd wordD true rb rb (SW rb rb L (some ⟨g, o, none⟩) c)) := drd_w (Nat.le_refl _)
  obtain ⟨i51, hi51, hz510, hz511, hz512⟩ := info_parts info51
  have hln : l.length ≤ 8388608 := HD.out.small _ _ HL.out.st
  go_loopg [8] (l.length + 1) (fun k y wq => ∃ (i : Nat) (J : List In) (MS : List Iv) (mp : Option (List (List Nat))) (ra : Option Addr) (rc : Nat), Hid (k = rest mp) ∧ Hid (J.length = i) ∧ Hid (LXw w wq rb (rb + 1) L (some ⟨g, o, none⟩) c mp (.slice ra i rc) (.int .i64 ss) (.int .i64 kk)) ∧ Hid (PG wq (rb + 2) (.slice ra i rc) MS J) ∧ Hid (AO M l J mp) ∧ Hid (i + rest mp ≤ 8388609))
  case atStart => exact ⟨0, [], [], some l, none, 0, rfl, rfl, HL.out, PG.nil _ _, AO.start HMl.out, by show 0 + (l.length + 1) ≤ _; omega⟩
  case round =>
    clear HL
    obtain ⟨i, J, MS, mp, ra, rc, HKC, HJL, HL, HP, HA, HRP⟩ := hrel
    have hib : i ≤ 8388609 := by have := HRP.out; omega
    have hlt := HL.out.lt
    cases mp with
    | none =>
      obtain ⟨p, k0, k2, k3⟩ := HL.out.st.atN
      rw [HN.out] at k0
      have HNO : Hid (readP LL M (capsW :: kw :: startW :: sw :: l) = none) := readP_none HA.out.none
      have C29 := fun n => rcheck9 (w := wr.drewN n) (c := rc) (s := ss) (k := kk) ((HP.out.drewN n).pi HJL.out.symm)
      by_cases hpk : p < N
      · have d1 : decide ((p : Int) < (N : Int)) = true := by simp; omega
        have d2 : (p : Int) < (N : Int) := by omega
        go_wp2
        go_quiet (fail)
        have hl2 := HL.out.drewN nq
        obtain ⟨c0, c1, c2⟩ := three_cells hl2.p
        have HL2 := hid hl2
        clear hl2 HL k0 k2 k3
        go_upto_region 14 with (go_at_call 29; (with_reducible refine (C29 _).mono ?_); rintro e w6 ⟨rfl, hb6⟩; have HLF := hid (HL2.out.old (fun b hb => hb6.block b (by have := HL2.out.lt; omega)) (HL2.out.be.trans (Joins.below_le hb6 HL2.out.be.size))); clear hb6 C29)
        obtain ⟨p6, k6, k7, k8⟩ := HLF.out.st.atN
        obtain ⟨r0, r1, r2⟩ := three_cells HLF.out.res
        obtain ⟨t0, t1, t2⟩ := frz3 HLF.out.res
        go_wp2
        all_goals
          refine bodyPost_ret (res15 _ _ w.heap.size nilS zI zI (.int .i64 100) rfl rfl (all3 HLF.out.res _ _ _)) rfl ?_
          exact ⟨((HLF.out.be.setCell (Nat.le_refl _) _).setCell (Nat.le_refl _) _).setCell (Nat.le_refl _) _, .inl ⟨HNO.out, rfl⟩⟩
      · have d1 : decide ((p : Int) < (N : Int)) = false := by simp; omega
        have d2 : ¬ (p : Int) < (N : Int) := by omega
        go_wp2
        go_quiet (fail)
        have hl2 := HL.out.drewN nq
        obtain ⟨c0, c1, c2⟩ := three_cells hl2.p
        have HL2 := hid hl2
        clear hl2 HL k0 k2 k3
        go_upto_region 14 with (go_at_call 29; (with_reducible refine (C29 _).mono ?_); rintro e w6 ⟨rfl, hb6⟩; have HLF := hid (HL2.out.old (fun b hb => hb6.block b (by have := HL2.out.lt; omega)) (HL2.out.be.trans (Joins.below_le hb6 HL2.out.be.size))); clear hb6 C29)
        obtain ⟨p6, k6, k7, k8⟩ := HLF.out.st.atN
        obtain ⟨r0, r1, r2⟩ := three_cells HLF.out.res
        obtain ⟨t0, t1, t2⟩ := frz3 HLF.out.res
        go_wp2
        all_goals
          refine bodyPost_ret (res15 _ _ w.heap.size nilS zI zI (.int .i64 100) rfl rfl (all3 HLF.out.res _ _ _)) rfl ?_
          exact ⟨((HLF.out.be.setCell (Nat.le_refl _) _).setCell (Nat.le_refl _) _).setCell (Nat.le_refl _) _, .inl ⟨HNO.out, rfl⟩⟩
    | some u =>
      obtain ⟨p, hup, hpl, k0, k2, k3⟩ := HL.out.st.at'
      rw [HN.out] at k0
      have hpN : p ≤ N := by have := HN.out; omega
      have HUP := hid hup
      clear hpl
      by_cases hpk : p < N
      · have d1 : decide ((p : Int) < (N : Int)) = true := by simp; omega
        have d2 : (p : Int) < (N : Int) := by omega
        have hune : u ≠ [] := by
          intro e
          have hq := congrArg List.length (hup.symm.trans e)
          rw [List.length_drop, List.length_map, HN.out, List.length_nil] at hq
          omega
        have HUNE := hid hune
        clear hup hune
        go_wp2
        go_quiet (fail)
        have hl2 := HL.out.drewN nq
        have HP2 := hid (HP.out.drewN nq)
        have HL2 := hid hl2
        have C28 := HD.out.inst hl2.st
        clear hl2 HL HP k0 k2 k3
        go_upto_region 12 with (go_at_call 28; (with_reducible refine C28.mono ?_); rintro e w5 ⟨hM5, ⟨n0, n1, n2, n3, n4, n5, n6⟩, I, m', rfl, hI5, hS5, hX5⟩; have HL5 := hid (HL2.out.mo hM5 hS5); have HP5 := hid (HP2.out.kept (fun b hb hb' => hM5.block b hb' (by omega))); have HI5 := hid (hI5.wide (B' := rb + 2) (by have := HL2.out.lt; omega)); have HA5 := hid (HA.out.step HUNE.out hX5); have HRP5 := hid (rest_instW hX5); clear hM5 hI5 hS5 hX5 C28)
        have hlt5 := HL5.out.lt
        obtain ⟨V5, hV5⟩ : ∃ V5, V5 = w5.alloc (.cells #[.int .i64 n0, .int .i64 n1, .int .i64 n2, .int .i64 n3, .slice n4 n5 n6] 49) := ⟨_, rfl⟩
        have hb5 : Below w5.heap.size w5 V5 := by rw [hV5]; exact Joins.below_alloc1 w5 _
        have hX5 : B5 V5 w5.heap.size (.int .i64 n0) (.int .i64 n1) (.int .i64 n2) (.int .i64 n3) (.slice n4 n5 n6) := by rw [hV5]; exact heap_alloc_new w5 _
        obtain ⟨d0, d1, d2, d3, d4⟩ := five hX5
        have hs5 : V5.heap.size = w5.heap.size + 1 := by rw [hV5]; simp
        obtain ⟨pc0, pc1, pc2⟩ := three_cells ((hb5.block (rb + 1) (by omega)).trans HL5.out.p)
        obtain ⟨pf0, pf1, pf2⟩ := frz3 ((hb5.block (rb + 1) (by omega)).trans HL5.out.p)
        have hrow := HP5.out.row
        rw [HJL.out] at hrow
        have HR6 : Hid ((V5.alloc (.cells #[.int .i64 n0, .int .i64 n1, .int .i64 n2, .int .i64 n3, .slice n4 n5 n6] 49)).ownsRow (rb + 2) 49 5 (.slice ra i rc) i (MS.flatMap Iv.cs)) := (row_kept hrow (fun q hq => hb5.block q (hrow.lt q hq).2)).alloc _
        have HL6 : Hid ((V5.alloc (.cells #[.int .i64 n0, .int .i64 n1, .int .i64 n2, .int .i64 n3, .slice n4 n5 n6] 49)).ownsRow 0 49 5 (.slice (some ⟨V5.heap.size, 0, none⟩) 1 1) 1 (Iv.cs ⟨n0, n1, n2, n3, n4, n5, n6⟩)) := World.ownsRow_lit (base := 0) (e := 49) (size := 5) V5 #[.int .i64 n0, .int .i64 n1, .int .i64 n2, .int .i64 n3, .slice n4 n5 n6] 1 (Nat.zero_le _) (by unfold maxLen; omega) rfl
        have hbs : rb + 2 ≤ (V5.alloc (.cells #[.int .i64 n0, .int .i64 n1, .int .i64 n2, .int .i64 n3, .slice n4 n5 n6] 49)).heap.size := by simp; omega
        have hb6 : Below w5.heap.size w5 (V5.alloc (.cells #[.int .i64 n0, .int .i64 n1, .int .i64 n2, .int .i64 n3, .slice n4 n5 n6] 49)) := hb5.alloc (by omega) _
        have HB6 := hid hb6
        have hne : (Value.slice ra i rc).ownBlock ≠ some (rb + 1) := fun e => by have := (hrow.lt (rb + 1) e).1; omega
        have HNE := hid hne
        have HROW := hid hrow
        rw [← hV5]
        have hs6 : w5.heap.size < V5.heap.size := by omega
        clear hV5 hX5 hrow hb6 hb5 hne hs5
        go_wp2_with (at_builtin; refine wpList_append_row rfl (.tmp 83) (.tmp 85) 22 rfl (rb + 2) 49 i51 Z5 5 56 Tryd.underlying22 hi51 hz510 hz511 hz512 rfl (by decide) (.slice ra i rc) i (MS.flatMap Iv.cs) rfl HR6.out (.slice (some ⟨V5.heap.size, 0, none⟩) 1 1) 1 0 (Iv.cs ⟨n0, n1, n2, n3, n4, n5, n6⟩) rfl HL6.out (by intro h; omega) (one5 _) (by unfold maxLen; omega) (by omega) hbs ?_; intro v7 w7 ho7 hf7 hn7; obtain ⟨x7, d7, rfl, hx7⟩ := row_shape ho7.out; have e2 : w7.heap[rb + 1]? = w5.heap[rb + 1]? := (hf7.out.block (rb + 1) (by (try simp) <;> omega) HNE.out).trans (HB6.out.block (rb + 1) (by omega)); have p1 := (cell_eq e2 0).trans (three_cells HL5.out.p).1; have p2 := (frz_eq e2 0).trans (frz3 HL5.out.p).1; clear e2 hx7 hn7)
        have old7 : ∀ q, q < w5.heap.size → (Value.slice ra i rc).ownBlock ≠ some q → w7.heap[q]? = w5.heap[q]? := fun q hq hn => (hf7.out.block q (by have := HB6.out.size; omega) hn).trans (HB6.out.block q hq)
        have hlow : ∀ q, q < rb + 1 + 1 → w7.heap[q]? = w5.heap[q]? := fun q hq => old7 q (by omega) (fun e => by have := (HROW.out.lt q e).1; omega)
        have hz7 : w5.heap.size ≤ w7.heap.size := by have := hf7.out.size; have := HB6.out.size; omega
        have hB7 : Below w.heap.size w w7 := ⟨hf7.out.os.trans (HB6.out.os.trans HL5.out.be.os), hf7.out.tape.trans (HB6.out.tape.trans HL5.out.be.tape), hf7.out.output.trans (HB6.out.output.trans HL5.out.be.output), Nat.le_trans HL5.out.be.size hz7, fun q hq => (hlow q (by omega)).trans (HL5.out.be.block q hq)⟩
        have hPG := HP5.out.push HB6.out hf7.out (by rw [HJL.out]; exact ho7.out) HI5.out
        have hPG2 : Hid (PG (w7.setCell ⟨rb + 1, 0, none⟩ (.slice x7 (i + 1) d7)) (rb + 2) (.slice x7 (i + 1) d7) (MS ++ [(⟨n0, n1, n2, n3, n4, n5, n6⟩ : Iv)]) (J ++ [I])) := hPG.kept (fun q hq _ => Below.heap_setCell _ _ _ _ (show q ≠ rb + 1 by omega))
        have hLf := hid ((HL5.out.old hlow hB7).set0 (.slice x7 (i + 1) d7))
        clear hPG
        go_roundg (rest m')
        case measure => have h1 := HKC.out; have h2 := HRP5.out; omega
        case rel => exact ⟨i + 1, J ++ [I], MS ++ [(⟨n0, n1, n2, n3, n4, n5, n6⟩ : Iv)], m', x7, d7, rfl, hid (by show _ = _; rw [List.length_append, HJL.out]; rfl), hLf.out, hPG2.out, HA5.out, hid (by have := HRP.out; have := HRP5.out; omega)⟩
      · have d1 : decide ((p : Int) < (N : Int)) = false := by simp; omega
        have d2 : ¬ (p : Int) < (N : Int) := by omega
        obtain rfl : u = [] := by rw [hup]; exact List.drop_eq_nil_of_le (by rw [List.length_map, HN.out]; omega)
        have HRE := hid (readP_some (kw := kw) (sw := sw) HA.out.done)
        have C29 := fun n => rcheck9 (w := wr.drewN n) (c := rc) (s := ss) (k := kk) ((HP.out.drewN n).pi HJL.out.symm)
        obtain ⟨mb, hmb⟩ : ∃ mb, mb = mayB J ss kk := ⟨_, rfl⟩
        rw [← hmb] at C29
        have HMB := hid hmb
        clear hmb hup
        cases mb with
        | false =>
          have HNO : Hid (readP LL M (capsW :: kw :: startW :: sw :: l) = none) := by
            show _ = _
            rw [HRE.out, ← HKK.out, ← HSS.out, ← HMB.out]; rfl
          go_wp2
          go_quiet (fail)
          have hl2 := HL.out.drewN nq
          have HP2 := hid (HP.out.drewN nq)
          obtain ⟨c0, c1, c2⟩ := three_cells hl2.p
          have HL2 := hid hl2
          clear hl2 HL HP k0 k2 k3
          go_upto_region 14 with (go_at_call 29; (with_reducible refine (C29 _).mono ?_); rintro e w6 ⟨rfl, hb6⟩; have HLF := hid (HL2.out.old (fun b hb => hb6.block b (by have := HL2.out.lt; omega)) (HL2.out.be.trans (Joins.below_le hb6 HL2.out.be.size))); have HP6 := hid (HP2.out.kept (fun b _ hb => hb6.block b hb)); clear hb6 C29)
          obtain ⟨p6, _, _, k6, k7, k8⟩ := HLF.out.st.at'
          obtain ⟨r0, r1, r2⟩ := three_cells HLF.out.res
          obtain ⟨t0, t1, t2⟩ := frz3 HLF.out.res
          obtain ⟨c0, c1, c2⟩ := three_cells HLF.out.p
          go_wp2
          all_goals
            refine bodyPost_ret (res15 _ _ w.heap.size nilS zI zI (.int .i64 100) rfl rfl (all3 HLF.out.res _ _ _)) rfl ?_
            exact ⟨((HLF.out.be.setCell (Nat.le_refl _) _).setCell (Nat.le_refl _) _).setCell (Nat.le_refl _) _, .inl ⟨HNO.out, rfl⟩⟩
        | true =>
          have HYE : Hid (readP LL M (capsW :: kw :: startW :: sw :: l) = some (J, ss, kk)) := by
            show _ = _
            rw [HRE.out, ← HKK.out, ← HSS.out, ← HMB.out]; rfl
          go_wp2
          go_quiet (fail)
          have hl2 := HL.out.drewN nq
          have HP2 := hid (HP.out.drewN nq)
          obtain ⟨c0, c1, c2⟩ := three_cells hl2.p
          have HL2 := hid hl2
          clear hl2 HL HP k0 k2 k3
          go_upto_region 14 with (go_at_call 29; (with_reducible refine (C29 _).mono ?_); rintro e w6 ⟨rfl, hb6⟩; have HLF := hid (HL2.out.old (fun b hb => hb6.block b (by have := HL2.out.lt; omega)) (HL2.out.be.trans (Joins.below_le hb6 HL2.out.be.size))); have HP6 := hid (HP2.out.kept (fun b _ hb => hb6.block b hb)); clear hb6 C29)
          obtain ⟨p6, _, _, k6, k7, k8⟩ := HLF.out.st.at'
          obtain ⟨r0, r1, r2⟩ := three_cells HLF.out.res
          obtain ⟨t0, t1, t2⟩ := frz3 HLF.out.res
          obtain ⟨c0, c1, c2⟩ := three_cells HLF.out.p
          go_wp2
          all_goals
            refine bodyPost_ret (res15 _ _ w.heap.size (.slice ra i rc) (.int .i64 ss) (.int .i64 kk) (.int .i64 0) rfl rfl (all3 HLF.out.res _ _ _)) rfl ?_
            refine ⟨((HLF.out.be.setCell (Nat.le_refl _) _).setCell (Nat.le_refl _) _).setCell (Nat.le_refl _) _, .inr ⟨ra, i, rc, ss, kk, J, HYE.out, rfl, ?_⟩⟩
            exact (HP6.out.kept (fun q hq _ => set3_old (by omega) _ _ _)).pi HJL.out.symm
end Go.Proofs.YteanndophopplaaDoor
