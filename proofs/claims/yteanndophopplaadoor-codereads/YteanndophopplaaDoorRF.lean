/- PROVED: the law CodeReads of layer 10 answers true for every two texts: Read answers as the document's Read does, with the same code, also when it is asked again after another text was read; and what came out stays and is its owner's.
   CONDITIONS: the form's own; the variable code.words starts as the program's text lays it (the given card ties that); the card speaks of the pruned copy of the project that the seat holds. -/
import Derived.Test.YteanndophopplaaDoorHI
import Derived.Test.YteanndophopplaaDoorOO
import Derived.Test.YteanndophopplaaDoorQQ
import Derived.Test.YteanndophopplaaDoorJE
import Derived.Test.YteanndophopplaaDoorIR
import Derived.Test.YteanndophopplaaDoorCards
import Derived.Test.YteanndophopplaaDoorTie
import Derived.Test.YteanndophopplaaDoorLL
import Derived.ChangeMaps5
/- HELPERS: what the two Loads answer, in one form; what stays whatever becomes of one block. -/
namespace Go.Proofs.YteanndophopplaaDoor
open Go.RowKit Go.Lib
set_option linter.unusedVariables false
set_option linter.unusedSimpArgs false
/-- the program that bytes are loaded as, or the empty one -/
def lr (l : List Nat) : Pr3 := if 8388608 < l.length then ([], 0, 0) else match loadP C3 5000 20000 l with | none => ([], 0, 0) | some p => p
theorem lr_small (l : List Nat) : (lr l).1.length ≤ 20000 ∧ ∀ I ∈ (lr l).1, I.R.length ≤ 20000 := by
  unfold lr
  split
  · simp
  · cases h : loadP C3 5000 20000 l with
    | none => simp
    | some p =>
      obtain ⟨J, s, k⟩ := p
      obtain ⟨h1, _, _, _, _, h6⟩ := may_fit ((loadP_iff (by omega) (by omega) (by omega) l J s k).1 h).1
      refine ⟨h1, fun I hI => ?_⟩
      cases h6 I hI with
      | rune x R _ _ _ hR => have := (right_ok hR).1; show R.length ≤ 20000; omega
      | _ => simp
theorem GR.pi {w : World} {base n c : Nat} {a : Option Addr} {J : List In} {MS : List Iv} (h : GR w base (.slice a n c) MS J) : PI w w.heap.size a n J := by
  have hn : n = J.length := row_len h.row
  subst hn
  refine ⟨rfl, fun hp => ?_⟩
  obtain ⟨g, rfl⟩ := gr_blk h hp
  refine ⟨g, 0, fun j => MS.getD j default, rfl, (h.row.lt g rfl).2, fun i hi => ?_⟩
  have hi' : i < MS.length := by rw [h.lms]; exact hi
  have e : MS.getD i default = MS[i] := by simp [List.getD_eq_getElem?_getD, List.getElem?_eq_getElem hi']
  have hl := (h.lo i hi).im
  show I5 w g 0 i (MS.getD i default) ∧ IM w w.heap.size (MS.getD i default) J[i]
  exact ⟨by rw [e]; exact flat_at hi' rfl h.row h.lms, hl⟩
theorem PO.gr {w : World} {base : Nat} {z : Value} {J : List In} {MS : List Iv} (h : PO w base z J MS) : GR w base z MS J := by
  have e : ∀ j (hj : j < MS.length), MS.getD j default = MS[j] := fun j hj => by simp [List.getD_eq_getElem?_getD, List.getElem?_eq_getElem hj]
  refine ⟨h.len, h.row, fun j hj => ?_, fun j j' b hj hj' hne h1 => ?_⟩
  · have hj' : j < MS.length := by rw [h.len]; exact hj
    rw [e j hj']
    exact h.io j hj' hj
  · have g1 : j < MS.length := by rw [h.len]; exact hj
    have g2 : j' < MS.length := by rw [h.len]; exact hj'
    rw [e j g1] at h1
    rw [e j' g2]
    exact h.apart j j' g1 g2 hne b h1
/-- Load of any bytes, in one form -/
def LdU (l : List Nat) (W : World) (e : Ending) (w' : World) : Prop := Below W.heap.size W w' ∧ ∃ (a : Option Addr) (c : Nat) (MS : List Iv), e = .returned (.tuple #[pv a (lr l).1.length c (lr l).2.1 (lr l).2.2, .int .i64 (lc l)]) ∧ GR w' W.heap.size (.slice a (lr l).1.length c) MS (lr l).1
theorem loadU {w : World} {ad : Option Addr} {n c : Nat} {l : List Nat} (h : BA w w.heap.size ad l) (hn : n = l.length) (hcp : n ≤ c) (hcm : c ≤ 9223372036854775807) (hlt : ∀ x ∈ l, x < 256) : Calls Tryd.prog 19 #[.slice ad n c] w (LdU l w) := by
  refine (load19 h hn hcp hcm hlt).mono ?_
  rintro e w' ⟨hb, ⟨h1, rfl⟩ | ⟨h1, h2, rfl⟩ | ⟨h1, g, s, k, J, MS, h2, rfl, hpo⟩⟩
  · have e1 : lr l = ([], 0, 0) := by unfold lr; rw [if_pos h1]
    have e2 : lc l = 2 := by unfold lc; rw [if_pos h1]
    unfold LdU
    rw [e1, e2]
    exact ⟨hb, none, 0, [], rfl, GR.none _ _⟩
  · have e1 : lr l = ([], 0, 0) := by unfold lr; rw [if_neg (by omega), h2]
    have e2 : lc l = 101 := by unfold lc; rw [if_neg (by omega), if_pos h2]
    unfold LdU
    rw [e1, e2]
    exact ⟨hb, none, 0, [], rfl, GR.none _ _⟩
  · have e1 : lr l = (J, s, k) := by unfold lr; rw [if_neg (by omega), h2]
    have e2 : lc l = 0 := by unfold lc; rw [if_neg (by omega), if_neg (by rw [h2]; simp)]
    unfold LdU
    rw [e1, e2]
    exact ⟨hb, some ⟨g, 0, none⟩, J.length, MS, rfl, hpo.gr⟩
/-- the document's Load of any bytes, in one form -/
def LdD (l : List Nat) (W : World) (e : Ending) (w' : World) : Prop := Below W.heap.size W w' ∧ ∃ (a : Option Addr) (c : Nat), e = .returned (.tuple #[pv a (lr l).1.length c (lr l).2.1 (lr l).2.2, .int .i64 (lc l)]) ∧ PI w' w'.heap.size a (lr l).1.length (lr l).1
theorem loadDU {w : World} {ad : Option Addr} {n c : Nat} {l : List Nat} (h : BA w w.heap.size ad l) (hn : n = l.length) (hcp : n ≤ c) (hlt : ∀ x ∈ l, x < 256) : Calls Tryd.prog 18 #[.slice ad n c] w (LdD l w) := by
  have heq : loadP C5 L5 L5 l = loadP C3 5000 20000 l := loadP_eq (by omega) (by omega) (by decide) (by decide) (by omega) (by omega) l
  refine (load18 h hn hcp hlt).mono ?_
  have hnil : ∀ W : World, PI W W.heap.size none 0 [] := fun W => ⟨rfl, fun h => by omega⟩
  rintro e w' ⟨hb, ⟨h1, rfl⟩ | ⟨h1, h2, rfl⟩ | ⟨h1, a, n', c', s, k, J, h2, rfl, hpi⟩⟩
  · have e1 : lr l = ([], 0, 0) := by unfold lr; rw [if_pos h1]
    have e2 : lc l = 2 := by unfold lc; rw [if_pos h1]
    unfold LdD
    rw [e1, e2]
    exact ⟨hb, none, 0, rfl, hnil _⟩
  · rw [heq] at h2
    have e1 : lr l = ([], 0, 0) := by unfold lr; rw [if_neg (by omega), h2]
    have e2 : lc l = 101 := by unfold lc; rw [if_neg (by omega), if_pos h2]
    unfold LdD
    rw [e1, e2]
    exact ⟨hb, none, 0, rfl, hnil _⟩
  · rw [heq] at h2
    have e1 : lr l = (J, s, k) := by unfold lr; rw [if_neg (by omega), h2]
    have e2 : lc l = 0 := by unfold lc; rw [if_neg (by omega), if_neg (by rw [h2]; simp)]
    unfold LdD
    rw [e1, e2]
    obtain rfl : n' = J.length := hpi.len
    exact ⟨hb, a, c', rfl, hpi⟩
/-- what holds whatever becomes of one block -/
structure Keep (g : Nat) (X : World) (P : World → Prop) : Prop where
  all : ∀ X', Mo X X' g → P X'
theorem Keep.out {g : Nat} {X : World} {P : World → Prop} (h : Keep g X P) : P X := h.all X (Mo.refl _ _)
theorem Keep.mo {g : Nat} {X X' : World} {P : World → Prop} (h : Keep g X P) (hm : Mo X X' g) : Keep g X' P := ⟨fun X2 h2 => h.all X2 (hm.trans h2)⟩
theorem Keep.and {g : Nat} {X : World} {P Q : World → Prop} (h : Keep g X P) (h' : Keep g X Q) : Keep g X (fun V => P V ∧ Q V) := ⟨fun X2 h2 => ⟨h.all X2 h2, h'.all X2 h2⟩⟩
theorem keep_b3 {g : Nat} {X : World} {b : Nat} {v0 v1 v2 : Value} (h : B3 X b v0 v1 v2) (hn : b ≠ g) : Keep g X (fun V => B3 V b v0 v1 v2) := ⟨fun X2 h2 => (h2.block b (Array.getElem?_eq_some_iff.1 h).1 hn).trans h⟩
theorem keep_pi {g : Nat} {X : World} {B : Nat} {a : Option Addr} {n : Nat} {J : List In} (h : PI X B a n J) (hB : B ≤ g) (hX : B ≤ X.heap.size) : Keep g X (fun V => PI V V.heap.size a n J) :=
  ⟨fun X2 h2 => h.kept (h2.below hB hX) (by have := h2.size; omega)⟩
theorem keep_gr {g : Nat} {X : World} {base : Nat} {z : Value} {MS : List Iv} {J : List In} (h : GR X base z MS J) (hB : g < base) : Keep g X (fun V => GR V base z MS J) :=
  ⟨fun X2 h2 => h.kept (fun b hb hl _ => h2.block b hl (by omega))⟩
theorem keep_ba {g : Nat} {X : World} {B : Nat} {a : Option Addr} {l : List Nat} (h : BA X B a l) (hB : B ≤ g) (hX : B ≤ X.heap.size) : Keep g X (fun V => BA V V.heap.size a l) :=
  ⟨fun X2 h2 => h.kept (h2.below hB hX).block (by have := h2.size; omega)⟩
theorem makeB (c : Nat) (hc : c ≤ 281474976710656) (w : World) : (Instr.makeSlice 36 (.int .i64 0) (.int .i64 (c : Int))).run Tryd.prog w = .ok (.slice (some ⟨w.heap.size, 0, none⟩) 0 c) (w.alloc (.cells (madeCells (Value.int .u8 0).cells c) 5)) := by
  obtain ⟨i0, hi0, hz0, hz1, hz2⟩ := info_parts info5
  have h := run_make (P := Tryd.prog) w 36 5 i0 (.int .u8 0) Tryd.underlying36 hi0 hz0 .i64 .i64 0 c (by omega) (by omega) (by rw [hz2]; omega) (by omega)
  simp only [Int.toNat_natCast, Int.toNat_zero, hz1, Nat.mul_one] at h
  exact h
theorem made_rowB (c : Nat) (w : World) (hc : c ≤ maxLen) : (w.alloc (.cells (madeCells (Value.int .u8 0).cells c) 5)).ownsRow w.heap.size 5 1 (.slice (some ⟨w.heap.size, 0, none⟩) 0 c) 0 (U8 []) :=
  ⟨rfl, .inr ⟨w.heap.size, c, _, rfl, Nat.le_refl _, heap_alloc_new w _, Nat.zero_le _, hc, by rw [size_madeCells, Nat.mul_one], rfl⟩⟩
end Go.Proofs.YteanndophopplaaDoor
/- HELPERS: the law CodeReads: the walk. -/
namespace Go.Proofs.YteanndophopplaaDoor
open Go.RowKit Go.Lib
set_option linter.unusedVariables false
set_option linter.unusedSimpArgs false
/-- what the document's Read answers -/
def ReadD (s : ByteArray) (w : World) (e : Ending) (w' : World) : Prop := Below w.heap.size w w' ∧
  ((8388608 < s.size ∧ e = noR 2) ∨ (s.size ≤ 8388608 ∧ readP 5000 20000 (wordsL (bs s)) = none ∧ e = noR 100) ∨ (s.size ≤ 8388608 ∧ ∃ ad n c st k J, readP 5000 20000 (wordsL (bs s)) = some (J, st, k) ∧ e = .returned (.tuple #[pv ad n c st k, zI]) ∧ PI w' w'.heap.size ad n J))
/-- THE DOCUMENT'S Read OF ANY TEXT -/
theorem read15 {w : World} {s : ByteArray} : Calls Tryd.prog 15 #[.string s] w (ReadD s w) := by
  by_cases h8 : 8388608 < s.size
  · refine (read15_long h8).mono ?_
    rintro e w' ⟨rfl, hb⟩
    exact ⟨hb, .inl ⟨h8, rfl⟩⟩
  have h : s.size ≤ 8388608 := by omega
  match hW : wordsL (bs s) with
  | [] =>
    refine (read15_short h (by rw [hW]; simp)).mono ?_
    rintro e w' ⟨rfl, hb⟩
    exact ⟨hb, .inr (.inl ⟨h, by rw [hW]; rfl, rfl⟩)⟩
  | [_] =>
    refine (read15_short h (by rw [hW]; simp)).mono ?_
    rintro e w' ⟨rfl, hb⟩
    exact ⟨hb, .inr (.inl ⟨h, by rw [hW]; rfl, rfl⟩)⟩
  | [_, _] =>
    refine (read15_short h (by rw [hW]; simp)).mono ?_
    rintro e w' ⟨rfl, hb⟩
    exact ⟨hb, .inr (.inl ⟨h, by rw [hW]; rfl, rfl⟩)⟩
  | [_, _, _] =>
    refine (read15_short h (by rw [hW]; simp)).mono ?_
    rintro e w' ⟨rfl, hb⟩
    exact ⟨hb, .inr (.inl ⟨h, by rw [hW]; rfl, rfl⟩)⟩
  | c :: kw :: t :: sw :: l =>
    by_cases hc : c = capsW
    · by_cases ht : t = startW
      · subst hc ht
        have heq := readP_eq (L := LL) (M := (wordsL (bs s)).length) (L' := 5000) (M' := 20000) (by decide) (by omega) (wordsL (bs s)) (.inr (Nat.le_refl _)) (.inl (by omega))
        refine (read15_body h hW).mono ?_
        rw [heq]
        rintro e w' ⟨hb, ⟨h1, rfl⟩ | ⟨ad, n, c, st, k, J, h1, rfl, h2⟩⟩
        · exact ⟨hb, .inr (.inl ⟨h, h1, rfl⟩)⟩
        · exact ⟨hb, .inr (.inr ⟨h, ad, n, c, st, k, J, h1, rfl, h2⟩)⟩
      · refine (read15_start h (by rw [hW]; simp) (by simp only [hW]; exact hc) (by simp only [hW]; exact ht)).mono ?_
        rintro e w' ⟨rfl, hb⟩
        refine ⟨hb, .inr (.inl ⟨h, ?_, rfl⟩)⟩
        rw [hW]
        unfold readP
        simp only
        rw [if_neg (fun hx => ht hx.2)]
    · refine (read15_caps h (by rw [hW]; simp) (by simp only [hW]; exact hc)).mono ?_
      rintro e w' ⟨rfl, hb⟩
      refine ⟨hb, .inr (.inl ⟨h, ?_, rfl⟩)⟩
      rw [hW]
      unfold readP
      simp only
      rw [if_neg (fun hx => hc hx.1)]
/-- the program that a text is read as, or the empty one -/
def rr (s : ByteArray) : Pr3 := if 8388608 < s.size then ([], 0, 0) else match readP 5000 20000 (wordsL (bs s)) with | none => ([], 0, 0) | some p => p
def rc' (s : ByteArray) : Int := if 8388608 < s.size then 2 else if readP 5000 20000 (wordsL (bs s)) = none then 100 else 0
theorem rr_small (s : ByteArray) : (rr s).1.length ≤ 20000 ∧ ∀ I ∈ (rr s).1, I.R.length ≤ 20000 := by
  unfold rr
  split
  · simp
  · cases h : readP 5000 20000 (wordsL (bs s)) with
    | none => simp
    | some p =>
      obtain ⟨J, st, k⟩ := p
      obtain ⟨h1, _, _, _, _, h6⟩ := may_fit ((readP_iff (by omega) _ (.inl (by omega)) J st k).1 h).1
      refine ⟨h1, fun I hI => ?_⟩
      cases h6 I hI with
      | rune x R _ _ _ hR => have := (right_ok hR).1; show R.length ≤ 20000; omega
      | _ => simp
/-- Read of any text, in one form -/
def RdU (s : ByteArray) (W : World) (e : Ending) (w' : World) : Prop := Below W.heap.size W w' ∧ ∃ (a : Option Addr) (c : Nat) (MS : List Iv), e = .returned (.tuple #[pv a (rr s).1.length c (rr s).2.1 (rr s).2.2, .int .i64 (rc' s)]) ∧ GR w' W.heap.size (.slice a (rr s).1.length c) MS (rr s).1
theorem readUr {w : World} {s : ByteArray} (hG : G8 w) (h0 : 0 < w.heap.size) : Calls Tryd.prog 16 #[.string s] w (RdU s w) := by
  refine (read16 hG h0).mono ?_
  rintro e w' ⟨hb, ⟨h1, rfl⟩ | ⟨h1, h2, rfl⟩ | ⟨h1, J, st, k, a, c, MS, h2, rfl, hpo⟩⟩
  · have e1 : rr s = ([], 0, 0) := by unfold rr; rw [if_pos h1]
    have e2 : rc' s = 2 := by unfold rc'; rw [if_pos h1]
    unfold RdU
    rw [e1, e2]
    exact ⟨hb, none, 0, [], rfl, GR.none _ _⟩
  · have e1 : rr s = ([], 0, 0) := by unfold rr; rw [if_neg (by omega), h2]
    have e2 : rc' s = 100 := by unfold rc'; rw [if_neg (by omega), if_pos h2]
    unfold RdU
    rw [e1, e2]
    exact ⟨hb, none, 0, [], rfl, GR.none _ _⟩
  · have e1 : rr s = (J, st, k) := by unfold rr; rw [if_neg (by omega), h2]
    have e2 : rc' s = 0 := by unfold rc'; rw [if_neg (by omega), if_neg (by rw [h2]; simp)]
    unfold RdU
    rw [e1, e2]
    exact ⟨hb, a, c, MS, rfl, hpo.gr⟩
/-- the document's Read of any text, in one form -/
def RdD (s : ByteArray) (W : World) (e : Ending) (w' : World) : Prop := Below W.heap.size W w' ∧ ∃ (a : Option Addr) (c : Nat), e = .returned (.tuple #[pv a (rr s).1.length c (rr s).2.1 (rr s).2.2, .int .i64 (rc' s)]) ∧ PI w' w'.heap.size a (rr s).1.length (rr s).1
theorem readDU {w : World} {s : ByteArray} : Calls Tryd.prog 15 #[.string s] w (RdD s w) := by
  refine (read15 (s := s)).mono ?_
  have hnil : ∀ W : World, PI W W.heap.size none 0 [] := fun W => ⟨rfl, fun h => by omega⟩
  rintro e w' ⟨hb, ⟨h1, rfl⟩ | ⟨h1, h2, rfl⟩ | ⟨h1, a, n', c', st, k, J, h2, rfl, hpi⟩⟩
  · have e1 : rr s = ([], 0, 0) := by unfold rr; rw [if_pos h1]
    have e2 : rc' s = 2 := by unfold rc'; rw [if_pos h1]
    unfold RdD
    rw [e1, e2]
    exact ⟨hb, none, 0, rfl, hnil _⟩
  · have e1 : rr s = ([], 0, 0) := by unfold rr; rw [if_neg (by omega), h2]
    have e2 : rc' s = 100 := by unfold rc'; rw [if_neg (by omega), if_pos h2]
    unfold RdD
    rw [e1, e2]
    exact ⟨hb, none, 0, rfl, hnil _⟩
  · have e1 : rr s = (J, st, k) := by unfold rr; rw [if_neg (by omega), h2]
    have e2 : rc' s = 0 := by unfold rc'; rw [if_neg (by omega), if_neg (by rw [h2]; simp)]
    unfold RdD
    rw [e1, e2]
    obtain rfl : n' = J.length := hpi.len
    exact ⟨hb, a, c', rfl, hpi⟩
/-- the blocks of one program -/
def BKx (z : Value) (MS : List Iv) (n b : Nat) : Prop := z.ownBlock = some b ∨ ∃ j, j < n ∧ (MS.getD j default).rv.ownBlock = some b
theorem bkx_lo {w : World} {base n c b : Nat} {a : Option Addr} {MS : List Iv} {J : List In} (h : GR w base (.slice a n c) MS J) (hb : BKx (.slice a n c) MS n b) : base ≤ b := by
  obtain rfl : n = J.length := row_len h.row
  rcases hb with hb | ⟨j, hj, hb⟩
  · exact (h.row.lt b hb).1
  · exact (h.low j b hj hb).1
theorem bkx_hi {w : World} {base n c b : Nat} {a : Option Addr} {MS : List Iv} {J : List In} (h : GR w base (.slice a n c) MS J) (hb : BKx (.slice a n c) MS n b) : b < w.heap.size := by
  obtain rfl : n = J.length := row_len h.row
  rcases hb with hb | ⟨j, hj, hb⟩
  · exact (h.row.lt b hb).2
  · exact (h.low j b hj hb).2
/-- the law on its way: what stays -/
structure BS (w : World) (F : World → Prop) (X : World) : Prop where
  be : Below w.heap.size w X
  kp : ∀ X', Below X.heap.size X X' → F X'
theorem BS.now {w : World} {F : World → Prop} {X : World} (h : BS w F X) : F X := h.kp X (Below.refl _ _)
theorem BS.step {w : World} {F : World → Prop} {X X' : World} (h : BS w F X) (hb : Below X.heap.size X X') : BS w F X' :=
  ⟨h.be.trans (Joins.below_le hb h.be.size), fun X2 h2 => h.kp X2 (hb.trans (Joins.below_le h2 hb.size))⟩
theorem BS.add {w : World} {F F' : World → Prop} {X : World} (h : BS w F X) (hk : ∀ X', Below X.heap.size X X' → F' X') : BS w (fun V => F V ∧ F' V) X := ⟨h.be, fun X' h' => ⟨h.kp X' h', hk X' h'⟩⟩
theorem st_b3 {X : World} {b : Nat} {v0 v1 v2 : Value} (h : B3 X b v0 v1 v2) : ∀ X', Below X.heap.size X X' → B3 X' b v0 v1 v2 := fun X' hb => (hb.block b (Array.getElem?_eq_some_iff.1 h).1).trans h
theorem st_pi {X : World} {a : Option Addr} {n : Nat} {J : List In} (h : PI X X.heap.size a n J) : ∀ X', Below X.heap.size X X' → PI X' X'.heap.size a n J := fun X' hb => h.kept hb hb.size
theorem st_gr {X : World} {base : Nat} {z : Value} {MS : List Iv} {J : List In} (h : GR X base z MS J) : ∀ X', Below X.heap.size X X' → GR X' base z MS J := fun X' hb => h.below hb
theorem BS.box {w X : World} {F : World → Prop} {v0 v1 v2 : Value} (h : BS w F X) : BS w (fun V => F V ∧ B3 V X.heap.size v0 v1 v2) (X.alloc (.cells #[v0, v1, v2] 24)) :=
  (h.step (Joins.below_alloc1 X _)).add (st_b3 (heap_alloc_new X _))
theorem prs2 {w : World} {a0 a1 : Option Addr} {n0 n1 c0 c1 : Nat} {M0 M1 : List Iv} {l0 l1 : List In} (h0 : GR w 0 (.slice a0 n0 c0) M0 l0) (h1 : GR w 0 (.slice a1 n1 c1) M1 l1) (s0 : n0 ≤ 20000) (s1 : n1 ≤ 20000)
    (r0 : ∀ I ∈ l0, I.R.length ≤ 20000) (r1 : ∀ I ∈ l1, I.R.length ≤ 20000) (d01 : ∀ b, BKx (.slice a0 n0 c0) M0 n0 b → ¬ BKx (.slice a1 n1 c1) M1 n1 b) :
    PrsN 2 w (fun i => if i = 0 then a0 else a1) (fun i => if i = 0 then n0 else n1) (fun i => if i = 0 then c0 else c1) (fun i => if i = 0 then M0 else M1) (fun i => if i = 0 then l0 else l1) := by
  refine ⟨fun i hi => ?_, fun i hi => ?_, fun i hi => ?_, fun i j b hi hj hne h h' => ?_⟩
  · obtain rfl | rfl : i = 0 ∨ i = 1 := by omega
    · exact h0
    · exact h1
  · obtain rfl | rfl : i = 0 ∨ i = 1 := by omega
    · exact s0
    · exact s1
  · obtain rfl | rfl : i = 0 ∨ i = 1 := by omega
    · exact r0
    · exact r1
  · obtain rfl | rfl : i = 0 ∨ i = 1 := by omega
    all_goals obtain rfl | rfl : j = 0 ∨ j = 1 := by omega
    all_goals first
      | exact absurd rfl hne
      | exact d01 b h h'
      | exact d01 b h' h
set_option maxRecDepth 100000 in
set_option maxHeartbeats 8000000 in
theorem reads4 {w : World} {s t : ByteArray} (hG : G8 w) (h0 : 0 < w.heap.size) :
    Calls Tryd.prog 4 #[.string s, .string t] w fun e w' => e = .returned (.bool true) ∧ Below w.heap.size w w' := by
  obtain ⟨⟨J, st, k⟩, hlr⟩ : ∃ p, p = rr s := ⟨_, rfl⟩
  obtain ⟨⟨J2, st2, k2⟩, hlr2⟩ : ∃ p, p = rr t := ⟨_, rfl⟩
  obtain ⟨cd, hcd⟩ : ∃ q, q = rc' s := ⟨_, rfl⟩
  obtain ⟨cd2, hcd2⟩ : ∃ q, q = rc' t := ⟨_, rfl⟩
  obtain ⟨N, hN⟩ : ∃ q, q = J.length := ⟨_, rfl⟩
  obtain ⟨N2, hN2⟩ : ∃ q, q = J2.length := ⟨_, rfl⟩
  have C8 := awake8 hG.gw h0
  have HGW : Hid (∀ W, Below w.heap.size w W → G8 W ∧ 0 < W.heap.size) := fun W hb => ⟨fun i hi => (cell_eq (hb.block 0 h0) i).trans (hG i hi), Nat.lt_of_lt_of_le h0 hb.size⟩
  have CD : ∀ (W : World), Calls Tryd.prog 15 #[.string s] W fun e w' => Below W.heap.size W w' ∧ ∃ (a : Option Addr) (c : Nat), e = .returned (.tuple #[pv a N c st k, .int .i64 cd]) ∧ PI w' w'.heap.size a N J := fun W => by
    have := readDU (w := W) (s := s)
    unfold RdD at this
    rw [← hlr, ← hcd] at this
    rw [hN]
    exact this
  have CD2 : ∀ (W : World), Calls Tryd.prog 15 #[.string t] W fun e w' => Below W.heap.size W w' ∧ ∃ (a : Option Addr) (c : Nat), e = .returned (.tuple #[pv a N2 c st2 k2, .int .i64 cd2]) ∧ PI w' w'.heap.size a N2 J2 := fun W => by
    have := readDU (w := W) (s := t)
    unfold RdD at this
    rw [← hlr2, ← hcd2] at this
    rw [hN2]
    exact this
  have CP : ∀ (W : World), Below w.heap.size w W → Calls Tryd.prog 16 #[.string s] W fun e w' => Below W.heap.size W w' ∧ ∃ (a : Option Addr) (c : Nat) (MS : List Iv), e = .returned (.tuple #[pv a N c st k, .int .i64 cd]) ∧ GR w' W.heap.size (.slice a N c) MS J := fun W hW => by
    have := readUr (w := W) (s := s) (HGW.out W hW).1 (HGW.out W hW).2
    unfold RdU at this
    rw [← hlr, ← hcd] at this
    rw [hN]
    exact this
  have CP2 : ∀ (W : World), Below w.heap.size w W → Calls Tryd.prog 16 #[.string t] W fun e w' => Below W.heap.size W w' ∧ ∃ (a : Option Addr) (c : Nat) (MS : List Iv), e = .returned (.tuple #[pv a N2 c st2 k2, .int .i64 cd2]) ∧ GR w' W.heap.size (.slice a N2 c) MS J2 := fun W hW => by
    have := readUr (w := W) (s := t) (HGW.out W hW).1 (HGW.out W hW).2
    unfold RdU at this
    rw [← hlr2, ← hcd2] at this
    rw [hN2]
    exact this
  have hsm := rr_small s
  rw [← hlr] at hsm
  have HSM := hid hsm
  have hNb : N ≤ 20000 := by rw [hN]; exact hsm.1
  have HCD := hid CD
  have HCD2 := hid CD2
  have HCP := hid CP
  have HCP2 := hid CP2
  clear hG hlr hlr2 hcd hcd2 CD CD2 CP CP2 hN hN2 hsm
  go_enter Tryd.func4, Tryd.ntmps4
  go_upto_region 2 with (go_at_call 8; (with_reducible refine C8.mono ?_); rintro e w1 ⟨rfl, hb1⟩; have HS1 : Hid (BS w (fun _ => True) w1) := ⟨hb1, fun _ _ => trivial⟩; clear hb1 C8)
  have D15 := HCD.out w1
  go_upto_region 3 with (go_at_call 15; (with_reducible refine D15.mono ?_); rintro e w2 ⟨hb2, pa, pc, rfl, hpi⟩; have HS2 := hid ((HS1.out.step hb2).add (st_pi hpi)); clear hb2 hpi D15)
  obtain ⟨P, hP⟩ : ∃ P, P = w2.heap.size := ⟨_, rfl⟩
  have hS3 := HS2.out.box (v0 := .slice pa N pc) (v1 := .int .i64 st) (v2 := .int .i64 k)
  rw [← hP] at hS3 ⊢
  obtain ⟨w3, hw3⟩ : ∃ w3, w3 = w2.alloc (.cells #[.slice pa N pc, .int .i64 st, .int .i64 k] 24) := ⟨_, rfl⟩
  rw [← hw3] at hS3 ⊢
  have HS3 := hid hS3
  clear hP hw3 hS3 HS2 HS1
  have D16 := HCP.out w3 HS3.out.be
  go_upto_region 4 with (go_at_call 16; (with_reducible refine D16.mono ?_); rintro e w4 ⟨hb4, aa, ac, AM, rfl, hga⟩; have HS4 := hid ((HS3.out.step hb4).add (st_gr hga)); have HZ4 := hid hb4.size; have HAH := hid (fun b (hb : BKx (.slice aa N ac) AM N b) => bkx_hi hga hb); clear hb4 hga D16)
  obtain ⟨A1, hA1⟩ : ∃ A1, A1 = w4.heap.size := ⟨_, rfl⟩
  have hS5 := HS4.out.box (v0 := .slice aa N ac) (v1 := .int .i64 st) (v2 := .int .i64 k)
  rw [← hA1] at hS5 ⊢
  have HZ5 : Hid (w4.heap.size + 1 = (w4.alloc (.cells #[.slice aa N ac, .int .i64 st, .int .i64 k] 24)).heap.size) := by show _ = _; simp
  obtain ⟨w5, hw5⟩ : ∃ w5, w5 = w4.alloc (.cells #[.slice aa N ac, .int .i64 st, .int .i64 k] 24) := ⟨_, rfl⟩
  rw [← hw5] at hS5 HZ5 ⊢
  have HS5 := hid hS5
  clear hA1 hw5 hS5 HS4
  have D16 := HCP2.out w5 HS5.out.be
  go_upto_region 5 with (go_at_call 16; (with_reducible refine D16.mono ?_); rintro e w6 ⟨hb6, ba, bc, BM, rfl, hgb⟩; have HS6 := hid (HS5.out.step hb6); have HZ6 := hid hb6.size; clear hb6 hgb D16)
  obtain ⟨A2, hA2⟩ : ∃ A2, A2 = w6.heap.size := ⟨_, rfl⟩
  have hS7 := HS6.out.step (Joins.below_alloc1 w6 (.cells #[.slice ba N2 bc, .int .i64 st2, .int .i64 k2] 24))
  rw [← hA2]
  have HZ7 : Hid (w6.heap.size + 1 = (w6.alloc (.cells #[.slice ba N2 bc, .int .i64 st2, .int .i64 k2] 24)).heap.size) := by show _ = _; simp
  obtain ⟨w7, hw7⟩ : ∃ w7, w7 = w6.alloc (.cells #[.slice ba N2 bc, .int .i64 st2, .int .i64 k2] 24) := ⟨_, rfl⟩
  rw [← hw7] at hS7 HZ7 ⊢
  have HS7 := hid hS7
  clear hA2 hw7 hS7 HS6
  have D16 := HCP.out w7 HS7.out.be
  go_upto_region 6 with (go_at_call 16; (with_reducible refine D16.mono ?_); rintro e w8 ⟨hb8, ca, cc, CM, rfl, hgc⟩; have HS8 := hid ((HS7.out.step hb8).add (st_gr hgc)); have HZ8 := hid hb8.size; clear hb8 hgc D16)
  obtain ⟨A3, hA3⟩ : ∃ A3, A3 = w8.heap.size := ⟨_, rfl⟩
  have hS9 := HS8.out.box (v0 := .slice ca N cc) (v1 := .int .i64 st) (v2 := .int .i64 k)
  rw [← hA3] at hS9 ⊢
  obtain ⟨w9, hw9⟩ : ∃ w9, w9 = w8.alloc (.cells #[.slice ca N cc, .int .i64 st, .int .i64 k] 24) := ⟨_, rfl⟩
  rw [← hw9] at hS9 ⊢
  have HS9 := hid hS9
  clear hA3 hw9 hS9 HS8
  have D15 := HCD2.out w9
  go_upto_region 7 with (go_at_call 15; (with_reducible refine D15.mono ?_); rintro e w10 ⟨hb10, da, dc, rfl, hpi⟩; have HS10 := hid (HS9.out.step hb10); clear hb10 hpi D15)
  obtain ⟨A4, hA4⟩ : ∃ A4, A4 = w10.heap.size := ⟨_, rfl⟩
  have hS11 := HS10.out.step (Joins.below_alloc1 w10 (.cells #[.slice da N2 dc, .int .i64 st2, .int .i64 k2] 24))
  rw [← hA4]
  obtain ⟨w11, hw11⟩ : ∃ w11, w11 = w10.alloc (.cells #[.slice da N2 dc, .int .i64 st2, .int .i64 k2] 24) := ⟨_, rfl⟩
  rw [← hw11] at hS11 ⊢
  have HS11 := hid hS11
  clear hA4 hw11 hS11 HS10
  obtain ⟨⟨⟨⟨⟨⟨_, hpi⟩, hP3⟩, hgA⟩, hA3⟩, hgC⟩, hC3⟩ := HS11.out.now
  obtain ⟨p0, p1, p2⟩ := three_cells hP3
  obtain ⟨q0, q1, q2⟩ := three_cells hA3
  have C12 := same11 (c := ac) (c' := pc) (s := st) (k := k) hgA.pi hpi (by omega)
  clear hpi hP3 hgA hA3 hgC hC3
  go_upto_region 8 with (go_at_call 12; (with_reducible refine C12.mono ?_); rintro e w12 ⟨rfl, hb12⟩; have HS12 := hid (HS11.out.step hb12); clear hb12 C12)
  clear p0 p1 p2 q0 q1 q2 HS11
  obtain ⟨⟨⟨⟨⟨⟨_, hpi⟩, hP3⟩, hgA⟩, hA3⟩, hgC⟩, hC3⟩ := HS12.out.now
  obtain ⟨p0, p1, p2⟩ := three_cells hP3
  obtain ⟨q0, q1, q2⟩ := three_cells hC3
  have C12 := same11 (c := cc) (c' := pc) (s := st) (k := k) hgC.pi hpi (by omega)
  clear hpi hP3 hgA hA3 hgC hC3
  go_upto_region 9 with (go_at_call 12; (with_reducible refine C12.mono ?_); rintro e w13 ⟨rfl, hb13⟩; have HS13 := hid (HS12.out.step hb13); clear hb13 C12)
  clear p0 p1 p2 q0 q1 q2 HS12
  obtain ⟨⟨⟨⟨⟨⟨_, hpi⟩, hP3⟩, hgA⟩, hA3⟩, hgC⟩, hC3⟩ := HS13.out.now
  obtain ⟨q0, q1, q2⟩ := three_cells hA3
  obtain ⟨r0, r1, r2⟩ := three_cells hC3
  obtain ⟨w14, hw14⟩ : ∃ w14, w14 = w13.alloc (.cells #[.slice aa N ac, .int .i64 st, .int .i64 k, .slice ca N cc, .int .i64 st, .int .i64 k] 24) := ⟨_, rfl⟩
  have hb14 : Below w13.heap.size w13 w14 := by rw [hw14]; exact Joins.below_alloc1 w13 _
  have hG14 : w14.heap[w13.heap.size]? = some (.cells #[.slice aa N ac, .int .i64 st, .int .i64 k, .slice ca N cc, .int .i64 st, .int .i64 k] 24 (0, 0)) := by rw [hw14]; exact heap_alloc_new w13 _
  have HS14 := hid (HS13.out.step hb14)
  have hF := HS14.out.now
  have hga := hF.1.1.1.2
  have hgc := hF.1.2
  have ba1 : ∀ b, BKx (.slice aa N ac) AM N b → w3.heap.size ≤ b ∧ b < w4.heap.size := fun b hb => ⟨bkx_lo hga hb, HAH.out b hb⟩
  have bc1 : ∀ b, BKx (.slice ca N cc) CM N b → w7.heap.size ≤ b := fun b hb => bkx_lo hgc hb
  have hord : w4.heap.size ≤ w7.heap.size := by have := HZ5.out; have := HZ6.out; have := HZ7.out; omega
  have hw3s := HS3.out.be.size
  have hw34 := HZ4.out
  have hPrs := prs2 (hga.mono (Nat.zero_le _)) (hgc.mono (Nat.zero_le _)) hNb hNb HSM.out.2 HSM.out.2 (fun b h1 h2 => by have := ba1 b h1; have := bc1 b h2; omega)
  have C17 := own17N (np := 2) (g := w13.heap.size) (by omega) hPrs (fun i hi => by
    obtain rfl | rfl : i = 0 ∨ i = 1 := by omega
    · exact Joins.cell_of_block hG14 0
    · exact Joins.cell_of_block hG14 3) ((Array.getElem?_eq_some_iff.1 hG14).1)
  have C17' : Calls Tryd.prog 17 #[.slice (some ⟨w13.heap.size, 0, none⟩) 2 2] w14 fun e w' => e = .returned (.bool true) ∧ Below w.heap.size w w' := C17.mono (by
    rintro e w' ⟨rfl, hc⟩
    refine ⟨rfl, hc.os.trans HS14.out.be.os, hc.tape.trans HS14.out.be.tape, hc.output.trans HS14.out.be.output, Nat.le_trans HS14.out.be.size hc.size, fun b hb => (hc.block b (by have := HS14.out.be.size; omega) ?_).trans (HS14.out.be.block b hb)⟩
    rintro ⟨i, hi, hbk⟩
    obtain rfl | rfl : i = 0 ∨ i = 1 := by omega
    · have := ba1 b hbk; omega
    · have := bc1 b hbk; omega)
  rw [hw14] at C17'
  clear hF hga hgc ba1 bc1 hord hPrs C17 hb14 hG14 hw14 hpi hP3 hgA hA3 hgC hC3 hw3s hw34
  go_wp2_with (go_at_call 17; (with_reducible refine C17'.mono ?_); rintro e w22 ⟨rfl, hbF⟩; have HBF := hid hbF; clear hbF C17')
  all_goals go_ret
  all_goals exact ⟨rfl, HBF.out⟩
end Go.Proofs.YteanndophopplaaDoor
namespace Go.Proofs.YteanndophopplaaDoor
open Go.ChangeShapes Go.WideShapes Go.ChangeAt Go.RowKit Go.ChangeMaps
set_option linter.unusedVariables false
set_option linter.unusedSimpArgs false
theorem ownG : ownKnob Tryd.prog.godebug = none := by kernel_rfl
set_option maxRecDepth 100000 in
theorem readsContract (H : Type) (enc : TypeId × Value → H) (W : World) (base : Nat) (args : Array Value) (ds gs : List (DataW H)) (before : List MemPlace)
    (hval : ∀ (j : Nat) t v, Tryd.f4.params[j]? = some t → args[j]? = some v → Value.okWide Tryd.prog W .any base t v)
    (hW : DataW.Whole enc Tryd.prog Tryd.f4.params.toList Rows.codeReadsSpec.vars false W args.toList ds gs before)
    (hsz0 : (DataW.weightsEach Tryd.prog (Tryd.f4.params.toList ++ Rows.codeReadsSpec.plain.varTypes Tryd.prog) (ds ++ gs)).all (· ≤ reachBytes) = true)
    (hL : laidMetH Tryd.prog Rows.codeReadsRow.laid W) :
    Calls Tryd.prog 4 args W fun e W' => ∃ v, e = .returned v ∧ Rows.codeReadsSpec.post enc Tryd.prog Tryd.f4 false true false false W args v W' := by
  have hW' := hW
  obtain ⟨p, q, hA0, hV, rfl, hfz, hnd⟩ := hW
  have hA : DataW.TrodAll enc Tryd.prog W 0 (fun _ => true) true Tryd.f4.params.toList args.toList ds p := hA0
  have hsz : ∀ n ∈ DataW.weightsEach Tryd.prog (Tryd.f4.params.toList ++ Rows.codeReadsSpec.plain.varTypes Tryd.prog) (ds ++ gs), n ≤ reachBytes := fun n hn => by simpa using List.all_eq_true.1 hsz0 n hn
  rw [Tryd.params4] at hA hval hsz
  obtain ⟨v0, vs0, d0, ds0, p0, q0, hargs, rfl, rfl, h0, r0⟩ := trodAll_cons hA
  obtain ⟨v1, vs1, d1, ds1, p1, q1, rfl, rfl, rfl, h1, r1⟩ := trodAll_cons r0
  obtain ⟨rfl, rfl, rfl⟩ := trodAll_nil r1
  obtain rfl : args = #[v0, v1] := by cases args; simp_all
  obtain ⟨rfl, rfl⟩ := trodVars_none hV
  obtain ⟨z, rfl, rfl, rfl, hz⟩ := open_string Tryd.underlying9 (hval 0 9 v0 rfl rfl) h0
  obtain ⟨u, rfl, rfl, rfl, hu⟩ := open_string Tryd.underlying9 (hval 1 9 v1 rfl rfl) h1
  obtain ⟨hG, hpos⟩ := g8_of_laid hL
  refine (reads4 hG hpos).mono fun e W' ⟨he, hb⟩ => ?_
  subst he
  exact ⟨_, rfl, _, _, _, [], [] ++ ([] ++ []), [], hW', trodAll_cons_mk (shut_bool Tryd.underlying4 _) trodAll_mk0,
    trodAll_cons_mk (shut_string Tryd.underlying9 hz) (trodAll_cons_mk (shut_string Tryd.underlying9 hu) trodAll_mk0), rfl, hb.frame _, fun h => by cases h⟩
abbrev readsArgs : Array Value := #[.string ⟨#[]⟩, .string ⟨#[]⟩]
theorem readsLaid (os : Os) : laidMet Tryd.prog Rows.codeReadsRow.laid ((fixWorld (World.holding Tryd.prog os ⟨#[], #[], []⟩)).forCall (fun _ _ => 0) ⟨#[], readsArgs, []⟩).memory :=
  laidMet_of_run' 8 (by kernel_rfl) (by kernel_rfl)
theorem readsReads (os : Os) {H : Type} (enc : TypeId × Value → H) : ∃ places, DataW.whole enc Tryd.prog ((fixWorld (World.holding Tryd.prog os ⟨#[], #[], []⟩)).forCall (fun _ _ => 0) ⟨#[], readsArgs, []⟩).memory Tryd.f4.params.toList Rows.codeReadsSpec.vars false readsArgs.toList 8 = some ([.lit (.string []), .lit (.string [])], [], places) :=
  ⟨[], by kernel_rfl⟩
set_option maxRecDepth 100000 in
theorem readsLifted (os : Os) (started : os.Started) (H : Type) (enc : TypeId × Value → H) (F : Stop.Interp) :
    ReturnsInHanded {} Tryd.checked os 4 .any ((OpenSpec.ofChange Rows.codeReadsSpec).preRow enc Tryd.prog Tryd.f4 Rows.codeReadsRow.domain false Rows.codeReadsRow.laid) (((OpenSpec.ofChange Rows.codeReadsSpec).at F).post enc Tryd.prog Tryd.f4 false true false false) := by
  obtain ⟨places, hx⟩ := readsReads os enc
  refine returnsInHanded_of_row (C := Tryd.checked) (s := OpenSpec.ofChange Rows.codeReadsSpec) ownG started (by kernel_rfl) Tryd.func4
    (witness_row_at (enc := enc) (C := Tryd.checked) false (fixWorld (World.holding Tryd.prog os ⟨#[], #[], []⟩)) readsArgs rfl (by kernel_rfl) (by kernel_rfl) (by kernel_rfl)
      (OpenSpec.preRow_of_cond 8 hx (by kernel_rfl) (fun k hk => by cases hk) (by kernel_rfl) (readsLaid os))) ?_
  intro W base args ds gs before hval hW _ _ hsz hL _ _
  exact readsContract H enc W base args ds gs before hval hW hsz hL
theorem readsSaid : Rows.CodeReadsSaid :=
  OpenClaim.holds_of_cond 4 Tryd.f4 rfl rfl rfl rfl rfl rfl rfl ⟨rfl, rfl, rfl, rfl, rfl⟩ rfl rfl rfl rfl rfl (by kernel_rfl) Tryd.func4 (by kernel_rfl)
    (of_decide_eq_true (by kernel_rfl)) (by unfold Func.isWrapper; first | (rw [if_pos (by decide +kernel)]; kernel_rfl) | (rw [if_neg (by decide +kernel)]; exact ⟨rfl, rfl⟩))
    (fun os started H enc _ F => by rw [OpenClaim.pre_eq_preRow]; exact readsLifted os started H enc F)
theorem readsPlain (f : FuncId) (fn : Func) (hf : Tryd.pinned.checked.prog.funcNamed Tryd.f4.name = some f) (hfn : Tryd.pinned.checked.prog.funcs[f]? = some fn) :
    true = Tryd.pinned.checked.prog.looks [] ∧ ∀ (j : Nat) t, fn.params[j]? = some t → Tryd.pinned.checked.prog.wantsStandIn t = false := by
  obtain rfl : f = 4 := Option.some.inj ((show Tryd.prog.funcNamed Tryd.f4.name = some 4 by kernel_rfl).symm.trans hf) |>.symm
  obtain rfl : fn = Tryd.f4 := (Option.some.inj (Tryd.func4.symm.trans hfn)).symm
  refine ⟨by kernel_rfl, fun j t ht => ?_⟩
  rw [Tryd.params4] at ht
  have hm : t = 9 := by
    rcases j with _ | _ | j
    · exact (by simpa using ht.symm)
    · exact (by simpa using ht.symm)
    · simp at ht
  subst hm
  exact (show Tryd.prog.wantsStandIn 9 = false by kernel_rfl)
theorem codeReads_holds : Rows.CodeReadsCardSaid :=
  Claim7.holds_tied_plain_at .later [] _ _ _ _ readsSaid (fun _ h => by cases h) (by kernel_rfl) (fun _ h => by cases h) codeReads_row_tie rfl ⟨rfl, rfl⟩ (by kernel_rfl) rfl readsPlain (by kernel_rfl)
end Go.Proofs.YteanndophopplaaDoor
