/- HELPERS: lists that came out, each in a block by itself: one is written, one grows. -/
import Derived.Test.YtnecakampgdhcaaTz
namespace Go.Proofs.Ytnecakampgdhcaa
open Go.RowKit
set_option linter.unusedVariables false
set_option linter.unusedSimpArgs false
/-- what has a block of its own: the table of lists of a kind, a list -/
inductive Kx where
  | t (f : Bool)
  | e (f : Bool) (i : Nat)
def Kx.ok (cnt : Bool → Nat) : Kx → Prop
  | .t _ => True
  | .e f i => i < cnt f
def bkX (T : Bool → Value) (V : Bool → Nat → Value) : Kx → Option Nat
  | .t f => (T f).ownBlock
  | .e f i => (V f i).ownBlock
def et (f : Bool) : TypeId := if f then 36 else 22
def ct (f : Bool) : TypeId := if f then 49 else 51
def cz (f : Bool) : Nat := if f then 2 else 5
theorem cz_pos (f : Bool) : 0 < cz f := by cases f <;> decide
/-- the lists, each in a block by itself -/
structure OS (w : World) (cnt : Bool → Nat) (T : Bool → Value) (V : Bool → Nat → Value) (ln : Bool → Nat → Nat) (X : Bool → Nat → List Value) (Bd : Nat) : Prop where
  tb : ∀ f, w.ownsRow 0 (et f) 1 (T f) (cnt f) ((List.range (cnt f)).map (V f))
  rw : ∀ f i, i < cnt f → w.ownsRow 0 (ct f) (cz f) (V f i) (ln f i) (X f i)
  dd : ∀ p q b, p.ok cnt → q.ok cnt → bkX T V p = some b → bkX T V q = some b → p = q
  bd : ∀ f i, i < cnt f → ln f i ≤ Bd
section
variable {w w' : World} {cnt : Bool → Nat} {T : Bool → Value} {V : Bool → Nat → Value} {ln : Bool → Nat → Nat} {X : Bool → Nat → List Value} {Bd : Nat}
theorem OS.low (h : OS w cnt T V ln X Bd) : ∀ p b, p.ok cnt → bkX T V p = some b → b < w.heap.size := by
  intro p b hp hb
  cases p with
  | t f => exact ((h.tb f).lt b hb).2
  | e f i => exact ((h.rw f i hp).lt b hb).2
theorem OS.kept (h : OS w cnt T V ln X Bd) (hk : ∀ p b, p.ok cnt → bkX T V p = some b → w'.heap[b]? = w.heap[b]?) : OS w' cnt T V ln X Bd :=
  ⟨fun f => row_kept (h.tb f) (fun b hb => hk (.t f) b trivial hb), fun f i hi => row_kept (h.rw f i hi) (fun b hb => hk (.e f i) b hi hb), h.dd, h.bd⟩
theorem OS.set (h : OS w cnt T V ln X Bd) (f : Bool) (i : Nat) (hi : i < cnt f) (xs : List Value) (hr : w'.ownsRow 0 (ct f) (cz f) (V f i) (ln f i) xs) (hk : ∀ b, (V f i).ownBlock ≠ some b → w'.heap[b]? = w.heap[b]?) :
    OS w' cnt T V ln (fun g j => if g = f ∧ j = i then xs else X g j) Bd := by
  have hk' : ∀ p b, p.ok cnt → p ≠ .e f i → bkX T V p = some b → w'.heap[b]? = w.heap[b]? := fun p b hp hne hb => hk b (fun h' => hne (h.dd p (.e f i) b hp hi hb h'))
  refine ⟨fun g => row_kept (h.tb g) (fun b hb => hk' (.t g) b trivial (by intro e; cases e) hb), fun g j hj => ?_, h.dd, h.bd⟩
  by_cases e : g = f ∧ j = i
  · obtain ⟨rfl, rfl⟩ := e
    simp only [and_self, if_true]
    exact hr
  · simp only [if_neg e]
    exact row_kept (h.rw g j hj) (fun b hb => hk' (.e g j) b hj (by intro e'; cases e'; exact e ⟨rfl, rfl⟩) hb)
theorem range_set (n i : Nat) (hi : i < n) (F : Nat → Value) (v : Value) : ((List.range n).map F).set i v = (List.range n).map (fun j => if j = i then v else F j) := by
  apply List.ext_getElem
  · simp
  · intro j h1 h2
    by_cases e : i = j
    · subst e; simp
    · rw [List.getElem_set_ne e]; simp; intro h; exact absurd h.symm e
theorem OS.grow {wl w3 : World} (h : OS w cnt T V ln X Bd) (f : Bool) {g c : Nat} (hT : T f = .slice (some ⟨g, 0, none⟩) (cnt f) c) (i : Nat) (hi : i < cnt f) (xs : List Value) (v3 : Value)
    (hs : w.heap.size ≤ wl.heap.size) (hk : ∀ b, b < w.heap.size → wl.heap[b]? = w.heap[b]?) (hf : Frm wl w3 (V f i) v3) (hr : w3.ownsRow 0 (ct f) (cz f) v3 (ln f i + 1) xs) :
    OS (w3.setCell ⟨g, i, none⟩ v3) cnt T (fun g' j => if g' = f ∧ j = i then v3 else V g' j) (fun g' j => if g' = f ∧ j = i then ln f i + 1 else ln g' j) (fun g' j => if g' = f ∧ j = i then xs else X g' j) (Bd + 1) ∧ ∀ p b, p.ok cnt → bkX T (fun g' j => if g' = f ∧ j = i then v3 else V g' j) p = some b → bkX T V p = some b ∨ w.heap.size ≤ b := by
  have hTg : bkX T V (.t f) = some g := by simp [bkX, hT, Value.ownBlock]
  have hgl : g < w.heap.size := h.low (.t f) g trivial hTg
  have hor : ∀ p b, p.ok cnt → bkX T (fun g' j => if g' = f ∧ j = i then v3 else V g' j) p = some b → bkX T V p = some b ∨ (p = .e f i ∧ w.heap.size ≤ b) := by
    intro p b hp hb
    cases p with
    | t f' => exact .inl hb
    | e f' j =>
      by_cases e : f' = f ∧ j = i
      · obtain ⟨rfl, rfl⟩ := e
        simp only [bkX, and_self, if_true] at hb
        rcases hf.own b hb with h1 | h1
        · exact .inl h1
        · exact .inr ⟨rfl, by omega⟩
      · simp only [bkX, if_neg e] at hb
        exact .inl hb
  have hgi : (V f i).ownBlock ≠ some g := fun e => by have := h.dd (.t f) (.e f i) g trivial hi hTg e; cases this
  have hold : ∀ p b, p.ok cnt → p ≠ .e f i → p ≠ .t f → bkX T V p = some b → (w3.setCell ⟨g, i, none⟩ v3).heap[b]? = w.heap[b]? := fun p b hp h1 h2 hb => by
    have hbl := h.low p b hp hb
    exact (Below.heap_setCell _ _ _ _ (fun e => h2 (h.dd p (.t f) b hp trivial hb (by rw [e]; exact hTg)))).trans ((hf.block b (by omega) (fun e => h1 (h.dd p (.e f i) b hp hi hb e))).trans (hk b hbl))
  have hv3 : v3.ownBlock ≠ some g := fun e => by
    rcases hf.own g e with h1 | h1
    · exact hgi h1
    · omega
  refine ⟨⟨fun f' => ?_, fun f' j hj => ?_, fun p q b hp hq h1 h2 => ?_, fun f' j hj => ?_⟩, fun p b hp hb => (hor p b hp hb).imp id (fun h => h.2)⟩
  · by_cases e : f' = f
    · subst e
      have hrow := row_kept (h.tb f') (w' := w3) (fun b hb => by
        have : b = g := by have h0 : bkX T V (.t f') = some b := hb; rw [hTg] at h0; exact (Option.some.inj h0).symm
        subst this
        exact (hf.block b (by omega) hgi).trans (hk b hgl))
      rw [hT] at hrow ⊢
      have h2 := row_setC hrow i v3
      rw [range_set _ i hi] at h2
      simpa using h2
    · have := row_kept (h.tb f') (w' := w3.setCell ⟨g, i, none⟩ v3) (fun b hb => hold (.t f') b trivial (by intro e; cases e) (by intro e'; cases e'; exact e rfl) hb)
      simpa [e] using this
  · by_cases e : f' = f ∧ j = i
    · obtain ⟨rfl, rfl⟩ := e
      simp only [and_self, if_true]
      exact own_setCell hr hv3
    · simp only [if_neg e]
      exact row_kept (h.rw f' j hj) (fun b hb => hold (.e f' j) b hj (by intro e'; cases e'; exact e ⟨rfl, rfl⟩) (by intro e'; cases e') hb)
  · rcases hor p b hp h1 with u | ⟨u1, u2⟩ <;> rcases hor q b hq h2 with v | ⟨v1, v2⟩
    · exact h.dd p q b hp hq u v
    · have := h.low p b hp u; omega
    · have := h.low q b hq v; omega
    · exact u1.trans v1.symm
  · have := h.bd f' j hj
    by_cases e : f' = f ∧ j = i
    · obtain ⟨rfl, rfl⟩ := e; simp only [and_self, if_true]; omega
    · simp only [if_neg e]; omega
/-- the cell of the table -/
theorem OS.at0 (h : OS w cnt T V ln X Bd) (f : Bool) (i : Nat) (hi : i < cnt f) : ∃ g c, T f = .slice (some ⟨g, 0, none⟩) (cnt f) c ∧ w.cell? ⟨g, i, none⟩ = some (V f i) := by
  have hr := h.tb f
  rcases hr.2 with ⟨_, h0⟩ | ⟨g, cap, cur, e, _⟩
  · omega
  · refine ⟨g, cap, e, ?_⟩
    rw [e] at hr
    rw [hr.cellAt i (by omega)]
    simp [hi]
end
/-- a mark -/
def mv1 (f : Bool) (i : Nat) : List Value := if f then [.int .i64 (-1 - (i : Int)), .int .i64 0] else Iv.cs (mkI (-1 - (i : Int)))
def mkX (f : Bool) (i m : Nat) : List Value := (List.replicate m (mv1 f i)).flatten
theorem mv1_len (f : Bool) (i : Nat) : (mv1 f i).length = cz f := by cases f <;> rfl
theorem mkX_succ (f : Bool) (i m : Nat) : mkX f i (m + 1) = mkX f i m ++ mv1 f i := by
  unfold mkX
  rw [List.replicate_succ', List.flatten_append]
  simp
theorem mkX_len (f : Bool) (i m : Nat) : (mkX f i m).length = m * cz f := by
  induction m with
  | zero => simp [mkX]
  | succ m ih => rw [mkX_succ, List.length_append, ih, mv1_len, Nat.succ_mul]
theorem mkX_at (f : Bool) (i : Nat) : ∀ (m k : Nat), k < m → (mkX f i m)[k * cz f]? = some (.int .i64 (-1 - (i : Int))) := by
  intro m
  induction m with
  | zero => intro k h; omega
  | succ m ih =>
    intro k h
    rw [mkX_succ]
    by_cases e : k = m
    · subst e
      rw [List.getElem?_append_right (by rw [mkX_len]; exact Nat.le_refl _), mkX_len, Nat.sub_self]
      cases f <;> rfl
    · rw [List.getElem?_append_left (by rw [mkX_len]; exact Nat.mul_lt_mul_of_pos_right (by omega) (cz_pos f))]
      exact ih k (by omega)
theorem mv1_one (f : Bool) (i : Nat) : ∀ u ∈ mv1 f i, u.oneCell' = true := by
  cases f
  · exact one5 _
  · intro u hu
    simp [mv1] at hu
    rcases hu with rfl | rfl <;> rfl
theorem take_write {xs vs L : List Value} {o : Nat} (h : xs.take o = L) (hl : o ≤ xs.length) : (xs.take o ++ vs ++ xs.drop (o + vs.length)).take (o + vs.length) = L ++ vs := by
  rw [List.take_append_of_le_length (by simp; omega), h]
  apply List.take_of_length_le
  rw [List.length_append, ← h]
  simp
  omega
theorem neg_i (i : Nat) (hi : i ≤ 10000000) : IntKind.i64.wrap (-1 - (i : Int)) = -1 - (i : Int) := by simp [IntKind.wrap, IntKind.bits, IntKind.signed]; omega
theorem add_one (i : Nat) (hi : i ≤ 100000000) : IntKind.i64.wrap ((i : Int) + 1) = (i : Int) + 1 := by simp [IntKind.wrap, IntKind.bits, IntKind.signed]; omega
/-- the lists of a kind with a number below k are full of their marks -/
def full (X : Bool → Nat → List Value) (ln : Bool → Nat → Nat) (f : Bool) (k : Nat) : Prop := ∀ j, j < k → X f j = mkX f j (ln f j)
/-- all lists, each with a mark of its own -/
def PX (w wq : World) (cnt : Bool → Nat) (T : Bool → Value) (V : Bool → Nat → Value) (Bd : Nat) : Prop := ∃ (V' : Bool → Nat → Value) (ln' : Bool → Nat → Nat), OS wq cnt T V' ln' (fun f j => mkX f j (ln' f j)) Bd ∧ ∀ p b, p.ok cnt → bkX T V' p = some b → bkX T V p = some b ∨ w.heap.size ≤ b
end Go.Proofs.Ytnecakampgdhcaa
