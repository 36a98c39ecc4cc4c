/- HELPERS: programs that came out are their owner's. -/
import Derived.Test.YteanndophopplaaDoorCp
import Derived.Lib.MinMax
import Derived.RegionTactic
import Derived.ChangeAlike
import Derived.Test.YteanndophopplaaDoorGA
/- HELPERS: rows of instructions that came out; what a call leaves. -/
namespace Go.Proofs.YteanndophopplaaDoor
open Go.RowKit
set_option linter.unusedVariables false
set_option linter.unusedSimpArgs false
abbrev I6 : Iv := ⟨6, 0, 0, 0, none, 0, 0⟩
theorem size49 : (Tryd.prog.info? 51).map (·.size) = some 2 := by kernel_rfl
theorem size51 : (Tryd.prog.info? 49).map (·.size) = some 5 := by kernel_rfl
theorem Below.two {base g o o' : Nat} {w w' : World} (h : Below base w w') (hg : base ≤ g) (p q : Value) : Below base w ((w'.setCell ⟨g, o, none⟩ p).setCell ⟨g, o', none⟩ q) := (h.setCell (p := ⟨g, o, none⟩) hg p).setCell (p := ⟨g, o', none⟩) hg q
theorem Chs.setCells {A : Nat → Prop} {b : Nat} (hA : A b) : ∀ (vs : List Value) (o : Nat) (w w' : World), Chs A w w' → Chs A w (w'.setCells b o vs)
  | [], _, _, _, h => h
  | v :: vs, o, w, w', h => Chs.setCells hA vs (o + 1) w _ (h.set (a := ⟨b, o, none⟩) hA v)
theorem Chs.two {A : Nat → Prop} {g o o' : Nat} {w w' : World} (h : Chs A w w') (hg : A g) (p q : Value) : Chs A w ((w'.setCell ⟨g, o, none⟩ p).setCell ⟨g, o', none⟩ q) := (h.set (a := ⟨g, o, none⟩) hg p).set (a := ⟨g, o', none⟩) hg q
/-- a row of instructions, each with ranges of its own -/
structure GR (w : World) (base : Nat) (z : Value) (MS : List Iv) (l : List In) : Prop where
  lms : MS.length = l.length
  row : w.ownsRow base 49 5 z l.length (MS.flatMap Iv.cs)
  lo : ∀ j (hj : j < l.length), IOw w base z (MS.getD j default) l[j]
  pw : ∀ j j' b, j < l.length → j' < l.length → j ≠ j' → (MS.getD j default).rv.ownBlock = some b → (MS.getD j' default).rv.ownBlock ≠ some b
theorem GR.low {w : World} {base : Nat} {z : Value} {MS : List Iv} {l : List In} (h : GR w base z MS l) (j b : Nat) (hj : j < l.length) (hb : (MS.getD j default).rv.ownBlock = some b) : base ≤ b ∧ b < w.heap.size := (h.lo j hj).rr.lt b hb
theorem GR.kept {w w' : World} {base : Nat} {z : Value} {MS : List Iv} {l : List In} (h : GR w base z MS l) (hk : ∀ b, base ≤ b → b < w.heap.size → (z.ownBlock = some b ∨ ∃ j, j < l.length ∧ (MS.getD j default).rv.ownBlock = some b) → w'.heap[b]? = w.heap[b]?) : GR w' base z MS l :=
  ⟨h.lms, row_kept h.row (fun b hb => hk b (h.row.lt b hb).1 (h.row.lt b hb).2 (.inl hb)), fun j hj => by
    have hO := h.lo j hj
    exact ⟨hO.op, hO.x, hO.y, hO.a, hO.len, hO.sm, row_kept hO.rr (fun b hb => hk b (hO.rr.lt b hb).1 (hO.rr.lt b hb).2 (.inr ⟨j, hj, hb⟩)), hO.ne⟩, h.pw⟩
theorem GR.below {w w' : World} {base : Nat} {z : Value} {MS : List Iv} {l : List In} (h : GR w base z MS l) (hb : Below w.heap.size w w') : GR w' base z MS l := h.kept (fun b _ hl _ => hb.block b hl)
theorem GR.nil (w : World) (base : Nat) (z : Value) (h : w.ownsRow base 49 5 z 0 []) : GR w base z [] [] := ⟨rfl, h, fun j hj => by simp at hj, fun j j' b hj => by simp at hj⟩
theorem Chs.low {A : Nat → Prop} {base : Nat} {w w' : World} (h : Chs A w w') (hA : ∀ b, A b → base ≤ b) (hb : base ≤ w.heap.size) : Below base w w' := ⟨h.os, h.tape, h.output, h.size, fun b hb' => h.block b (by omega) (fun h' => by have := hA b h'; omega)⟩
theorem range_map_succ {α : Type} (f : Nat → α) (i : Nat) : (List.range (i + 1)).map f = (List.range i).map f ++ [f i] := by simp [List.range_succ]
theorem GR.none (w : World) (base : Nat) : GR w base (.slice none 0 0) [] [] := GR.nil _ _ _ (World.ownsRow_nil _ _ _ _)
theorem GR.mono {w : World} {base base' : Nat} {z : Value} {MS : List Iv} {l : List In} (h : GR w base z MS l) (hb : base' ≤ base) : GR w base' z MS l :=
  ⟨h.lms, h.row.mono hb, fun j hj => by
    have hO := h.lo j hj
    exact ⟨hO.op, hO.x, hO.y, hO.a, hO.len, hO.sm, hO.rr.mono hb, hO.ne⟩, h.pw⟩
end Go.Proofs.YteanndophopplaaDoor
/- HELPERS: lists that came out, each in a block by itself: one is written, one grows. -/
namespace Go.Proofs.YteanndophopplaaDoor
open Go.RowKit
set_option linter.unusedVariables false
set_option linter.unusedSimpArgs false
/-- what has a block of its own: the table of lists of a kind, a list -/
inductive Kx where
  | t (f : Bool)
  | e (f : Bool) (i : Nat)
def Kx.ok (cnt : Bool → Nat) : Kx → Prop
  | .t _ => True
  | .e f i => i < cnt f
def bkX (T : Bool → Value) (V : Bool → Nat → Value) : Kx → Option Nat
  | .t f => (T f).ownBlock
  | .e f i => (V f i).ownBlock
def et (f : Bool) : TypeId := if f then 47 else 22
def ct (f : Bool) : TypeId := if f then 51 else 49
def cz (f : Bool) : Nat := if f then 2 else 5
theorem cz_pos (f : Bool) : 0 < cz f := by cases f <;> decide
/-- the lists, each in a block by itself -/
structure OS (w : World) (cnt : Bool → Nat) (T : Bool → Value) (V : Bool → Nat → Value) (ln : Bool → Nat → Nat) (X : Bool → Nat → List Value) (Bd : Nat) : Prop where
  tb : ∀ f, w.ownsRow 0 (et f) 1 (T f) (cnt f) ((List.range (cnt f)).map (V f))
  rw : ∀ f i, i < cnt f → w.ownsRow 0 (ct f) (cz f) (V f i) (ln f i) (X f i)
  dd : ∀ p q b, p.ok cnt → q.ok cnt → bkX T V p = some b → bkX T V q = some b → p = q
  bd : ∀ f i, i < cnt f → ln f i ≤ Bd
section
variable {w w' : World} {cnt : Bool → Nat} {T : Bool → Value} {V : Bool → Nat → Value} {ln : Bool → Nat → Nat} {X : Bool → Nat → List Value} {Bd : Nat}
theorem OS.low (h : OS w cnt T V ln X Bd) : ∀ p b, p.ok cnt → bkX T V p = some b → b < w.heap.size := by
  intro p b hp hb
  cases p with
  | t f => exact ((h.tb f).lt b hb).2
  | e f i => exact ((h.rw f i hp).lt b hb).2
theorem OS.kept (h : OS w cnt T V ln X Bd) (hk : ∀ p b, p.ok cnt → bkX T V p = some b → w'.heap[b]? = w.heap[b]?) : OS w' cnt T V ln X Bd :=
  ⟨fun f => row_kept (h.tb f) (fun b hb => hk (.t f) b trivial hb), fun f i hi => row_kept (h.rw f i hi) (fun b hb => hk (.e f i) b hi hb), h.dd, h.bd⟩
theorem OS.set (h : OS w cnt T V ln X Bd) (f : Bool) (i : Nat) (hi : i < cnt f) (xs : List Value) (hr : w'.ownsRow 0 (ct f) (cz f) (V f i) (ln f i) xs) (hk : ∀ b, (V f i).ownBlock ≠ some b → w'.heap[b]? = w.heap[b]?) :
    OS w' cnt T V ln (fun g j => if g = f ∧ j = i then xs else X g j) Bd := by
  have hk' : ∀ p b, p.ok cnt → p ≠ .e f i → bkX T V p = some b → w'.heap[b]? = w.heap[b]? := fun p b hp hne hb => hk b (fun h' => hne (h.dd p (.e f i) b hp hi hb h'))
  refine ⟨fun g => row_kept (h.tb g) (fun b hb => hk' (.t g) b trivial (by intro e; cases e) hb), fun g j hj => ?_, h.dd, h.bd⟩
  by_cases e : g = f ∧ j = i
  · obtain ⟨rfl, rfl⟩ := e
    simp only [and_self, if_true]
    exact hr
  · simp only [if_neg e]
    exact row_kept (h.rw g j hj) (fun b hb => hk' (.e g j) b hj (by intro e'; cases e'; exact e ⟨rfl, rfl⟩) hb)
theorem range_set (n i : Nat) (hi : i < n) (F : Nat → Value) (v : Value) : ((List.range n).map F).set i v = (List.range n).map (fun j => if j = i then v else F j) := by
  apply List.ext_getElem
  · simp
  · intro j h1 h2
    by_cases e : i = j
    · subst e; simp
    · rw [List.getElem_set_ne e]; simp; intro h; exact absurd h.symm e
theorem OS.grow {wl w3 : World} (h : OS w cnt T V ln X Bd) (f : Bool) {g c : Nat} (hT : T f = .slice (some ⟨g, 0, none⟩) (cnt f) c) (i : Nat) (hi : i < cnt f) (xs : List Value) (v3 : Value)
    (hs : w.heap.size ≤ wl.heap.size) (hk : ∀ b, b < w.heap.size → wl.heap[b]? = w.heap[b]?) (hf : Frm wl w3 (V f i) v3) (hr : w3.ownsRow 0 (ct f) (cz f) v3 (ln f i + 1) xs) :
    OS (w3.setCell ⟨g, i, none⟩ v3) cnt T (fun g' j => if g' = f ∧ j = i then v3 else V g' j) (fun g' j => if g' = f ∧ j = i then ln f i + 1 else ln g' j) (fun g' j => if g' = f ∧ j = i then xs else X g' j) (Bd + 1) ∧ ∀ p b, p.ok cnt → bkX T (fun g' j => if g' = f ∧ j = i then v3 else V g' j) p = some b → bkX T V p = some b ∨ w.heap.size ≤ b := by
  have hTg : bkX T V (.t f) = some g := by simp [bkX, hT, Value.ownBlock]
  have hgl : g < w.heap.size := h.low (.t f) g trivial hTg
  have hor : ∀ p b, p.ok cnt → bkX T (fun g' j => if g' = f ∧ j = i then v3 else V g' j) p = some b → bkX T V p = some b ∨ (p = .e f i ∧ w.heap.size ≤ b) := by
    intro p b hp hb
    cases p with
    | t f' => exact .inl hb
    | e f' j =>
      by_cases e : f' = f ∧ j = i
      · obtain ⟨rfl, rfl⟩ := e
        simp only [bkX, and_self, if_true] at hb
        rcases hf.own b hb with h1 | h1
        · exact .inl h1
        · exact .inr ⟨rfl, by omega⟩
      · simp only [bkX, if_neg e] at hb
        exact .inl hb
  have hgi : (V f i).ownBlock ≠ some g := fun e => by have := h.dd (.t f) (.e f i) g trivial hi hTg e; cases this
  have hold : ∀ p b, p.ok cnt → p ≠ .e f i → p ≠ .t f → bkX T V p = some b → (w3.setCell ⟨g, i, none⟩ v3).heap[b]? = w.heap[b]? := fun p b hp h1 h2 hb => by
    have hbl := h.low p b hp hb
    exact (Below.heap_setCell _ _ _ _ (fun e => h2 (h.dd p (.t f) b hp trivial hb (by rw [e]; exact hTg)))).trans ((hf.block b (by omega) (fun e => h1 (h.dd p (.e f i) b hp hi hb e))).trans (hk b hbl))
  have hv3 : v3.ownBlock ≠ some g := fun e => by
    rcases hf.own g e with h1 | h1
    · exact hgi h1
    · omega
  refine ⟨⟨fun f' => ?_, fun f' j hj => ?_, fun p q b hp hq h1 h2 => ?_, fun f' j hj => ?_⟩, fun p b hp hb => (hor p b hp hb).imp id (fun h => h.2)⟩
  · by_cases e : f' = f
    · subst e
      have hrow := row_kept (h.tb f') (w' := w3) (fun b hb => by
        have : b = g := by have h0 : bkX T V (.t f') = some b := hb; rw [hTg] at h0; exact (Option.some.inj h0).symm
        subst this
        exact (hf.block b (by omega) hgi).trans (hk b hgl))
      rw [hT] at hrow ⊢
      have h2 := row_setC hrow i v3
      rw [range_set _ i hi] at h2
      simpa using h2
    · have := row_kept (h.tb f') (w' := w3.setCell ⟨g, i, none⟩ v3) (fun b hb => hold (.t f') b trivial (by intro e; cases e) (by intro e'; cases e'; exact e rfl) hb)
      simpa [e] using this
  · by_cases e : f' = f ∧ j = i
    · obtain ⟨rfl, rfl⟩ := e
      simp only [and_self, if_true]
      exact own_setCell hr hv3
    · simp only [if_neg e]
      exact row_kept (h.rw f' j hj) (fun b hb => hold (.e f' j) b hj (by intro e'; cases e'; exact e ⟨rfl, rfl⟩) (by intro e'; cases e') hb)
  · rcases hor p b hp h1 with u | ⟨u1, u2⟩ <;> rcases hor q b hq h2 with v | ⟨v1, v2⟩
    · exact h.dd p q b hp hq u v
    · have := h.low p b hp u; omega
    · have := h.low q b hq v; omega
    · exact u1.trans v1.symm
  · have := h.bd f' j hj
    by_cases e : f' = f ∧ j = i
    · obtain ⟨rfl, rfl⟩ := e; simp only [and_self, if_true]; omega
    · simp only [if_neg e]; omega
/-- the cell of the table -/
theorem OS.at0 (h : OS w cnt T V ln X Bd) (f : Bool) (i : Nat) (hi : i < cnt f) : ∃ g c, T f = .slice (some ⟨g, 0, none⟩) (cnt f) c ∧ w.cell? ⟨g, i, none⟩ = some (V f i) := by
  have hr := h.tb f
  rcases hr.2 with ⟨_, h0⟩ | ⟨g, cap, cur, e, _⟩
  · omega
  · refine ⟨g, cap, e, ?_⟩
    rw [e] at hr
    rw [hr.cellAt i (by omega)]
    simp [hi]
end
/-- a mark -/
def mv1 (f : Bool) (i : Nat) : List Value := if f then [.int .i64 (-1 - (i : Int)), .int .i64 0] else Iv.cs (mkI (-1 - (i : Int)))
def mkX (f : Bool) (i m : Nat) : List Value := (List.replicate m (mv1 f i)).flatten
theorem mv1_len (f : Bool) (i : Nat) : (mv1 f i).length = cz f := by cases f <;> rfl
theorem mkX_succ (f : Bool) (i m : Nat) : mkX f i (m + 1) = mkX f i m ++ mv1 f i := by
  unfold mkX
  rw [List.replicate_succ', List.flatten_append]
  simp
theorem mkX_len (f : Bool) (i m : Nat) : (mkX f i m).length = m * cz f := by
  induction m with
  | zero => simp [mkX]
  | succ m ih => rw [mkX_succ, List.length_append, ih, mv1_len, Nat.succ_mul]
theorem mkX_at (f : Bool) (i : Nat) : ∀ (m k : Nat), k < m → (mkX f i m)[k * cz f]? = some (.int .i64 (-1 - (i : Int))) := by
  intro m
  induction m with
  | zero => intro k h; omega
  | succ m ih =>
    intro k h
    rw [mkX_succ]
    by_cases e : k = m
    · subst e
      rw [List.getElem?_append_right (by rw [mkX_len]; exact Nat.le_refl _), mkX_len, Nat.sub_self]
      cases f <;> rfl
    · rw [List.getElem?_append_left (by rw [mkX_len]; exact Nat.mul_lt_mul_of_pos_right (by omega) (cz_pos f))]
      exact ih k (by omega)
theorem mv1_one (f : Bool) (i : Nat) : ∀ u ∈ mv1 f i, u.oneCell' = true := by
  cases f
  · exact one5 _
  · intro u hu
    simp [mv1] at hu
    rcases hu with rfl | rfl <;> rfl
theorem take_write {xs vs L : List Value} {o : Nat} (h : xs.take o = L) (hl : o ≤ xs.length) : (xs.take o ++ vs ++ xs.drop (o + vs.length)).take (o + vs.length) = L ++ vs := by
  rw [List.take_append_of_le_length (by simp; omega), h]
  apply List.take_of_length_le
  rw [List.length_append, ← h]
  simp
  omega
theorem neg_i (i : Nat) (hi : i ≤ 10000000) : IntKind.i64.wrap (-1 - (i : Int)) = -1 - (i : Int) := by simp [IntKind.wrap, IntKind.bits, IntKind.signed]; omega
theorem add_one (i : Nat) (hi : i ≤ 100000000) : IntKind.i64.wrap ((i : Int) + 1) = (i : Int) + 1 := by simp [IntKind.wrap, IntKind.bits, IntKind.signed]; omega
/-- the lists of a kind with a number below k are full of their marks -/
def full (X : Bool → Nat → List Value) (ln : Bool → Nat → Nat) (f : Bool) (k : Nat) : Prop := ∀ j, j < k → X f j = mkX f j (ln f j)
/-- all lists, each with a mark of its own -/
def PX (w wq : World) (cnt : Bool → Nat) (T : Bool → Value) (V : Bool → Nat → Value) (Bd : Nat) : Prop := ∃ (V' : Bool → Nat → Value) (ln' : Bool → Nat → Nat), OS wq cnt T V' ln' (fun f j => mkX f j (ln' f j)) Bd ∧ ∀ p b, p.ok cnt → bkX T V' p = some b → bkX T V p = some b ∨ w.heap.size ≤ b
end Go.Proofs.YteanndophopplaaDoor
namespace Go.Proofs.YteanndophopplaaDoor
open Go.RowKit
set_option linter.unusedVariables false
set_option linter.unusedSimpArgs false
theorem info22 : (Tryd.prog.info? 22).map (fun i => (i.zero, i.size, i.bytes)) = some (some (.slice none 0 0), 1, 24) := by kernel_rfl
theorem info36 : (Tryd.prog.info? 47).map (fun i => (i.zero, i.size, i.bytes)) = some (some (.slice none 0 0), 1, 24) := by kernel_rfl
theorem store51m {ops : Array Oper} {rest : List Oper} {op : Oper} {a : Act} {w : World} {Q : Exit → Act → World → Prop} (hgd : op.guard = none) (x y : Operand) (ho : op.op = .store 49 x y)
    (b k i : Nat) (hx : a.eval x = .pointer (some ⟨b, k * 5, none⟩)) (hy : a.eval y = (mkI (-1 - (i : Int))).v) (ht : w.there b (k * 5) 5)
    (h : wpList Tryd.prog ops Q rest (a.put op.dst undef) (w.setCells b (k * 5) (mv1 false i))) : wpList Tryd.prog ops Q (op :: rest) a w :=
  wpList_store_mid hgd 49 x y ho b (k * 5) #[.int .i64 (-1 - (i : Int)), .int .i64 0, .int .i64 0, .int .i64 0, .slice none 0 0] hx hy ht size51 (by simp [Value.oneCell']) h
theorem store49m {ops : Array Oper} {rest : List Oper} {op : Oper} {a : Act} {w : World} {Q : Exit → Act → World → Prop} (hgd : op.guard = none) (x y : Operand) (ho : op.op = .store 51 x y)
    (b k i : Nat) (hx : a.eval x = .pointer (some ⟨b, k * 2, none⟩)) (hy : a.eval y = .agg #[.int .i64 (-1 - (i : Int)), .int .i64 0]) (ht : w.there b (k * 2) 2)
    (h : wpList Tryd.prog ops Q rest (a.put op.dst undef) (w.setCells b (k * 2) (mv1 true i))) : wpList Tryd.prog ops Q (op :: rest) a w :=
  wpList_store_mid hgd 51 x y ho b (k * 2) #[.int .i64 (-1 - (i : Int)), .int .i64 0] hx hy ht size49 (by simp [Value.oneCell']) h
theorem rows_apart {w : World} {base base' size size' n n' : Nat} {e e' : TypeId} {v v' : Value} {xs xs' : List Value} (h : w.ownsRow base e size v n xs) (h' : w.ownsRow base' e' size' v' n' xs') (hne : e' ≠ e) : ∀ b, v'.ownBlock = some b → v.ownBlock ≠ some b := by
  intro b hb
  rcases h'.2 with ⟨rfl, _⟩ | ⟨g, cap, cur, rfl, hg, hc, _⟩
  · cases hb
  · simp only [Value.ownBlock, Option.some.injEq] at hb
    subst hb
    exact own_ne h hc hne
theorem OS.bdm {w : World} {cnt : Bool → Nat} {T : Bool → Value} {V : Bool → Nat → Value} {ln : Bool → Nat → Nat} {X : Bool → Nat → List Value} {Bd Bd' : Nat} (h : OS w cnt T V ln X Bd) (hb : Bd ≤ Bd') : OS w cnt T V ln X Bd' := ⟨h.tb, h.rw, h.dd, fun f i hi => Nat.le_trans (h.bd f i hi) hb⟩
theorem PX.bdm {w wq : World} {cnt : Bool → Nat} {T : Bool → Value} {V : Bool → Nat → Value} {Bd Bd' : Nat} (h : PX w wq cnt T V Bd) (hb : Bd ≤ Bd') : PX w wq cnt T V Bd' := by
  obtain ⟨V', ln', h1, h2⟩ := h
  exact ⟨V', ln', h1.bdm hb, h2⟩
abbrev cn (n0 n1 : Nat) : Bool → Nat := fun f => if f then n1 else n0
abbrev T2 (a0 a1 : Option Addr) (n0 c0 n1 c1 : Nat) : Bool → Value := fun f => if f then .slice a1 n1 c1 else .slice a0 n0 c0
abbrev KA (n0 n1 : Nat) (T : Bool → Value) (V : Bool → Nat → Value) : Nat → Prop := fun b => ∃ p : Kx, p.ok (cn n0 n1) ∧ bkX T V p = some b
/-- one list is written at one place -/
theorem OS.put {w : World} {cnt : Bool → Nat} {T : Bool → Value} {V : Bool → Nat → Value} {ln : Bool → Nat → Nat} {X : Bool → Nat → List Value} {Bd : Nat} (h : OS w cnt T V ln X Bd) (f : Bool) (i : Nat) (hi : i < cnt f) {rb rc : Nat} (hV : V f i = .slice (some ⟨rb, 0, none⟩) (ln f i) rc) (k : Nat) (hk : k < ln f i) (h3 : (X f i).take (k * cz f) = mkX f i k) :
    w.there rb (k * cz f) (cz f) ∧ OS (w.setCells rb (k * cz f) (mv1 f i)) cnt T V ln (fun g j => if g = f ∧ j = i then (X f i).take (k * cz f) ++ mv1 f i ++ (X f i).drop (k * cz f + (mv1 f i).length) else X g j) Bd ∧ ((X f i).take (k * cz f) ++ mv1 f i ++ (X f i).drop (k * cz f + (mv1 f i).length)).take ((k + 1) * cz f) = mkX f i (k + 1) := by
  have hrow := h.rw f i hi
  rw [hV] at hrow
  have hl := hrow.1
  have hm := mv1_len f i
  have hle : k * cz f + cz f ≤ ln f i * cz f := by rw [← Nat.succ_mul]; exact Nat.mul_le_mul_right _ hk
  refine ⟨row_there hrow hle, ?_, ?_⟩
  · exact h.set (w' := w.setCells rb (k * cz f) (mv1 f i)) f i hi _ (by rw [hV]; exact row_setCells (mv1 f i) (k * cz f) w (X f i) hrow (by rw [hm, hl]; exact hle)) (fun b hb => setCells_old rb _ _ _ b (by intro e; apply hb; rw [hV, e]; rfl))
  · have ht := take_write (vs := mv1 f i) (o := k * cz f) h3 (by omega)
    rw [mkX_succ, Nat.succ_mul]
    rw [hm] at ht ⊢
    exact ht
theorem OS.blk {w : World} {cnt : Bool → Nat} {T : Bool → Value} {V : Bool → Nat → Value} {ln : Bool → Nat → Nat} {X : Bool → Nat → List Value} {Bd : Nat} (h : OS w cnt T V ln X Bd) (f : Bool) (i : Nat) (hi : i < cnt f) {ra : Option Addr} {rc : Nat} (hV : V f i = .slice ra (ln f i) rc) (hp : 0 < ln f i) : ∃ rb, ra = some ⟨rb, 0, none⟩ := by
  have hrow := h.rw f i hi
  rw [hV] at hrow
  rcases hrow.2 with ⟨_, e⟩ | ⟨g, cap, cur, e, _⟩
  · omega
  · simp only [Value.slice.injEq] at e; exact ⟨g, e.1⟩
theorem OS.shape {w : World} {cnt : Bool → Nat} {T : Bool → Value} {V : Bool → Nat → Value} {ln : Bool → Nat → Nat} {X : Bool → Nat → List Value} {Bd : Nat} (h : OS w cnt T V ln X Bd) (f : Bool) (i : Nat) (hi : i < cnt f) : ∃ ra rc, V f i = .slice ra (ln f i) rc := by
  obtain ⟨a, c, e, _⟩ := row_shape (h.rw f i hi)
  exact ⟨a, c, e⟩
theorem gr_blk {w : World} {base n c : Nat} {z1 : Option Addr} {MS : List Iv} {l : List In} (h : GR w base (.slice z1 n c) MS l) (hp : 0 < n) : ∃ b, z1 = some ⟨b, 0, none⟩ := by
  have hn : n = l.length := row_len h.row
  rcases h.row.2 with ⟨_, h0⟩ | ⟨b, cap, cur, e, _⟩
  · omega
  · simp only [Value.slice.injEq] at e; exact ⟨b, e.1⟩
theorem gr_at4 {w : World} {base n c b : Nat} {MS : List Iv} {l : List In} (h : GR w base (.slice (some ⟨b, 0, none⟩) n c) MS l) (k : Nat) (hk : k < n) : w.cell? ⟨b, k * 5 + 4, none⟩ = some (MS.getD k default).rv := by
  obtain rfl : n = l.length := row_len h.row
  have hkl : k < MS.length := by have := h.lms; omega
  rw [h.row.cellAt (k * 5 + 4) (by omega), flat5 MS k 4 hkl (by omega)]
  simp [List.getD_eq_getElem?_getD, List.getElem?_eq_getElem hkl]
section
variable {w w' : World} {cnt : Bool → Nat} {T : Bool → Value} {V : Bool → Nat → Value} {ln : Bool → Nat → Nat} {X : Bool → Nat → List Value} {Bd : Nat}
theorem OS.growN (d : Nat) {wl w3 : World} (h : OS w cnt T V ln X Bd) (f : Bool) {g c : Nat} (hT : T f = .slice (some ⟨g, 0, none⟩) (cnt f) c) (i : Nat) (hi : i < cnt f) (xs : List Value) (v3 : Value)
    (hs : w.heap.size ≤ wl.heap.size) (hk : ∀ b, b < w.heap.size → wl.heap[b]? = w.heap[b]?) (hf : Frm wl w3 (V f i) v3) (hr : w3.ownsRow 0 (ct f) (cz f) v3 (ln f i + d) xs) :
    OS (w3.setCell ⟨g, i, none⟩ v3) cnt T (fun g' j => if g' = f ∧ j = i then v3 else V g' j) (fun g' j => if g' = f ∧ j = i then ln f i + d else ln g' j) (fun g' j => if g' = f ∧ j = i then xs else X g' j) (Bd + d) ∧ ∀ p b, p.ok cnt → bkX T (fun g' j => if g' = f ∧ j = i then v3 else V g' j) p = some b → bkX T V p = some b ∨ w.heap.size ≤ b := by
  have hTg : bkX T V (.t f) = some g := by simp [bkX, hT, Value.ownBlock]
  have hgl : g < w.heap.size := h.low (.t f) g trivial hTg
  have hor : ∀ p b, p.ok cnt → bkX T (fun g' j => if g' = f ∧ j = i then v3 else V g' j) p = some b → bkX T V p = some b ∨ (p = .e f i ∧ w.heap.size ≤ b) := by
    intro p b hp hb
    cases p with
    | t f' => exact .inl hb
    | e f' j =>
      by_cases e : f' = f ∧ j = i
      · obtain ⟨rfl, rfl⟩ := e
        simp only [bkX, and_self, if_true] at hb
        rcases hf.own b hb with h1 | h1
        · exact .inl h1
        · exact .inr ⟨rfl, by omega⟩
      · simp only [bkX, if_neg e] at hb
        exact .inl hb
  have hgi : (V f i).ownBlock ≠ some g := fun e => by have := h.dd (.t f) (.e f i) g trivial hi hTg e; cases this
  have hold : ∀ p b, p.ok cnt → p ≠ .e f i → p ≠ .t f → bkX T V p = some b → (w3.setCell ⟨g, i, none⟩ v3).heap[b]? = w.heap[b]? := fun p b hp h1 h2 hb => by
    have hbl := h.low p b hp hb
    exact (Below.heap_setCell _ _ _ _ (fun e => h2 (h.dd p (.t f) b hp trivial hb (by rw [e]; exact hTg)))).trans ((hf.block b (by omega) (fun e => h1 (h.dd p (.e f i) b hp hi hb e))).trans (hk b hbl))
  have hv3 : v3.ownBlock ≠ some g := fun e => by
    rcases hf.own g e with h1 | h1
    · exact hgi h1
    · omega
  refine ⟨⟨fun f' => ?_, fun f' j hj => ?_, fun p q b hp hq h1 h2 => ?_, fun f' j hj => ?_⟩, fun p b hp hb => (hor p b hp hb).imp id (fun h => h.2)⟩
  · by_cases e : f' = f
    · subst e
      have hrow := row_kept (h.tb f') (w' := w3) (fun b hb => by
        have : b = g := by have h0 : bkX T V (.t f') = some b := hb; rw [hTg] at h0; exact (Option.some.inj h0).symm
        subst this
        exact (hf.block b (by omega) hgi).trans (hk b hgl))
      rw [hT] at hrow ⊢
      have h2 := row_setC hrow i v3
      rw [range_set _ i hi] at h2
      simpa using h2
    · have := row_kept (h.tb f') (w' := w3.setCell ⟨g, i, none⟩ v3) (fun b hb => hold (.t f') b trivial (by intro e; cases e) (by intro e'; cases e'; exact e rfl) hb)
      simpa [e] using this
  · by_cases e : f' = f ∧ j = i
    · obtain ⟨rfl, rfl⟩ := e
      simp only [and_self, if_true]
      exact own_setCell hr hv3
    · simp only [if_neg e]
      exact row_kept (h.rw f' j hj) (fun b hb => hold (.e f' j) b hj (by intro e'; cases e'; exact e ⟨rfl, rfl⟩) (by intro e'; cases e') hb)
  · rcases hor p b hp h1 with u | ⟨u1, u2⟩ <;> rcases hor q b hq h2 with v | ⟨v1, v2⟩
    · exact h.dd p q b hp hq u v
    · have := h.low p b hp u; omega
    · have := h.low q b hq v; omega
    · exact u1.trans v1.symm
  · have := h.bd f' j hj
    by_cases e : f' = f ∧ j = i
    · obtain ⟨rfl, rfl⟩ := e; simp only [and_self, if_true]; omega
    · simp only [if_neg e]; omega
end
theorem mkX_two (f : Bool) (i m : Nat) : mkX f i (m + 2) = mkX f i m ++ (mv1 f i ++ mv1 f i) := by rw [show m + 2 = (m + 1) + 1 by omega, mkX_succ, mkX_succ, List.append_assoc]
theorem two_one (f : Bool) (i : Nat) : ∀ u ∈ mv1 f i ++ mv1 f i, u.oneCell' = true := fun u hu => by rcases List.mem_append.1 hu with h | h <;> exact mv1_one f i u h
def BK (Za : Nat → Option Addr) (Na Ca : Nat → Nat) (MS : Nat → List Iv) (i b : Nat) : Prop := (Value.slice (Za i) (Na i) (Ca i)).ownBlock = some b ∨ ∃ j, j < Na i ∧ ((MS i).getD j default).rv.ownBlock = some b
/-- so many programs that came out -/
structure PrsN (np : Nat) (w : World) (Za : Nat → Option Addr) (Na Ca : Nat → Nat) (MS : Nat → List Iv) (lx : Nat → List In) : Prop where
  gr : ∀ i, i < np → GR w 0 (.slice (Za i) (Na i) (Ca i)) (MS i) (lx i)
  sm : ∀ i, i < np → Na i ≤ 20000
  rg : ∀ i, i < np → ∀ I ∈ lx i, I.R.length ≤ 20000
  ap : ∀ i j b, i < np → j < np → i ≠ j → BK Za Na Ca MS i b → ¬ BK Za Na Ca MS j b
def BKN (np : Nat) (Za : Nat → Option Addr) (Na Ca : Nat → Nat) (MS : Nat → List Iv) (b : Nat) : Prop := ∃ i, i < np ∧ BK Za Na Ca MS i b
def ofN (Na : Nat → Nat) : Nat → Nat
  | 0 => 0
  | i + 1 => ofN Na i + Na i
theorem ofN_mono (Na : Nat → Nat) : ∀ (j i : Nat), i ≤ j → ofN Na i ≤ ofN Na j := by
  intro j
  induction j with
  | zero => intro i h; obtain rfl : i = 0 := by omega
            exact Nat.le_refl _
  | succ j ih =>
    intro i h
    by_cases e : i = j + 1
    · subst e; exact Nat.le_refl _
    · have := ih i (by omega); simp only [ofN]; omega
theorem ofN_le (Na : Nat → Nat) (np : Nat) (h : ∀ i, i < np → Na i ≤ 20000) : ∀ i, i ≤ np → ofN Na i ≤ 20000 * i := by
  intro i
  induction i with
  | zero => intro _; simp [ofN]
  | succ i ih => intro hi; have := ih (by omega); have := h i (by omega); simp only [ofN]; omega
def VVt (Na : Nat → Nat) (MS : Nat → List Iv) : Nat → Nat → Value
  | 0, _ => .slice none 0 0
  | n + 1, j => if ofN Na n ≤ j then ((MS n).getD (j - ofN Na n) default).rv else VVt Na MS n j
/-- the lists of the tables -/
def VV (np : Nat) (Za : Nat → Option Addr) (Na Ca : Nat → Nat) (MS : Nat → List Iv) : Bool → Nat → Value := fun f j => if f then VVt Na MS np j else .slice (Za j) (Na j) (Ca j)
theorem VV_true {np : Nat} {Za : Nat → Option Addr} {Na Ca : Nat → Nat} {MS : Nat → List Iv} (j : Nat) (hj : j < ofN Na np) : ∃ i k, i < np ∧ k < Na i ∧ VV np Za Na Ca MS true j = ((MS i).getD k default).rv ∧ j = ofN Na i + k := by
  show ∃ i k, i < np ∧ k < Na i ∧ VVt Na MS np j = ((MS i).getD k default).rv ∧ j = ofN Na i + k
  induction np with
  | zero => simp [ofN] at hj
  | succ n ih =>
    by_cases h : ofN Na n ≤ j
    · refine ⟨n, j - ofN Na n, by omega, by simp only [ofN] at hj; omega, ?_, by omega⟩
      rw [VVt, if_pos h]
    · obtain ⟨i, k, h1, h2, h3, h4⟩ := ih (by omega)
      exact ⟨i, k, by omega, h2, by rw [VVt, if_neg h]; exact h3, h4⟩
theorem VV_of {np : Nat} {Za : Nat → Option Addr} {Na Ca : Nat → Nat} {MS : Nat → List Iv} (i k : Nat) (hi : i < np) (hk : k < Na i) : VV np Za Na Ca MS true (ofN Na i + k) = ((MS i).getD k default).rv := by
  show VVt Na MS np (ofN Na i + k) = _
  induction np with
  | zero => omega
  | succ n ih =>
    by_cases e : i = n
    · subst e
      rw [VVt, if_pos (by omega), Nat.add_sub_cancel_left]
    · have := ofN_mono Na n (i + 1) (by omega)
      simp only [ofN] at this
      rw [VVt, if_neg (by omega)]
      exact ih (by omega)
theorem KA_bk {np : Nat} {w : World} {Za : Nat → Option Addr} {Na Ca : Nat → Nat} {MS : Nat → List Iv} {T : Bool → Value} {B : Nat} (hT : ∀ f b, (T f).ownBlock = some b → B ≤ b) (b : Nat) (h : KA np (ofN Na np) T (VV np Za Na Ca MS) b) : BKN np Za Na Ca MS b ∨ B ≤ b := by
  obtain ⟨p, hp, hb⟩ := h
  cases p with
  | t f => exact .inr (hT f b hb)
  | e f j =>
    cases f with
    | false => exact .inl ⟨j, hp, .inl hb⟩
    | true =>
      have hj : j < ofN Na np := hp
      obtain ⟨i, k, hi, hk, e, h⟩ := VV_true (Za := Za) (Ca := Ca) (MS := MS) j hj
      have hb' : (VV np Za Na Ca MS true j).ownBlock = some b := hb
      rw [e] at hb'
      exact .inl ⟨i, hi, .inr ⟨k, hk, hb'⟩⟩
theorem PrsN.os {np : Nat} {w W : World} {Za : Nat → Option Addr} {Na Ca : Nat → Nat} {MS : Nat → List Iv} {lx : Nat → List In} (h : PrsN np w Za Na Ca MS lx) (hb : Below w.heap.size w W) {T : Bool → Value} (h0 : W.ownsRow w.heap.size 22 1 (T false) np ((List.range np).map (VV np Za Na Ca MS false))) (h1 : W.ownsRow w.heap.size 47 1 (T true) (ofN Na np) ((List.range (ofN Na np)).map (VV np Za Na Ca MS true))) :
    ∃ ln X, OS W (cn np (ofN Na np)) T (VV np Za Na Ca MS) ln X 20000 := by
  have hlen : ∀ i, i < np → Na i = (lx i).length := fun i hi => row_len (h.gr i hi).row
  have hrow : ∀ i, i < np → W.ownsRow 0 49 5 (VV np Za Na Ca MS false i) (Na i) ((MS i).flatMap Iv.cs) := fun i hi => by
    have := row_kept (h.gr i hi).row (w' := W) (fun b hb' => hb.block b ((h.gr i hi).row.lt b hb').2)
    rw [← hlen i hi] at this
    exact this
  have hrg : ∀ j, j < ofN Na np → ∃ m xs, m ≤ 20000 ∧ W.ownsRow 0 51 2 (VV np Za Na Ca MS true j) m xs := fun j hj => by
    obtain ⟨i, k, hi, hk, e, _⟩ := VV_true (Za := Za) (Ca := Ca) (MS := MS) j hj
    have hO := (h.gr i hi).lo k (by rw [← hlen i hi]; exact hk)
    rw [e]
    exact ⟨_, _, h.rg i hi _ (List.getElem_mem _), row_kept hO.rr (fun b hb' => hb.block b (hO.rr.lt b hb').2)⟩
  have hx : ∀ j, ∃ mx : Nat × List Value, j < ofN Na np → mx.1 ≤ 20000 ∧ W.ownsRow 0 51 2 (VV np Za Na Ca MS true j) mx.1 mx.2 := fun j => by
    by_cases hj : j < ofN Na np
    · obtain ⟨m, xs, h1, h2⟩ := hrg j hj
      exact ⟨(m, xs), fun _ => ⟨h1, h2⟩⟩
    · exact ⟨(0, []), fun h => absurd h hj⟩
  obtain ⟨F, hF⟩ := Classical.axiomOfChoice hx
  have hBK : ∀ f j b, (Kx.e f j).ok (cn np (ofN Na np)) → bkX T (VV np Za Na Ca MS) (.e f j) = some b → ∃ i, i < np ∧ BK Za Na Ca MS i b ∧ (f = false → j = i) ∧ (f = true → ∃ k, k < Na i ∧ j = ofN Na i + k ∧ ((MS i).getD k default).rv.ownBlock = some b) := fun f j b hp hb' => by
    cases f with
    | false => exact ⟨j, hp, .inl hb', fun _ => rfl, (fun h => by cases h)⟩
    | true =>
      obtain ⟨i, k, hi, hk, e, hh⟩ := VV_true (Za := Za) (Ca := Ca) (MS := MS) j hp
      have hb2 : (VV np Za Na Ca MS true j).ownBlock = some b := hb'
      rw [e] at hb2
      exact ⟨i, hi, .inr ⟨k, hk, hb2⟩, (fun h => by cases h), fun _ => ⟨k, hk, hh, hb2⟩⟩
  have hlt : ∀ f j b, (Kx.e f j).ok (cn np (ofN Na np)) → bkX T (VV np Za Na Ca MS) (.e f j) = some b → b < w.heap.size := fun f j b hp hb' => by
    obtain ⟨i, hi, hB, _⟩ := hBK f j b hp hb'
    rcases hB with hB | ⟨k, hk, hB⟩
    · exact ((h.gr i hi).row.lt b hB).2
    · exact ((h.gr i hi).low k b (by rw [← hlen i hi]; exact hk) hB).2
  have hT : ∀ f b, (T f).ownBlock = some b → w.heap.size ≤ b := fun f b hb' => by
    cases f with
    | false => exact (h0.lt b hb').1
    | true => exact (h1.lt b hb').1
  refine ⟨fun f j => if f then (F j).1 else Na j, fun f j => if f then (F j).2 else (MS j).flatMap Iv.cs, ⟨fun f => ?_, fun f j hj => ?_, fun p q b hp hq h1' h2' => ?_, fun f j hj => ?_⟩⟩
  · cases f with
    | false => exact h0.mono (Nat.zero_le _)
    | true => exact h1.mono (Nat.zero_le _)
  · cases f with
    | false => exact hrow j hj
    | true => exact (hF j hj).2
  · cases p with
    | t f =>
      cases q with
      | t g =>
        cases f <;> cases g
        · rfl
        · exact absurd h1' (rows_apart h0 h1 (by decide) b h2')
        · exact absurd h2' (rows_apart h0 h1 (by decide) b h1')
        · rfl
      | e g j => have := hT f b h1'; have := hlt g j b hq h2'; omega
    | e f j =>
      cases q with
      | t g => have := hT g b h2'; have := hlt f j b hp h1'; omega
      | e g j' =>
        obtain ⟨i, hi, hB, u1, u2⟩ := hBK f j b hp h1'
        obtain ⟨i', hi', hB', v1, v2⟩ := hBK g j' b hq h2'
        have hii : i = i' := Classical.byContradiction fun hne => h.ap i i' b hi hi' hne hB hB'
        subst hii
        cases f <;> cases g
        · rw [u1 rfl, v1 rfl]
        · obtain ⟨k', hk', _, hb2⟩ := v2 rfl
          have hj : j = i := u1 rfl
          have hz : (Value.slice (Za i) (Na i) (Ca i)).ownBlock = some b := by rw [← hj]; exact h1'
          exact absurd hz ((h.gr i hi).lo k' (by rw [← hlen i hi]; exact hk') |>.ne b hb2)
        · obtain ⟨k', hk', _, hb2⟩ := u2 rfl
          have hj : j' = i := v1 rfl
          have hz : (Value.slice (Za i) (Na i) (Ca i)).ownBlock = some b := by rw [← hj]; exact h2'
          exact absurd hz ((h.gr i hi).lo k' (by rw [← hlen i hi]; exact hk') |>.ne b hb2)
        · obtain ⟨k, hk, hh, hb1⟩ := u2 rfl
          obtain ⟨k', hk', hh', hb2⟩ := v2 rfl
          have hkk : k = k' := Classical.byContradiction fun hne => (h.gr i hi).pw k k' b (by rw [← hlen i hi]; exact hk) (by rw [← hlen i hi]; exact hk') hne hb1 hb2
          have : j = j' := by omega
          rw [this]
  · cases f with
    | false => exact h.sm j hj
    | true => exact (hF j hj).1
/-- all lists: of the ranges so many full of their marks, of the instructions so many -/
def PY (w wq : World) (cnt : Bool → Nat) (T : Bool → Value) (V : Bool → Nat → Value) (Bd i1 i0 : Nat) : Prop := ∃ (V' : Bool → Nat → Value) (ln' : Bool → Nat → Nat) (X' : Bool → Nat → List Value), OS wq cnt T V' ln' X' Bd ∧ full X' ln' true i1 ∧ full X' ln' false i0 ∧ ∀ p b, p.ok cnt → bkX T V' p = some b → bkX T V p = some b ∨ w.heap.size ≤ b
theorem PY.bdm {w wq : World} {cnt : Bool → Nat} {T : Bool → Value} {V : Bool → Nat → Value} {Bd Bd' i1 i0 : Nat} (h : PY w wq cnt T V Bd i1 i0) (hb : Bd ≤ Bd') : PY w wq cnt T V Bd' i1 i0 := by
  obtain ⟨V', ln', X', h1, h2, h3, h4⟩ := h
  exact ⟨V', ln', X', h1.bdm hb, h2, h3, h4⟩
theorem setCells_os (b : Nat) : ∀ (vs : List Value) (o : Nat) (w : World), (w.setCells b o vs).os = w.os ∧ (w.setCells b o vs).tape = w.tape ∧ (w.setCells b o vs).output = w.output
  | [], _, _ => ⟨rfl, rfl, rfl⟩
  | v :: vs, o, w => setCells_os b vs (o + 1) (w.setCell ⟨b, o, none⟩ v)
/-- what is written lies in a block that is new -/
theorem chs_new {A : Nat → Prop} {b : Nat} {w0 w : World} (hb : w0.heap.size ≤ b) (vs : List Value) (o : Nat) (h : Chs A w0 w) : Chs A w0 (w.setCells b o vs) := by
  refine ⟨?_, ?_, ?_, by rw [setCells_size]; exact h.size, fun k hk hn => (setCells_old b vs o w k (by omega)).trans (h.block k hk hn)⟩
  · exact (setCells_os b vs o w).1.trans h.os
  · exact (setCells_os b vs o w).2.1.trans h.tape
  · exact (setCells_os b vs o w).2.2.trans h.output
set_option maxRecDepth 100000 in
set_option maxHeartbeats 32000000 in
theorem own17N {np : Nat} {w : World} {g : Nat} {Za : Nat → Option Addr} {Na Ca : Nat → Nat} {MS : Nat → List Iv} {lx : Nat → List In} (hnp : np ≤ 3) (h : PrsN np w Za Na Ca MS lx) (hL : ∀ i, i < np → w.cell? ⟨g, i * 3, none⟩ = some (.slice (Za i) (Na i) (Ca i))) (hgl : g < w.heap.size) :
    Calls Tryd.prog 17 #[.slice (some ⟨g, 0, none⟩) np np] w fun e w' => e = .returned (.bool true) ∧ Chs (BKN np Za Na Ca MS) w w' := by
  obtain ⟨i51, hi51, hz510, hz511, hz512⟩ := info_parts info51
  obtain ⟨i49, hi49, hz490, hz491, hz492⟩ := info_parts info49
  obtain ⟨i22, hi22, hz220, hz221, hz222⟩ := info_parts info22
  obtain ⟨i36, hi36, hz360, hz361, hz362⟩ := info_parts info36
  have HT := hid h
  have HLL := hid hL
  have hofl := ofN_le Na np h.sm
  have HOFL := hid hofl
  clear h hL hofl
  go_enter Tryd.func17, Tryd.ntmps17
  go_wp2_with fail
  go_loopw [3, 4, 5] (fun u3 u4 y wq => ∃ (i : Nat) (z0 z1 : Option Addr) (c0 c1 : Nat), u3 = .slice z1 (ofN Na i) c1 ∧ u4 = .slice z0 i c0 ∧ y = .int .i64 (i : Int) ∧ i ≤ np ∧ Hid (wq.ownsRow w.heap.size 22 1 (.slice z0 i c0) i ((List.range i).map (VV np Za Na Ca MS false))) ∧ Hid (wq.ownsRow w.heap.size 47 1 (.slice z1 (ofN Na i) c1) (ofN Na i) ((List.range (ofN Na i)).map (VV np Za Na Ca MS true))) ∧ Hid (Below w.heap.size w wq)) (fun _ _ y _ => np - (intOf y).toNat)
  case atStart => exact ⟨0, none, none, 0, 0, rfl, rfl, rfl, by omega, World.ownsRow_nil _ _ _ _, World.ownsRow_nil _ _ _ _, Below.refl _ _⟩
  case round =>
    obtain ⟨i, z0, z1, c0, c1, rfl, rfl, rfl, hi, H0, H1, HB⟩ := hrel
    have hWw : w.heap.size ≤ wr.heap.size := HB.out.size
    by_cases hil : i < np
    · have b1 : decide ((i : Int) < (np : Int)) = true := by simp; omega
      have b2 : (i : Int) < (np : Int) := by omega
      have ad1 := add_one i (by omega)
      have hNi := HT.out.sm i hil
      have ho2 := HOFL.out i (by omega)
      have HO1 : Hid (ofN Na (i + 1) = ofN Na i + Na i) := rfl
      have hgw : g < wr.heap.size := by omega
      obtain ⟨za, hza⟩ : ∃ za, za = Za i := ⟨_, rfl⟩
      obtain ⟨na, hna⟩ : ∃ na, na = Na i := ⟨_, rfl⟩
      obtain ⟨ca, hca⟩ : ∃ ca, ca = Ca i := ⟨_, rfl⟩
      have HZA := hid (And.intro hza (And.intro hna hca))
      rw [← hna] at HO1 hNi
      have hVi : VV np Za Na Ca MS false i = .slice za na ca := by rw [hza, hna, hca]; rfl
      have HVI := hid hVi
      obtain ⟨oi, hoi⟩ : ∃ oi, oi = ofN Na i := ⟨_, rfl⟩
      rw [← hoi] at HO1 ho2 H1 ⊢
      have HOI := hid hoi
      clear hza hna hca hVi hoi
      go_wp2_with fail
      go_loopw [3, 6] (fun u3 y wq => ∃ (k : Nat) (z1 : Option Addr) (c1 : Nat), u3 = .slice z1 (oi + k) c1 ∧ y = .int .i64 (k : Int) ∧ k ≤ na ∧ Hid (wq.ownsRow w.heap.size 22 1 (.slice z0 i c0) i ((List.range i).map (VV np Za Na Ca MS false))) ∧ Hid (wq.ownsRow w.heap.size 47 1 (.slice z1 (oi + k) c1) (oi + k) ((List.range (oi + k)).map (VV np Za Na Ca MS true))) ∧ Hid (Below w.heap.size w wq)) (fun _ y _ => na - (intOf y).toNat)
      case atStart => exact ⟨0, z1, c1, rfl, rfl, by omega, H0.out, H1.out, HB.out⟩
      case round =>
        clear H0 H1 HB
        obtain ⟨k, z1, c1, rfl, rfl, hk, H0, H1, HB⟩ := hrel
        have hWw' : w.heap.size ≤ wr.heap.size := HB.out.size
        obtain ⟨eza, ena, eca⟩ := HZA.out
        have m0 : wr.cell? ⟨g, i * 3, none⟩ = some (.slice za na ca) := by rw [eza, ena, eca]; exact (cell_eq (HB.out.block g hgl) _).trans (HLL.out i hil)
        have hgw' : g < wr.heap.size := by omega
        by_cases hkl : k < na
        · have b3 : decide ((k : Int) < (na : Int)) = true := by simp; omega
          have b4 : (k : Int) < (na : Int) := by omega
          have ad2 := add_one k (by omega)
          have hGi := HT.out.gr i hil
          rw [← eza, ← ena, ← eca] at hGi
          obtain ⟨gb, hgb⟩ := gr_blk hGi (by omega)
          rw [hgb] at hGi m0
          have hgbl : gb < w.heap.size := (hGi.row.lt gb rfl).2
          have m4 : wr.cell? ⟨gb, k * 5 + 4, none⟩ = some ((MS i).getD k default).rv := (cell_eq (HB.out.block gb hgbl) _).trans (gr_at4 hGi k hkl)
          have hVk : VV np Za Na Ca MS true (oi + k) = ((MS i).getD k default).rv := by rw [HOI.out]; exact VV_of i k hil (by omega)
          obtain ⟨M, hM⟩ : ∃ M, M = (MS i).getD k default := ⟨_, rfl⟩
          rw [← hM] at m4 hVk
          obtain ⟨op, xx, yy, aa, r1, r2, r3⟩ := M
          have m5 : wr.cell? ⟨gb, k * 5 + 4, none⟩ = some (.slice r1 r2 r3) := m4
          have hVk' : VV np Za Na Ca MS true (oi + k) = .slice r1 r2 r3 := hVk
          clear m4 hVk
          have m4 := m5
          have hVk := hVk'
          clear m5 hVk'
          have HO6 : Hid ((wr.alloc (.cells #[.slice r1 r2 r3] 47)).ownsRow w.heap.size 47 1 (.slice z1 (oi + k) c1) (oi + k) ((List.range (oi + k)).map (VV np Za Na Ca MS true))) := H1.out.alloc _
          have HL6 : Hid ((wr.alloc (.cells #[.slice r1 r2 r3] 47)).ownsRow 0 47 1 (.slice (some ⟨wr.heap.size, 0, none⟩) 1 1) 1 [.slice r1 r2 r3]) := World.ownsRow_lit (base := 0) (e := 47) (size := 1) wr #[.slice r1 r2 r3] 1 (Nat.zero_le _) (by unfold maxLen; omega) rfl
          have hone' : ∀ u ∈ ([.slice r1 r2 r3] : List Value), u.oneCell' = true := fun u hu => by simp at hu; subst hu; rfl
          have hbs' : w.heap.size ≤ (wr.alloc (.cells #[.slice r1 r2 r3] 47)).heap.size := by (try simp) <;> omega
          have HVK := hid hVk
          have hgbw : gb < wr.heap.size := by omega
          clear hM hVk hGi eza ena eca
          subst hgb
          go_wp2_with (at_builtin; refine wpList_append_row rfl (.tmp 33) (.tmp 43) 62 rfl w.heap.size 47 i36 (.slice none 0 0) 1 24 Tryd.underlying62 hi36 hz360 hz361 hz362 rfl (by decide) (.slice z1 (oi + k) c1) (oi + k) ((List.range (oi + k)).map (VV np Za Na Ca MS true)) rfl HO6.out (.slice (some ⟨wr.heap.size, 0, none⟩) 1 1) 1 0 [.slice r1 r2 r3] rfl HL6.out (by intro h; omega) hone' (by unfold maxLen; omega) (by omega) hbs' ?_; intro v7 w7 ho7 hf7 hn7; obtain ⟨x1, d1, rfl, hx1⟩ := row_shape ho7.out; clear hx1 hn7)
          have hk7 : ∀ b, b < wr.heap.size → (Value.slice z1 (oi + k) c1).ownBlock ≠ some b → w7.heap[b]? = wr.heap[b]? := fun b hb hne => (hf7.out.block b (by (try simp) <;> omega) hne).trans (heap_alloc_old _ _ hb)
          have hz7' : wr.heap.size + 1 ≤ w7.heap.size := by have := hf7.out.size; simpa using this
          refine ⟨⟨k + 1, x1, d1, rfl, by push_cast; rfl, by omega, row_kept H0.out (fun b hb => hk7 b (H0.out.lt b hb).2 (rows_apart H1.out H0.out (by decide) b hb)), ?_, ⟨hf7.out.os.trans HB.out.os, hf7.out.tape.trans HB.out.tape, hf7.out.output.trans HB.out.output, by omega, fun b hb => (hk7 b (by omega) (fun h => by have := (H1.out.lt b h).1; omega)).trans (HB.out.block b hb)⟩⟩, by simp [intOf]; omega⟩
          rw [← Nat.add_assoc, range_map_succ, HVK.out]
          exact ho7.out
        · have b3 : decide ((k : Int) < (na : Int)) = false := by simp; omega
          obtain rfl : na = k := by omega
          have HO6 : Hid ((wr.alloc (.cells #[.slice za na ca] 22)).ownsRow w.heap.size 22 1 (.slice z0 i c0) i ((List.range i).map (VV np Za Na Ca MS false))) := H0.out.alloc _
          have HL6 : Hid ((wr.alloc (.cells #[.slice za na ca] 22)).ownsRow 0 22 1 (.slice (some ⟨wr.heap.size, 0, none⟩) 1 1) 1 [.slice za na ca]) := World.ownsRow_lit (base := 0) (e := 22) (size := 1) wr #[.slice za na ca] 1 (Nat.zero_le _) (by unfold maxLen; omega) rfl
          have hone : ∀ u ∈ ([.slice za na ca] : List Value), u.oneCell' = true := fun u hu => by simp at hu; subst hu; rfl
          have hbs : w.heap.size ≤ (wr.alloc (.cells #[.slice za na ca] 22)).heap.size := by (try simp) <;> omega
          clear eza ena eca
          go_wp2_with (at_builtin; refine wpList_append_row rfl (.tmp 45) (.tmp 51) 63 rfl w.heap.size 22 i22 (.slice none 0 0) 1 24 Tryd.underlying63 hi22 hz220 hz221 hz222 rfl (by decide) (.slice z0 i c0) i ((List.range i).map (VV np Za Na Ca MS false)) rfl HO6.out (.slice (some ⟨wr.heap.size, 0, none⟩) 1 1) 1 0 [.slice za na ca] rfl HL6.out (by intro h; omega) hone (by unfold maxLen; omega) (by omega) hbs ?_; intro v7 w7 ho7 hf7 hn7; obtain ⟨x0, d0, rfl, hx0⟩ := row_shape ho7.out; clear hx0 hn7)
          have hz7 : wr.heap.size + 1 ≤ w7.heap.size := by have := hf7.out.size; simpa using this
          have h07 : w7.ownsRow w.heap.size 22 1 (.slice x0 (i + 1) d0) (i + 1) ((List.range (i + 1)).map (VV np Za Na Ca MS false)) := by
            rw [range_map_succ, HVI.out]
            exact ho7.out
          have hk7 : ∀ b, b < wr.heap.size → (Value.slice z0 i c0).ownBlock ≠ some b → w7.heap[b]? = wr.heap[b]? := fun b hb hne => (hf7.out.block b (by (try simp) <;> omega) hne).trans (heap_alloc_old _ _ hb)
          have h17 : w7.ownsRow w.heap.size 47 1 (.slice z1 (oi + na) c1) (oi + na) ((List.range (oi + na)).map (VV np Za Na Ca MS true)) := row_kept H1.out (fun b hb => hk7 b (H1.out.lt b hb).2 (rows_apart H0.out H1.out (by decide) b hb))
          have hB7 : Below w.heap.size w w7 := ⟨hf7.out.os.trans HB.out.os, hf7.out.tape.trans HB.out.tape, hf7.out.output.trans HB.out.output, by omega, fun b hb => (hk7 b (by omega) (fun h => by have := (H0.out.lt b h).1; omega)).trans (HB.out.block b hb)⟩
          exact ⟨⟨i + 1, x0, z1, d0, c1, by rw [HO1.out], rfl, by push_cast; rfl, by omega, h07, by rw [HO1.out]; exact h17, hB7⟩, by simp [intOf]; omega⟩
    · have b1 : decide ((i : Int) < (np : Int)) = false := by simp; omega
      obtain rfl : np = i := by omega
      obtain ⟨ln, X, hOS⟩ := HT.out.os HB.out (T := T2 z0 z1 np c0 (ofN Na np) c1) H0.out H1.out
      have hTb : ∀ f b, (T2 z0 z1 np c0 (ofN Na np) c1 f).ownBlock = some b → w.heap.size ≤ b := fun f b hb => by
        cases f with
        | false => exact (H0.out.lt b hb).1
        | true => exact (H1.out.lt b hb).1
      have hfinal : ∀ w', Chs (KA np (ofN Na np) (T2 z0 z1 np c0 (ofN Na np) c1) (VV np Za Na Ca MS)) wr w' → Chs (BKN np Za Na Ca MS) w w' := fun w' hc =>
        ⟨hc.os.trans HB.out.os, hc.tape.trans HB.out.tape, hc.output.trans HB.out.output, Nat.le_trans HB.out.size hc.size, fun b hb hn => (hc.block b (by omega) (fun h => (KA_bk (w := w) hTb b h).elim hn (by omega))).trans (HB.out.block b hb)⟩
      have hnn := HOFL.out np (by omega)
      obtain ⟨V, hVV⟩ : ∃ V, V = VV np Za Na Ca MS := ⟨_, rfl⟩
      obtain ⟨n1, hn1⟩ : ∃ n1, n1 = ofN Na np := ⟨_, rfl⟩
      rw [← hn1] at hOS hfinal hnn ⊢
      rw [← hVV] at hOS hfinal
      have hn1b : n1 ≤ 60000 := by omega
      have HFINAL := hid hfinal
      obtain ⟨w0, hw0⟩ : ∃ w0, w0 = wr := ⟨_, rfl⟩
      rw [← hw0] at HFINAL
      obtain ⟨n0, hn0⟩ : ∃ n0, n0 = np := ⟨_, rfl⟩
      obtain ⟨a0, ha0⟩ : ∃ a0, a0 = z0 := ⟨_, rfl⟩
      obtain ⟨a1, ha1⟩ : ∃ a1, a1 = z1 := ⟨_, rfl⟩
      subst ha0
      subst ha1
      have HC : Hid (Chs (KA np n1 (T2 a0 a1 np c0 n1 c1) V) w0 wr) := by rw [hw0]; exact Chs.refl _ _
      have HS : Hid (PY w0 wr (cn np n1) (T2 a0 a1 np c0 n1 c1) V 20000 0 0) := ⟨V, ln, X, hOS, (fun j hj => by omega), (fun j hj => by omega), fun p b _ hb => .inl hb⟩
      clear hOS hfinal hTb H0 H1 HB HT HLL HOFL hVV hn1 hw0 hWw hi hil hgl hnn
      rw [← hn0] at HFINAL HC HS hnp b1 ⊢
      have HN0 := hid hn0
      clear hn0
      go_wp2_with fail
      clear b1
      go_loopw [7] (fun y wq => ∃ i : Nat, y = .int .i64 (i : Int) ∧ i ≤ n1 ∧ Hid (PY w0 wq (cn n0 n1) (T2 a0 a1 n0 c0 n1 c1) V (20000) i 0) ∧ Hid (Chs (KA n0 n1 (T2 a0 a1 n0 c0 n1 c1) V) w0 wq)) (fun y _ => n1 - (intOf y).toNat)
      case atStart => exact ⟨0, rfl, by omega, HS.out, HC.out⟩
      case round =>
        clear HS HC
        obtain ⟨i, rfl, hi, HS, HC⟩ := hrel
        by_cases hil : i < n1
        · obtain ⟨g1, rfl⟩ : ∃ g, a1 = some ⟨g, 0, none⟩ := by
            obtain ⟨V', ln', X, h, _⟩ := HS.out
            obtain ⟨g', c', e, _⟩ := h.at0 true i hil
            simp only [T2, if_true, Bool.false_eq_true, if_false, Value.slice.injEq] at e
            exact ⟨g', e.1⟩
          have b1 : decide ((i : Int) < (n1 : Int)) = true := by simp; omega
          have b2 : (i : Int) < (n1 : Int) := by omega
          have ad1 := add_one i (by omega)
          have ng := neg_i i (by omega)
          go_wp2_with fail
          obtain ⟨V', ln, X0, hOS0, hf1, hf0, hor⟩ := HS.out
          have HOR := hid hor
          obtain ⟨ra, rc, hrv⟩ : ∃ ra rc, V' true i = .slice ra (ln true i) rc := hOS0.shape true i hil
          have hbl : ln true i ≤ (20000) := hOS0.bd true i hil
          have HRV := hid hrv
          have HS' : Hid (∃ X, OS wr (cn n0 n1) (T2 a0 (some ⟨g1, 0, none⟩) n0 c0 n1 c1) V' ln X (20000) ∧ full X ln true i ∧ full X ln false 0) := ⟨X0, hOS0, hf1, hf0⟩
          clear hrv hor hOS0 hf1 hf0 HS
          have HS := HS'
          clear HS'
          go_loopw [8] (fun y wq => ∃ k : Nat, y = .int .i64 (k : Int) ∧ k ≤ ln true i ∧ Hid (∃ X, OS wq (cn n0 n1) (T2 a0 (some ⟨g1, 0, none⟩) n0 c0 n1 c1) V' ln X (20000) ∧ full X ln false 0 ∧ full X ln true i ∧ (X true i).take (k * 2) = mkX true i k) ∧ Hid (Chs (KA n0 n1 (T2 a0 (some ⟨g1, 0, none⟩) n0 c0 n1 c1) V) w0 wq)) (fun y _ => ln true i - (intOf y).toNat)
          case atStart => exact ⟨0, rfl, by omega, (by obtain ⟨X, h, h2, hpv⟩ := HS.out; exact ⟨X, h, hpv, h2, by simp [mkX]⟩), HC.out⟩
          case round =>
            clear HS HC
            obtain ⟨k, rfl, hk, HS, HC⟩ := hrel
            obtain ⟨X, h, hpv, h2, h3⟩ := HS.out
            have q0 : wr.cell? ⟨g1, i, none⟩ = some (.slice ra (ln true i) rc) := by
              obtain ⟨g', c', e, q0⟩ := h.at0 true i hil
              simp only [T2, if_true, Bool.false_eq_true, if_false, Value.slice.injEq, Option.some.injEq, Addr.mk.injEq] at e
              obtain ⟨⟨rfl, _⟩, _⟩ := e
              rw [q0, HRV.out]
            by_cases hkl : k < ln true i
            · have b3 : decide ((k : Int) < (ln true i : Int)) = true := by simp; omega
              have b4 : (k : Int) < (ln true i : Int) := by omega
              have ad2 := add_one k (by omega)
              obtain ⟨rb, hrb⟩ := h.blk true i hil HRV.out (by omega)
              subst hrb
              obtain ⟨ht, hnew, htk⟩ := h.put true i hil HRV.out k hkl h3
              have ht' : wr.there rb (k * 2) 2 := ht
              have HNEW := hid hnew
              have HTK := hid htk
              have H2 := hid h2
              have HPV := hid hpv
              have hcc : Hid (Chs (KA n0 n1 (T2 a0 (some ⟨g1, 0, none⟩) n0 c0 n1 c1) V) w0 (wr.setCells rb (k * 2) (mv1 true i))) := by
                rcases HOR.out (.e true i) rb hil (by simp [bkX, HRV.out, Value.ownBlock]) with hA | hA
                · exact Chs.setCells (A := (KA n0 n1 (T2 a0 (some ⟨g1, 0, none⟩) n0 c0 n1 c1) V)) (b := rb) ⟨.e true i, hil, hA⟩ (mv1 true i) (k * 2) w0 wr HC.out
                · exact chs_new hA (mv1 true i) (k * 2) HC.out
              clear h h2 h3 hpv ht hnew htk HS
              go_wp2_with ((with_reducible refine store49m rfl (.tmp 76) (.tmp 75) rfl rb k i ?_ ?_ ht' ?_); (rfl); (rfl))
              refine ⟨⟨k + 1, by push_cast; rfl, by omega, ⟨_, HNEW.out, (fun j hj => by simp only [Bool.false_eq_true, Bool.true_eq_false, reduceCtorEq, false_and, if_false]; exact HPV.out j hj), fun j hj => ?_, ?_⟩, hcc.out⟩, by simp [intOf]; omega⟩
              · have hne : ¬ j = i := by omega
                simp only [hne, and_false, if_false]
                exact H2.out j hj
              · simp only [and_self, if_true]; exact HTK.out
            · have b3 : decide ((k : Int) < (ln true i : Int)) = false := by simp; omega
              obtain rfl : k = ln true i := by omega
              have hx : X true i = mkX true i (ln true i) := by
                rw [← h3]
                have : (X true i).length = ln true i * 2 := (h.rw true i hil).1
                rw [List.take_of_length_le (by omega)]
              have hfull : full X ln true (i + 1) := fun j hj => by
                by_cases e : j = i
                · subst e; exact hx
                · exact h2 j (by omega)
              have HFIN : Hid (PY w0 wr (cn n0 n1) (T2 a0 (some ⟨g1, 0, none⟩) n0 c0 n1 c1) V (20000) (i + 1) 0) := ⟨V', ln, X, h, hfull, hpv, HOR.out⟩
              clear h h2 h3 hx HS hpv hfull
              go_wp2
              exact ⟨⟨i + 1, by push_cast; rfl, by omega, HFIN.out, HC.out⟩, by simp [intOf]; omega⟩
        · have b1 : decide ((i : Int) < (n1 : Int)) = false := by simp; omega
          obtain rfl : n1 = i := by omega
          go_wp2_with fail
          clear b1
          go_loopw [9] (fun y wq => ∃ i : Nat, y = .int .i64 (i : Int) ∧ i ≤ n1 ∧ Hid (PY w0 wq (cn n0 n1) (T2 a0 a1 n0 c0 n1 c1) V (20000 + 2 * i) n1 0) ∧ Hid (Chs (KA n0 n1 (T2 a0 a1 n0 c0 n1 c1) V) w0 wq)) (fun y _ => n1 - (intOf y).toNat)
          case atStart => exact ⟨0, rfl, by omega, HS.out, HC.out⟩
          case round =>
            clear HS HC
            obtain ⟨i, rfl, hi, HS, HC⟩ := hrel
            by_cases hil : i < n1
            · obtain ⟨g1, rfl⟩ : ∃ g, a1 = some ⟨g, 0, none⟩ := by
                obtain ⟨V', ln', X, h, _⟩ := HS.out
                obtain ⟨g', c', e, _⟩ := h.at0 true i hil
                simp only [T2, if_true, Bool.false_eq_true, if_false, Value.slice.injEq] at e
                exact ⟨g', e.1⟩
              have b1 : decide ((i : Int) < (n1 : Int)) = true := by simp; omega
              have b2 : (i : Int) < (n1 : Int) := by omega
              have ad1 := add_one i (by omega)
              have ng := neg_i i (by omega)
              obtain ⟨V', ln', X', h, hf1, hf0, hor⟩ := HS.out
              obtain ⟨ra, rc, hrv⟩ := h.shape true i hil
              have hbl := h.bd true i hil
              have q0 : wr.cell? ⟨g1, i, none⟩ = some (.slice ra (ln' true i) rc) := by
                obtain ⟨g', c', e, q0⟩ := h.at0 true i hil
                simp only [T2, if_true, Bool.false_eq_true, if_false, Value.slice.injEq, Option.some.injEq, Addr.mk.injEq] at e
                obtain ⟨⟨rfl, _⟩, _⟩ := e
                rw [q0, hrv]
              have hg0 : g1 < wr.heap.size := h.low (.t true) g1 trivial rfl
              have hgi : (Value.slice ra (ln' true i) rc).ownBlock ≠ some g1 := fun e => by have := h.dd (.t true) (.e true i) g1 trivial hil rfl (by simp only [bkX]; rw [hrv]; exact e); cases this
              have hfz : wr.frozen? ⟨g1, i, none⟩ = false := by
                have htb : wr.ownsRow 0 47 1 (.slice (some ⟨g1, 0, none⟩) n1 c1) n1 ((List.range n1).map (V' true)) := h.tb true
                exact (row_there htb (j := i) (m := 1) (by omega) 0 (by omega)).2
              have hxi : X' true i = mkX true i (ln' true i) := hf1 i (by omega)
              have hrow : wr.ownsRow 0 51 2 (.slice ra (ln' true i) rc) (ln' true i) (mkX true i (ln' true i)) := by have := h.rw true i hil; rw [hrv, hxi] at this; exact this
              obtain ⟨m, hm⟩ : ∃ m, m = ln' true i := ⟨_, rfl⟩
              rw [← hm] at q0 hgi hrow hbl
              have HR0 : Hid ((wr.alloc (.cells #[.int .i64 (-1 - (i : Int)), .int .i64 0, .int .i64 (-1 - (i : Int)), .int .i64 0] 51)).ownsRow 0 51 2 (.slice ra m rc) m (mkX true i m)) := hrow.alloc _
              have HL0 : Hid ((wr.alloc (.cells #[.int .i64 (-1 - (i : Int)), .int .i64 0, .int .i64 (-1 - (i : Int)), .int .i64 0] 51)).ownsRow 0 51 2 (.slice (some ⟨wr.heap.size, 0, none⟩) 2 2) 2 (mv1 true i ++ mv1 true i)) := World.ownsRow_lit (base := 0) (e := 51) (size := 2) wr #[.int .i64 (-1 - (i : Int)), .int .i64 0, .int .i64 (-1 - (i : Int)), .int .i64 0] 2 (Nat.zero_le _) (by unfold maxLen; omega) rfl
              have HH := hid h
              have HOR := hid hor
              have HRV := hid hrv
              have HME := hid hm
              have HF1 := hid hf1
              have HF0 := hid hf0
              clear h hor hrv hm hrow HS hf1 hf0 hxi
              go_wp2_with (at_builtin; refine wpList_append_row rfl (.tmp 88) (.tmp 95) 47 rfl 0 51 i49 (.agg #[.int .i64 0, .int .i64 0]) 2 16 Tryd.underlying47 hi49 hz490 hz491 hz492 rfl (by decide) (.slice ra m rc) m (mkX true i m) rfl HR0.out (.slice (some ⟨wr.heap.size, 0, none⟩) 2 2) 2 0 (mv1 true i ++ mv1 true i) rfl HL0.out (by intro h; omega) (two_one _ _) (by unfold maxLen; omega) (by omega) (Nat.zero_le _) ?_; intro v3 w3 ho3 hf3 hn3; obtain ⟨y1, y3, rfl, hy3⟩ := row_shape ho3.out; have e2 : w3.heap[g1]? = wr.heap[g1]? := (hf3.out.block g1 (by (try simp) <;> omega) hgi).trans (heap_alloc_old _ _ hg0); have p1 := (cell_eq e2 i).trans q0; have p2 := (frz_eq e2 i).trans hfz; clear e2 hy3 hn3)
              have hwl : ∀ b, b < wr.heap.size → (wr.alloc (.cells #[.int .i64 (-1 - (i : Int)), .int .i64 0, .int .i64 (-1 - (i : Int)), .int .i64 0] 51)).heap[b]? = wr.heap[b]? := fun b hb => heap_alloc_old _ _ hb
              have hfr : Frm (wr.alloc (.cells #[.int .i64 (-1 - (i : Int)), .int .i64 0, .int .i64 (-1 - (i : Int)), .int .i64 0] 51)) w3 (V' true i) (.slice y1 (m + 2) y3) := by rw [HRV.out, ← HME.out]; exact hf3.out
              obtain ⟨s1, s2⟩ := HH.out.growN 2 true (g := g1) (c := c1) rfl i hil (mkX true i (m + 2)) (.slice y1 (m + 2) y3) (by simp) hwl hfr (by rw [← HME.out, mkX_two]; exact ho3.out)
              have hor : ∀ b, (V' true i).ownBlock = some b → KA n0 n1 (T2 a0 (some ⟨g1, 0, none⟩) n0 c0 n1 c1) V b ∨ w0.heap.size ≤ b := fun b hb => (HOR.out (.e true i) b hil hb).imp (fun h => ⟨.e true i, hil, h⟩) id
              have hsz3 : wr.heap.size + 1 ≤ w3.heap.size := by have := hf3.out.size; simpa using this
              refine ⟨⟨i + 1, by push_cast; rfl, by omega, ⟨_, _, _, s1.bdm (by omega), fun j hj => ?_, fun j hj => ?_, fun p b hp hb => ?_⟩, ⟨hf3.out.os.trans HC.out.os, hf3.out.tape.trans HC.out.tape, hf3.out.output.trans HC.out.output, by have := HC.out.size; simp [World.setCell]; omega, fun b hb hn => ?_⟩⟩, by simp [intOf]; omega⟩
              · by_cases e : true = true ∧ j = i
                · obtain ⟨_, rfl⟩ := e
                  (simp only [and_self, if_true]; rw [HME.out])
                · have hne : ¬ j = i := fun h => e ⟨rfl, h⟩
                  simp only [hne, and_false, if_false]
                  exact HF1.out j hj
              · by_cases e : false = true ∧ j = i
                · obtain ⟨_, rfl⟩ := e
                  contradiction
                · simp only [if_neg e]
                  exact HF0.out j hj
              · rcases s2 p b hp hb with h1 | h1
                · exact HOR.out p b hp h1
                · right; have := HC.out.size; omega
              · have hbr : b < wr.heap.size := by have := HC.out.size; omega
                exact (Below.heap_setCell _ _ _ _ (fun e => hn ⟨.t true, trivial, by rw [e]; rfl⟩)).trans ((hfr.block b (by (try simp) <;> omega) (fun h => (hor b h).elim hn (by omega))).trans ((hwl b hbr).trans (HC.out.block b hb hn)))
            · have b1 : decide ((i : Int) < (n1 : Int)) = false := by simp; omega
              obtain rfl : n1 = i := by omega
              have HS' := hid (HS.out.bdm (Bd' := 20000 + 120000) (by omega))
              clear HS
              have HS := HS'
              clear HS'
              go_wp2_with fail
              clear b1
              go_loopw [10] (fun y wq => ∃ i : Nat, y = .int .i64 (i : Int) ∧ i ≤ n0 ∧ Hid (PY w0 wq (cn n0 n1) (T2 a0 a1 n0 c0 n1 c1) V (140000) n1 i) ∧ Hid (Chs (KA n0 n1 (T2 a0 a1 n0 c0 n1 c1) V) w0 wq)) (fun y _ => n0 - (intOf y).toNat)
              case atStart => exact ⟨0, rfl, by omega, HS.out, HC.out⟩
              case round =>
                clear HS HC
                obtain ⟨i, rfl, hi, HS, HC⟩ := hrel
                by_cases hil : i < n0
                · obtain ⟨g0, rfl⟩ : ∃ g, a0 = some ⟨g, 0, none⟩ := by
                    obtain ⟨V', ln', X, h, _⟩ := HS.out
                    obtain ⟨g', c', e, _⟩ := h.at0 false i hil
                    simp only [T2, if_true, Bool.false_eq_true, if_false, Value.slice.injEq] at e
                    exact ⟨g', e.1⟩
                  have b1 : decide ((i : Int) < (n0 : Int)) = true := by simp; omega
                  have b2 : (i : Int) < (n0 : Int) := by omega
                  have ad1 := add_one i (by omega)
                  have ng := neg_i i (by omega)
                  go_wp2_with fail
                  obtain ⟨V', ln, X0, hOS0, hf1, hf0, hor⟩ := HS.out
                  have HOR := hid hor
                  obtain ⟨ra, rc, hrv⟩ : ∃ ra rc, V' false i = .slice ra (ln false i) rc := hOS0.shape false i hil
                  have hbl : ln false i ≤ (140000) := hOS0.bd false i hil
                  have HRV := hid hrv
                  have HS' : Hid (∃ X, OS wr (cn n0 n1) (T2 (some ⟨g0, 0, none⟩) a1 n0 c0 n1 c1) V' ln X (140000) ∧ full X ln false i ∧ full X ln true n1) := ⟨X0, hOS0, hf0, hf1⟩
                  clear hrv hor hOS0 hf1 hf0 HS
                  have HS := HS'
                  clear HS'
                  go_loopw [11] (fun y wq => ∃ k : Nat, y = .int .i64 (k : Int) ∧ k ≤ ln false i ∧ Hid (∃ X, OS wq (cn n0 n1) (T2 (some ⟨g0, 0, none⟩) a1 n0 c0 n1 c1) V' ln X (140000) ∧ full X ln true n1 ∧ full X ln false i ∧ (X false i).take (k * 5) = mkX false i k) ∧ Hid (Chs (KA n0 n1 (T2 (some ⟨g0, 0, none⟩) a1 n0 c0 n1 c1) V) w0 wq)) (fun y _ => ln false i - (intOf y).toNat)
                  case atStart => exact ⟨0, rfl, by omega, (by obtain ⟨X, h, h2, hpv⟩ := HS.out; exact ⟨X, h, hpv, h2, by simp [mkX]⟩), HC.out⟩
                  case round =>
                    clear HS HC
                    obtain ⟨k, rfl, hk, HS, HC⟩ := hrel
                    obtain ⟨X, h, hpv, h2, h3⟩ := HS.out
                    have q0 : wr.cell? ⟨g0, i, none⟩ = some (.slice ra (ln false i) rc) := by
                      obtain ⟨g', c', e, q0⟩ := h.at0 false i hil
                      simp only [T2, if_true, Bool.false_eq_true, if_false, Value.slice.injEq, Option.some.injEq, Addr.mk.injEq] at e
                      obtain ⟨⟨rfl, _⟩, _⟩ := e
                      rw [q0, HRV.out]
                    by_cases hkl : k < ln false i
                    · have b3 : decide ((k : Int) < (ln false i : Int)) = true := by simp; omega
                      have b4 : (k : Int) < (ln false i : Int) := by omega
                      have ad2 := add_one k (by omega)
                      obtain ⟨rb, hrb⟩ := h.blk false i hil HRV.out (by omega)
                      subst hrb
                      obtain ⟨ht, hnew, htk⟩ := h.put false i hil HRV.out k hkl h3
                      have ht' : wr.there rb (k * 5) 5 := ht
                      have HNEW := hid hnew
                      have HTK := hid htk
                      have H2 := hid h2
                      have HPV := hid hpv
                      have hcc : Hid (Chs (KA n0 n1 (T2 (some ⟨g0, 0, none⟩) a1 n0 c0 n1 c1) V) w0 (wr.setCells rb (k * 5) (mv1 false i))) := by
                        rcases HOR.out (.e false i) rb hil (by simp [bkX, HRV.out, Value.ownBlock]) with hA | hA
                        · exact Chs.setCells (A := (KA n0 n1 (T2 (some ⟨g0, 0, none⟩) a1 n0 c0 n1 c1) V)) (b := rb) ⟨.e false i, hil, hA⟩ (mv1 false i) (k * 5) w0 wr HC.out
                        · exact chs_new hA (mv1 false i) (k * 5) HC.out
                      clear h h2 h3 hpv ht hnew htk HS
                      go_wp2_with ((with_reducible refine store51m rfl (.tmp 121) (.tmp 120) rfl rb k i ?_ ?_ ht' ?_); (rfl); (rfl))
                      refine ⟨⟨k + 1, by push_cast; rfl, by omega, ⟨_, HNEW.out, (fun j hj => by simp only [Bool.false_eq_true, Bool.true_eq_false, reduceCtorEq, false_and, if_false]; exact HPV.out j hj), fun j hj => ?_, ?_⟩, hcc.out⟩, by simp [intOf]; omega⟩
                      · have hne : ¬ j = i := by omega
                        simp only [hne, and_false, if_false]
                        exact H2.out j hj
                      · simp only [and_self, if_true]; exact HTK.out
                    · have b3 : decide ((k : Int) < (ln false i : Int)) = false := by simp; omega
                      obtain rfl : k = ln false i := by omega
                      have hx : X false i = mkX false i (ln false i) := by
                        rw [← h3]
                        have : (X false i).length = ln false i * 5 := (h.rw false i hil).1
                        rw [List.take_of_length_le (by omega)]
                      have hfull : full X ln false (i + 1) := fun j hj => by
                        by_cases e : j = i
                        · subst e; exact hx
                        · exact h2 j (by omega)
                      have HFIN : Hid (PY w0 wr (cn n0 n1) (T2 (some ⟨g0, 0, none⟩) a1 n0 c0 n1 c1) V (140000) n1 (i + 1)) := ⟨V', ln, X, h, hpv, hfull, HOR.out⟩
                      clear h h2 h3 hx HS hpv hfull
                      go_wp2
                      exact ⟨⟨i + 1, by push_cast; rfl, by omega, HFIN.out, HC.out⟩, by simp [intOf]; omega⟩
                · have b1 : decide ((i : Int) < (n0 : Int)) = false := by simp; omega
                  obtain rfl : n0 = i := by omega
                  go_wp2_with fail
                  clear b1
                  go_loopw [12] (fun y wq => ∃ i : Nat, y = .int .i64 (i : Int) ∧ i ≤ n0 ∧ Hid (PY w0 wq (cn n0 n1) (T2 a0 a1 n0 c0 n1 c1) V (140000 + 2 * i) n1 n0) ∧ Hid (Chs (KA n0 n1 (T2 a0 a1 n0 c0 n1 c1) V) w0 wq)) (fun y _ => n0 - (intOf y).toNat)
                  case atStart => exact ⟨0, rfl, by omega, HS.out, HC.out⟩
                  case round =>
                    clear HS HC
                    obtain ⟨i, rfl, hi, HS, HC⟩ := hrel
                    by_cases hil : i < n0
                    · obtain ⟨g0, rfl⟩ : ∃ g, a0 = some ⟨g, 0, none⟩ := by
                        obtain ⟨V', ln', X, h, _⟩ := HS.out
                        obtain ⟨g', c', e, _⟩ := h.at0 false i hil
                        simp only [T2, if_true, Bool.false_eq_true, if_false, Value.slice.injEq] at e
                        exact ⟨g', e.1⟩
                      have b1 : decide ((i : Int) < (n0 : Int)) = true := by simp; omega
                      have b2 : (i : Int) < (n0 : Int) := by omega
                      have ad1 := add_one i (by omega)
                      have ng := neg_i i (by omega)
                      obtain ⟨V', ln', X', h, hf1, hf0, hor⟩ := HS.out
                      obtain ⟨ra, rc, hrv⟩ := h.shape false i hil
                      have hbl := h.bd false i hil
                      have q0 : wr.cell? ⟨g0, i, none⟩ = some (.slice ra (ln' false i) rc) := by
                        obtain ⟨g', c', e, q0⟩ := h.at0 false i hil
                        simp only [T2, if_true, Bool.false_eq_true, if_false, Value.slice.injEq, Option.some.injEq, Addr.mk.injEq] at e
                        obtain ⟨⟨rfl, _⟩, _⟩ := e
                        rw [q0, hrv]
                      have hg0 : g0 < wr.heap.size := h.low (.t false) g0 trivial rfl
                      have hgi : (Value.slice ra (ln' false i) rc).ownBlock ≠ some g0 := fun e => by have := h.dd (.t false) (.e false i) g0 trivial hil rfl (by simp only [bkX]; rw [hrv]; exact e); cases this
                      have hfz : wr.frozen? ⟨g0, i, none⟩ = false := by
                        have htb : wr.ownsRow 0 22 1 (.slice (some ⟨g0, 0, none⟩) n0 c0) n0 ((List.range n0).map (V' false)) := h.tb false
                        exact (row_there htb (j := i) (m := 1) (by omega) 0 (by omega)).2
                      have hxi : X' false i = mkX false i (ln' false i) := hf0 i (by omega)
                      have hrow : wr.ownsRow 0 49 5 (.slice ra (ln' false i) rc) (ln' false i) (mkX false i (ln' false i)) := by have := h.rw false i hil; rw [hrv, hxi] at this; exact this
                      obtain ⟨m, hm⟩ : ∃ m, m = ln' false i := ⟨_, rfl⟩
                      rw [← hm] at q0 hgi hrow hbl
                      have HR0 : Hid ((wr.alloc (.cells #[.int .i64 (-1 - (i : Int)), .int .i64 0, .int .i64 0, .int .i64 0, .slice none 0 0, .int .i64 (-1 - (i : Int)), .int .i64 0, .int .i64 0, .int .i64 0, .slice none 0 0] 49)).ownsRow 0 49 5 (.slice ra m rc) m (mkX false i m)) := hrow.alloc _
                      have HL0 : Hid ((wr.alloc (.cells #[.int .i64 (-1 - (i : Int)), .int .i64 0, .int .i64 0, .int .i64 0, .slice none 0 0, .int .i64 (-1 - (i : Int)), .int .i64 0, .int .i64 0, .int .i64 0, .slice none 0 0] 49)).ownsRow 0 49 5 (.slice (some ⟨wr.heap.size, 0, none⟩) 2 2) 2 (mv1 false i ++ mv1 false i)) := World.ownsRow_lit (base := 0) (e := 49) (size := 5) wr #[.int .i64 (-1 - (i : Int)), .int .i64 0, .int .i64 0, .int .i64 0, .slice none 0 0, .int .i64 (-1 - (i : Int)), .int .i64 0, .int .i64 0, .int .i64 0, .slice none 0 0] 2 (Nat.zero_le _) (by unfold maxLen; omega) rfl
                      have HH := hid h
                      have HOR := hid hor
                      have HRV := hid hrv
                      have HME := hid hm
                      have HF1 := hid hf1
                      have HF0 := hid hf0
                      clear h hor hrv hm hrow HS hf1 hf0 hxi
                      go_wp2_with (at_builtin; refine wpList_append_row rfl (.tmp 133) (.tmp 140) 22 rfl 0 49 i51 Z5 5 56 Tryd.underlying22 hi51 hz510 hz511 hz512 rfl (by decide) (.slice ra m rc) m (mkX false i m) rfl HR0.out (.slice (some ⟨wr.heap.size, 0, none⟩) 2 2) 2 0 (mv1 false i ++ mv1 false i) rfl HL0.out (by intro h; omega) (two_one _ _) (by unfold maxLen; omega) (by omega) (Nat.zero_le _) ?_; intro v3 w3 ho3 hf3 hn3; obtain ⟨y1, y3, rfl, hy3⟩ := row_shape ho3.out; have e2 : w3.heap[g0]? = wr.heap[g0]? := (hf3.out.block g0 (by (try simp) <;> omega) hgi).trans (heap_alloc_old _ _ hg0); have p1 := (cell_eq e2 i).trans q0; have p2 := (frz_eq e2 i).trans hfz; clear e2 hy3 hn3)
                      have hwl : ∀ b, b < wr.heap.size → (wr.alloc (.cells #[.int .i64 (-1 - (i : Int)), .int .i64 0, .int .i64 0, .int .i64 0, .slice none 0 0, .int .i64 (-1 - (i : Int)), .int .i64 0, .int .i64 0, .int .i64 0, .slice none 0 0] 49)).heap[b]? = wr.heap[b]? := fun b hb => heap_alloc_old _ _ hb
                      have hfr : Frm (wr.alloc (.cells #[.int .i64 (-1 - (i : Int)), .int .i64 0, .int .i64 0, .int .i64 0, .slice none 0 0, .int .i64 (-1 - (i : Int)), .int .i64 0, .int .i64 0, .int .i64 0, .slice none 0 0] 49)) w3 (V' false i) (.slice y1 (m + 2) y3) := by rw [HRV.out, ← HME.out]; exact hf3.out
                      obtain ⟨s1, s2⟩ := HH.out.growN 2 false (g := g0) (c := c0) rfl i hil (mkX false i (m + 2)) (.slice y1 (m + 2) y3) (by simp) hwl hfr (by rw [← HME.out, mkX_two]; exact ho3.out)
                      have hor : ∀ b, (V' false i).ownBlock = some b → KA n0 n1 (T2 (some ⟨g0, 0, none⟩) a1 n0 c0 n1 c1) V b ∨ w0.heap.size ≤ b := fun b hb => (HOR.out (.e false i) b hil hb).imp (fun h => ⟨.e false i, hil, h⟩) id
                      have hsz3 : wr.heap.size + 1 ≤ w3.heap.size := by have := hf3.out.size; simpa using this
                      refine ⟨⟨i + 1, by push_cast; rfl, by omega, ⟨_, _, _, s1.bdm (by omega), fun j hj => ?_, fun j hj => ?_, fun p b hp hb => ?_⟩, ⟨hf3.out.os.trans HC.out.os, hf3.out.tape.trans HC.out.tape, hf3.out.output.trans HC.out.output, by have := HC.out.size; simp [World.setCell]; omega, fun b hb hn => ?_⟩⟩, by simp [intOf]; omega⟩
                      · by_cases e : true = false ∧ j = i
                        · obtain ⟨_, rfl⟩ := e
                          contradiction
                        · simp only [if_neg e]
                          exact HF1.out j hj
                      · by_cases e : false = false ∧ j = i
                        · obtain ⟨_, rfl⟩ := e
                          (simp only [and_self, if_true]; rw [HME.out])
                        · have hne : ¬ j = i := fun h => e ⟨rfl, h⟩
                          simp only [hne, and_false, if_false]
                          exact HF0.out j hj
                      · rcases s2 p b hp hb with h1 | h1
                        · exact HOR.out p b hp h1
                        · right; have := HC.out.size; omega
                      · have hbr : b < wr.heap.size := by have := HC.out.size; omega
                        exact (Below.heap_setCell _ _ _ _ (fun e => hn ⟨.t false, trivial, by rw [e]; rfl⟩)).trans ((hfr.block b (by (try simp) <;> omega) (fun h => (hor b h).elim hn (by omega))).trans ((hwl b hbr).trans (HC.out.block b hb hn)))
                    · have b1 : decide ((i : Int) < (n0 : Int)) = false := by simp; omega
                      obtain rfl : n0 = i := by omega
                      have HS' := hid (HS.out.bdm (Bd' := 140000 + 120000) (by omega))
                      clear HS
                      have HS := HS'
                      clear HS'
                      obtain ⟨V', ln', X', h, hf1, hf0, hor⟩ := HS.out
                      have HST : Hid (OS wr (cn n0 n1) (T2 a0 a1 n0 c0 n1 c1) V' ln' (fun f j => mkX f j (ln' f j)) 400000) := ⟨h.tb, fun f j hj => (by
                        cases f with
                        | false => have := h.rw false j hj; rw [hf0 j hj] at this; exact this
                        | true => have := h.rw true j hj; rw [hf1 j hj] at this; exact this), h.dd, fun f j hj => by have := h.bd f j hj; omega⟩
                      clear h hf1 hf0 hor HS
                      go_wp2_with fail
                      clear b1
                      go_loopw [13] (fun y wq => ∃ i : Nat, y = .int .i64 (i : Int) ∧ i ≤ n1 ∧ Hid (OS wq (cn n0 n1) (T2 a0 a1 n0 c0 n1 c1) V' ln' (fun f j => mkX f j (ln' f j)) 400000) ∧ Hid (Chs (KA n0 n1 (T2 a0 a1 n0 c0 n1 c1) V) w0 wq)) (fun y _ => n1 - (intOf y).toNat)
                      case atStart => exact ⟨0, rfl, by omega, HST.out, HC.out⟩
                      case round =>
                        clear HST HC
                        obtain ⟨i, rfl, hi, HST, HC⟩ := hrel
                        by_cases hil : i < n1
                        · obtain ⟨g1, rfl⟩ : ∃ g, a1 = some ⟨g, 0, none⟩ := by
                            obtain ⟨g', c', e, _⟩ := HST.out.at0 true i hil
                            simp only [T2, if_true, Bool.false_eq_true, if_false, Value.slice.injEq] at e
                            exact ⟨g', e.1⟩
                          have b1 : decide ((i : Int) < (n1 : Int)) = true := by simp; omega
                          have b2 : (i : Int) < (n1 : Int) := by omega
                          have ad1 := add_one i (by omega)
                          have ng := neg_i i (by omega)
                          go_wp2_with fail
                          obtain ⟨ra, rc, hrv⟩ := HST.out.shape true i hil
                          have hbl := HST.out.bd true i hil
                          have HRV := hid hrv
                          clear hrv
                          go_loopw [14] (fun y wq => ∃ k : Nat, y = .int .i64 (k : Int) ∧ k ≤ ln' true i ∧ Hid (OS wq (cn n0 n1) (T2 a0 (some ⟨g1, 0, none⟩) n0 c0 n1 c1) V' ln' (fun f j => mkX f j (ln' f j)) 400000) ∧ Hid (Chs (KA n0 n1 (T2 a0 (some ⟨g1, 0, none⟩) n0 c0 n1 c1) V) w0 wq)) (fun y _ => ln' true i - (intOf y).toNat)
                          case atStart => exact ⟨0, rfl, by omega, HST.out, HC.out⟩
                          case round =>
                            clear HST HC
                            obtain ⟨k, rfl, hk, HST, HC⟩ := hrel
                            have q0 : wr.cell? ⟨g1, i, none⟩ = some (.slice ra (ln' true i) rc) := by
                              obtain ⟨g', c', e, q0⟩ := HST.out.at0 true i hil
                              simp only [T2, if_true, Bool.false_eq_true, if_false, Value.slice.injEq, Option.some.injEq, Addr.mk.injEq] at e
                              obtain ⟨⟨rfl, _⟩, _⟩ := e
                              rw [q0, HRV.out]
                            by_cases hkl : k < ln' true i
                            · have b3 : decide ((k : Int) < (ln' true i : Int)) = true := by simp; omega
                              have b4 : (k : Int) < (ln' true i : Int) := by omega
                              have ad2 := add_one k (by omega)
                              obtain ⟨rb, hrb⟩ := HST.out.blk true i hil HRV.out (by omega)
                              subst hrb
                              have hrow : wr.ownsRow 0 51 2 (.slice (some ⟨rb, 0, none⟩) (ln' true i) rc) (ln' true i) (mkX true i (ln' true i)) := by have := HST.out.rw true i hil; rw [HRV.out] at this; exact this
                              have m0 : wr.cell? ⟨rb, k * 2, none⟩ = some (.int .i64 (-1 - (i : Int))) := by rw [hrow.cellAt (k * 2) (by omega)]; exact mkX_at true i (ln' true i) k hkl
                              clear hrow
                              go_wp2
                              exact ⟨⟨k + 1, by push_cast; rfl, by omega, HST.out, HC.out⟩, by simp [intOf]; omega⟩
                            · have b3 : decide ((k : Int) < (ln' true i : Int)) = false := by simp; omega
                              go_wp2
                              exact ⟨⟨i + 1, by push_cast; rfl, by omega, HST.out, HC.out⟩, by simp [intOf]; omega⟩
                        · have b1 : decide ((i : Int) < (n1 : Int)) = false := by simp; omega
                          obtain rfl : n1 = i := by omega
                          go_wp2_with fail
                          clear b1
                          go_loopw [15] (fun y wq => ∃ i : Nat, y = .int .i64 (i : Int) ∧ i ≤ n0 ∧ Hid (OS wq (cn n0 n1) (T2 a0 a1 n0 c0 n1 c1) V' ln' (fun f j => mkX f j (ln' f j)) 400000) ∧ Hid (Chs (KA n0 n1 (T2 a0 a1 n0 c0 n1 c1) V) w0 wq)) (fun y _ => n0 - (intOf y).toNat)
                          case atStart => exact ⟨0, rfl, by omega, HST.out, HC.out⟩
                          case round =>
                            clear HST HC
                            obtain ⟨i, rfl, hi, HST, HC⟩ := hrel
                            by_cases hil : i < n0
                            · obtain ⟨g0, rfl⟩ : ∃ g, a0 = some ⟨g, 0, none⟩ := by
                                obtain ⟨g', c', e, _⟩ := HST.out.at0 false i hil
                                simp only [T2, if_true, Bool.false_eq_true, if_false, Value.slice.injEq] at e
                                exact ⟨g', e.1⟩
                              have b1 : decide ((i : Int) < (n0 : Int)) = true := by simp; omega
                              have b2 : (i : Int) < (n0 : Int) := by omega
                              have ad1 := add_one i (by omega)
                              have ng := neg_i i (by omega)
                              go_wp2_with fail
                              obtain ⟨ra, rc, hrv⟩ := HST.out.shape false i hil
                              have hbl := HST.out.bd false i hil
                              have HRV := hid hrv
                              clear hrv
                              go_loopw [16] (fun y wq => ∃ k : Nat, y = .int .i64 (k : Int) ∧ k ≤ ln' false i ∧ Hid (OS wq (cn n0 n1) (T2 (some ⟨g0, 0, none⟩) a1 n0 c0 n1 c1) V' ln' (fun f j => mkX f j (ln' f j)) 400000) ∧ Hid (Chs (KA n0 n1 (T2 (some ⟨g0, 0, none⟩) a1 n0 c0 n1 c1) V) w0 wq)) (fun y _ => ln' false i - (intOf y).toNat)
                              case atStart => exact ⟨0, rfl, by omega, HST.out, HC.out⟩
                              case round =>
                                clear HST HC
                                obtain ⟨k, rfl, hk, HST, HC⟩ := hrel
                                have q0 : wr.cell? ⟨g0, i, none⟩ = some (.slice ra (ln' false i) rc) := by
                                  obtain ⟨g', c', e, q0⟩ := HST.out.at0 false i hil
                                  simp only [T2, if_true, Bool.false_eq_true, if_false, Value.slice.injEq, Option.some.injEq, Addr.mk.injEq] at e
                                  obtain ⟨⟨rfl, _⟩, _⟩ := e
                                  rw [q0, HRV.out]
                                by_cases hkl : k < ln' false i
                                · have b3 : decide ((k : Int) < (ln' false i : Int)) = true := by simp; omega
                                  have b4 : (k : Int) < (ln' false i : Int) := by omega
                                  have ad2 := add_one k (by omega)
                                  obtain ⟨rb, hrb⟩ := HST.out.blk false i hil HRV.out (by omega)
                                  subst hrb
                                  have hrow : wr.ownsRow 0 49 5 (.slice (some ⟨rb, 0, none⟩) (ln' false i) rc) (ln' false i) (mkX false i (ln' false i)) := by have := HST.out.rw false i hil; rw [HRV.out] at this; exact this
                                  have m0 : wr.cell? ⟨rb, k * 5, none⟩ = some (.int .i64 (-1 - (i : Int))) := by rw [hrow.cellAt (k * 5) (by omega)]; exact mkX_at false i (ln' false i) k hkl
                                  clear hrow
                                  go_wp2
                                  exact ⟨⟨k + 1, by push_cast; rfl, by omega, HST.out, HC.out⟩, by simp [intOf]; omega⟩
                                · have b3 : decide ((k : Int) < (ln' false i : Int)) = false := by simp; omega
                                  go_wp2
                                  exact ⟨⟨i + 1, by push_cast; rfl, by omega, HST.out, HC.out⟩, by simp [intOf]; omega⟩
                            · have b1 : decide ((i : Int) < (n0 : Int)) = false := by simp; omega
                              obtain rfl : n0 = i := by omega
                              go_wp2
                              go_ret
                              exact ⟨rfl, by have h := HFINAL.out _ HC.out; rw [HN0.out] at h; exact h⟩
end Go.Proofs.YteanndophopplaaDoor
