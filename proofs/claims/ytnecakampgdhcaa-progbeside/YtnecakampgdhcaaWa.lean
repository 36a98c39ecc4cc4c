/- HELPERS: the walk through a program, in plain words. -/
import Derived.Test.YtnecakampgdhcaaLx
import Derived.Test.YtnecakampgdhcaaLh
import Derived.Test.YtnecakampgdhcaaJa
namespace Go.Proofs.Ytnecakampgdhcaa
open Go.RowKit Go.Lk
set_option linter.unusedVariables false
set_option linter.unusedSimpArgs false
/-- what is still to be done: an instruction at a place; a capture to be old again -/
inductive Tk where
  | go (i p : Nat)
  | un (a : Nat) (o : Int)
abbrev Met := Nat → Nat → Bool
def mark (m : Met) (i p : Nat) : Met := fun j q => if j = i ∧ q = p then true else m j q
/-- what an instruction that is no match leaves to be done, and the captures -/
def nx (tx : List Int) (I : In) (p : Nat) (caps : List Int) : List Tk × List Int :=
  if I.op = 1 then (if (decide (p < tx.length) && hsB I.R (tx.getD p 0)) = true then [.go I.x.toNat (p + 1)] else [], caps)
  else if I.op = 2 then ([.go I.x.toNat p, .go I.y.toNat p], caps)
  else if I.op = 3 then ([.go I.x.toNat p, .un I.a.toNat (caps.getD I.a.toNat 0)], caps.set I.a.toNat (p : Int))
  else if I.op = 4 then (if holdsB I.a (atP tx p) = true then [.go I.x.toNat p] else [], caps)
  else if I.op = 7 then ([.go I.x.toNat p], caps)
  else ([], caps)
/-- what a walk finds: by what is to be done (the next first), what was met, the captures -/
inductive Ev (l : List In) (tx : List Int) : List Tk → Met → List Int → Option (Int × List Int) → Prop
  | nil (m : Met) (caps : List Int) : Ev l tx [] m caps none
  | un (a : Nat) (o : Int) (st : List Tk) (m : Met) (caps : List Int) (r : Option (Int × List Int)) : Ev l tx st m (caps.set a o) r → Ev l tx (.un a o :: st) m caps r
  | old (i p : Nat) (st : List Tk) (m : Met) (caps : List Int) (r : Option (Int × List Int)) : m i p = true → Ev l tx st m caps r → Ev l tx (.go i p :: st) m caps r
  | fit (i p : Nat) (st : List Tk) (m : Met) (caps : List Int) (I : In) : m i p = false → l[i]? = some I → I.op = 5 → Ev l tx (.go i p :: st) m caps (some (I.a, caps))
  | step (i p : Nat) (st : List Tk) (m : Met) (caps : List Int) (r : Option (Int × List Int)) (I : In) : m i p = false → l[i]? = some I → I.op ≠ 5 → Ev l tx ((nx tx I p caps).1 ++ st) (mark m i p) (nx tx I p caps).2 r → Ev l tx (.go i p :: st) m caps r
/-- a task of a program of n instructions over a text, with so many captures -/
def Tk.ok (n : Nat) (tx : List Int) (c : Nat) : Tk → Prop
  | .go i p => i < n ∧ p ≤ tx.length
  | .un a _ => a < c
theorem nx_len (tx : List Int) (I : In) (p : Nat) (caps : List Int) : (nx tx I p caps).2.length = caps.length := by
  unfold nx
  repeat' split
  all_goals simp
theorem nx_two (tx : List Int) (I : In) (p : Nat) (caps : List Int) : (nx tx I p caps).1.length ≤ 2 := by
  unfold nx
  repeat' split
  all_goals simp
theorem nx_ok {tx : List Int} {I : In} {p n c : Nat} {k : Int} (caps : List Int) (h : I.okB n k = true) (hp : p ≤ tx.length) (hk : k = c) : ∀ t ∈ (nx tx I p caps).1, t.ok n tx c := by
  have hx : hasXB I.op = true → I.x.toNat < n := fun h' => by
    simp only [In.okB, Bool.and_eq_true, isTargetB, h', if_true, belowB] at h
    have := h.1.1.1
    simp at this
    omega
  have hy : hasYB I.op = true → I.y.toNat < n := fun h' => by
    simp only [In.okB, Bool.and_eq_true, isTargetB, h', if_true, belowB] at h
    have := h.1.1.2
    simp at this
    omega
  have ha : I.op = 3 → I.a.toNat < c := fun h' => by
    simp only [In.okB, Bool.and_eq_true, isArgB, h'] at h
    have := h.1.2
    simp [belowB] at this
    omega
  intro t ht
  unfold nx at ht
  split at ht
  · rename_i e
    split at ht
    · rename_i e2
      simp at ht
      subst ht
      simp at e2
      exact ⟨hx (by rw [e]; rfl), by omega⟩
    · simp at ht
  · split at ht
    · rename_i e
      simp at ht
      rcases ht with rfl | rfl
      · exact ⟨hx (by rw [e]; rfl), hp⟩
      · exact ⟨hy (by rw [e]; rfl), hp⟩
    · split at ht
      · rename_i e
        simp at ht
        rcases ht with rfl | rfl
        · exact ⟨hx (by rw [e]; rfl), hp⟩
        · exact ha e
      · split at ht
        · rename_i e
          split at ht
          · simp at ht
            subst ht
            exact ⟨hx (by rw [e]; rfl), hp⟩
          · simp at ht
        · split at ht
          · rename_i e
            simp at ht
            subst ht
            exact ⟨hx (by rw [e]; rfl), hp⟩
          · simp at ht
/-- the captures when all is undone -/
def base : List Tk → List Int → List Int
  | [], c => c
  | .un a o :: st, c => base st (c.set a o)
  | .go _ _ :: st, c => base st c
theorem set_old (c : List Int) (a : Nat) : c.set a (c[a]?.getD 0) = c := by
  by_cases h : a < c.length
  · rw [List.getElem?_eq_getElem h]
    simp
  · rw [List.set_eq_of_length_le (by omega)]
theorem base_nx (tx : List Int) (I : In) (p : Nat) (caps : List Int) (st : List Tk) : base ((nx tx I p caps).1 ++ st) (nx tx I p caps).2 = base st caps := by
  unfold nx
  repeat' split
  all_goals simp [base, set_old]
/-- how many pairs are not met yet -/
def todo (m : Met) (n q : Nat) : Nat := ((List.range n).flatMap fun i => (List.range q).map fun p => (i, p)).countP fun x => !m x.1 x.2
theorem countP_lt {α : Type} (p q : α → Bool) (a : α) : ∀ (L : List α), a ∈ L → p a = true → q a = false → (∀ x, q x = true → p x = true) → L.countP q < L.countP p
  | [], h, _, _, _ => by cases h
  | x :: L, h, h1, h2, h3 => by
    have hle : L.countP q ≤ L.countP p := List.countP_mono_left (fun x _ hx => h3 x hx)
    rw [List.countP_cons, List.countP_cons]
    rcases List.mem_cons.1 h with rfl | h
    · rw [h1, h2]; simp; omega
    · have := countP_lt p q a L h h1 h2 h3
      have hx := h3 x
      cases hq : q x
      · cases hp : p x <;> simp <;> omega
      · rw [hx hq]; simp; omega
theorem todo_mark {m : Met} {n q i p : Nat} (hi : i < n) (hp : p < q) (hm : m i p = false) : todo (mark m i p) n q < todo m n q := by
  unfold todo
  refine countP_lt _ _ (i, p) _ ?_ (by simp [hm]) (by simp [mark]) (fun x hx => ?_)
  · simp only [List.mem_flatMap, List.mem_range, List.mem_map]
    exact ⟨i, hi, p, hp, rfl⟩
  · unfold mark at hx
    by_cases e : x.1 = i ∧ x.2 = p
    · simp [e] at hx
    · simpa [e] using hx
/-- each walk ends -/
theorem ev_total {l : List In} {tx : List Int} {k : Int} {c : Nat} (hl : ∀ I ∈ l, I.okB l.length k = true) (hk : k = c) : ∀ (N : Nat) (st : List Tk) (m : Met) (caps : List Int), 3 * todo m l.length (tx.length + 1) + st.length ≤ N → (∀ t ∈ st, t.ok l.length tx c) → ∃ r, Ev l tx st m caps r := by
  intro N
  induction N with
  | zero =>
    intro st m caps h _
    obtain rfl : st = [] := List.length_eq_zero_iff.1 (by omega)
    exact ⟨none, .nil _ _⟩
  | succ N ih =>
    intro st m caps h hst
    cases st with
    | nil => exact ⟨none, .nil _ _⟩
    | cons t st =>
      simp only [List.length_cons] at h
      have hst' : ∀ t ∈ st, t.ok l.length tx c := fun t ht => hst t (List.mem_cons_of_mem _ ht)
      cases t with
      | un a o =>
        obtain ⟨r, hr⟩ := ih st m (caps.set a o) (by omega) hst'
        exact ⟨r, .un _ _ _ _ _ _ hr⟩
      | go i p =>
        obtain ⟨hi, hp⟩ : i < l.length ∧ p ≤ tx.length := hst _ (List.mem_cons_self)
        cases hm : m i p with
        | true =>
          obtain ⟨r, hr⟩ := ih st m caps (by omega) hst'
          exact ⟨r, .old _ _ _ _ _ _ hm hr⟩
        | false =>
          have hg : l[i]? = some l[i] := List.getElem?_eq_getElem hi
          by_cases h5 : l[i].op = 5
          · exact ⟨_, .fit _ _ _ _ _ _ hm hg h5⟩
          · have h2 := nx_two tx l[i] p caps
            have ht := todo_mark (q := tx.length + 1) hi (by omega : p < tx.length + 1) hm
            obtain ⟨r, hr⟩ := ih ((nx tx l[i] p caps).1 ++ st) (mark m i p) (nx tx l[i] p caps).2 (by rw [List.length_append]; omega) (fun t ht => (List.mem_append.1 ht).elim (nx_ok caps (hl _ (List.getElem_mem hi)) hp hk t) (hst' t))
            exact ⟨r, .step _ _ _ _ _ _ _ hm hg h5 hr⟩
end Go.Proofs.Ytnecakampgdhcaa
