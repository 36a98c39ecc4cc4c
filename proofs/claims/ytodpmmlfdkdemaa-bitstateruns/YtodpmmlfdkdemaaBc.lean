/- HELPERS: depth first with a stack, in plain words. -/
import Derived.Test.YtodpmmlfdkdemaaBb
namespace Go.Proofs.Ytodpmmlfdkdemaa
set_option linter.unusedVariables false
set_option linter.unusedSimpArgs false
/-- what is still to be done: a pair to be met; a capture to be old again -/
inductive Tk where
  | go (i j : Nat)
  | un (a : Nat) (o : Int)
/-- what an instruction leaves to be done, and the captures -/
def nx (A : Nat → Nat → Ac) (i j : Nat) (c : List Int) : List Tk × List Int :=
  match A j i with
  | .alt x y => ([.go x j, .go y j], c)
  | .go x => ([.go x j], c)
  | .cap x a => ([.go x j, .un a (c.getD a 0)], c.set a (j : Int))
  | .rune x => ([.go x (j + 1)], c)
  | .fit _ => ([], c)
  | .stop => ([], c)
/-- the stack's work: so many rounds, what is to be done (the next first), what was met, the captures; what is found, what is met then -/
inductive Ev (A : Nat → Nat → Ac) : Nat → List Tk → List Pt → List Int → Fd → List Pt → Prop
  | nil (m : List Pt) (c : List Int) : Ev A 0 [] m c none m
  | un (n a : Nat) (o : Int) (st : List Tk) (m : List Pt) (c : List Int) (r : Fd) (m' : List Pt) : Ev A n st m (c.set a o) r m' → Ev A (n + 1) (.un a o :: st) m c r m'
  | old (n i j : Nat) (st : List Tk) (m : List Pt) (c : List Int) (r : Fd) (m' : List Pt) : (i, j) ∈ m → Ev A n st m c r m' → Ev A (n + 1) (.go i j :: st) m c r m'
  | fit (i j : Nat) (st : List Tk) (m : List Pt) (c : List Int) (a : Int) : (i, j) ∉ m → A j i = .fit a → Ev A 0 (.go i j :: st) m c (some (a, c)) (m ++ [(i, j)])
  | step (n i j : Nat) (st : List Tk) (m : List Pt) (c : List Int) (r : Fd) (m' : List Pt) : (i, j) ∉ m → (∀ a, A j i ≠ .fit a) → Ev A n ((nx A i j c).1 ++ st) (m ++ [(i, j)]) (nx A i j c).2 r m' → Ev A (n + 1) (.go i j :: st) m c r m'
theorem set_old (c : List Int) (a : Nat) (v : Int) : (c.set a v).set a (c.getD a 0) = c := by
  rw [List.set_set]
  by_cases h : a < c.length
  · simp [List.getD_eq_getElem?_getD, List.getElem?_eq_getElem h]
  · rw [List.set_eq_of_length_le (by omega)]
theorem set_same (c : List Int) (a : Nat) : c.set a (c.getD a 0) = c := by
  by_cases h : a < c.length
  · simp [List.getD_eq_getElem?_getD, List.getElem?_eq_getElem h]
  · rw [List.set_eq_of_length_le (by omega)]
theorem df_ev {A : Nat → Nat → Ac} {m : List Pt} {i j : Nat} {c : List Int} {m' : List Pt} {r : Fd} (h : Df A m i j c m' r) : ∀ st, (∀ y, r = some y → ∃ n, Ev A n (.go i j :: st) m c (some y) m') ∧ (r = none → ∀ k r2 m2, Ev A k st m' c r2 m2 → ∃ n, Ev A n (.go i j :: st) m c r2 m2) := by
  induction h with
  | old m i j c hm => intro st; exact ⟨fun y h => (by cases h), fun _ k r2 m2 h => ⟨_, .old _ _ _ _ _ _ _ _ hm h⟩⟩
  | fit m i j c a hm e => intro st; exact ⟨fun y h => (by cases h; exact ⟨_, .fit _ _ _ _ _ _ hm e⟩), fun h => (by cases h)⟩
  | stop m i j c hm e =>
    intro st
    refine ⟨fun y h => (by cases h), fun _ k r2 m2 h => ⟨_, .step k _ _ _ _ _ _ _ hm (by simp [e]) ?_⟩⟩
    simp only [nx, e]; exact h
  | go m i j c x m' r hm e hd ih =>
    intro st
    obtain ⟨h1, h2⟩ := ih st
    refine ⟨fun y h => ?_, fun h k r2 m2 hk => ?_⟩
    · obtain ⟨n, hn⟩ := h1 y h
      exact ⟨_, .step n _ _ _ _ _ _ _ hm (by simp [e]) (by simp only [nx, e]; exact hn)⟩
    · obtain ⟨n, hn⟩ := h2 h k r2 m2 hk
      exact ⟨_, .step n _ _ _ _ _ _ _ hm (by simp [e]) (by simp only [nx, e]; exact hn)⟩
  | cap m i j c x a m' r hm e hd ih =>
    intro st
    obtain ⟨h1, h2⟩ := ih (.un a (c.getD a 0) :: st)
    refine ⟨fun y h => ?_, fun h k r2 m2 hk => ?_⟩
    · obtain ⟨n, hn⟩ := h1 y h
      exact ⟨_, .step n _ _ _ _ _ _ _ hm (by simp [e]) (by simp only [nx, e]; exact hn)⟩
    · obtain ⟨n, hn⟩ := h2 h (k + 1) r2 m2 (.un _ _ _ _ _ _ _ _ (by rw [set_old]; exact hk))
      exact ⟨_, .step n _ _ _ _ _ _ _ hm (by simp [e]) (by simp only [nx, e]; exact hn)⟩
  | rune m i j c x m' r hm e hd ih =>
    intro st
    obtain ⟨h1, h2⟩ := ih st
    refine ⟨fun y h => ?_, fun h k r2 m2 hk => ?_⟩
    · obtain ⟨n, hn⟩ := h1 y h
      exact ⟨_, .step n _ _ _ _ _ _ _ hm (by simp [e]) (by simp only [nx, e]; exact hn)⟩
    · obtain ⟨n, hn⟩ := h2 h k r2 m2 hk
      exact ⟨_, .step n _ _ _ _ _ _ _ hm (by simp [e]) (by simp only [nx, e]; exact hn)⟩
  | altx m i j c x y m' z hm e hd ih =>
    intro st
    obtain ⟨h1, _⟩ := ih (.go y j :: st)
    refine ⟨fun y h => ?_, fun h => by cases h⟩
    obtain ⟨n, hn⟩ := h1 y h
    exact ⟨_, .step n _ _ _ _ _ _ _ hm (by simp [e]) (by simp only [nx, e]; exact hn)⟩
  | alty m i j c x y m1 m' r hm e hd hd2 ih ih2 =>
    intro st
    obtain ⟨_, h2⟩ := ih (.go y j :: st)
    obtain ⟨g1, g2⟩ := ih2 st
    refine ⟨fun z h => ?_, fun h k r2 m2 hk => ?_⟩
    · obtain ⟨n, hn⟩ := g1 z h
      obtain ⟨n2, hn2⟩ := h2 rfl _ _ _ hn
      exact ⟨_, .step n2 _ _ _ _ _ _ _ hm (by simp [e]) (by simp only [nx, e]; exact hn2)⟩
    · obtain ⟨n, hn⟩ := g2 h k r2 m2 hk
      obtain ⟨n2, hn2⟩ := h2 rfl _ _ _ hn
      exact ⟨_, .step n2 _ _ _ _ _ _ _ hm (by simp [e]) (by simp only [nx, e]; exact hn2)⟩
/-- one beginning -/
theorem df_ev1 {A : Nat → Nat → Ac} {m : List Pt} {i j : Nat} {c : List Int} {m' : List Pt} {r : Fd} (h : Df A m i j c m' r) : ∃ n, Ev A n [.go i j] m c r m' := by
  obtain ⟨h1, h2⟩ := df_ev h []
  cases r with
  | some y => exact h1 y rfl
  | none => exact h2 rfl _ _ _ (.nil _ _)
/-- the captures when all is undone -/
def base : List Tk → List Int → List Int
  | [], c => c
  | .un a o :: st, c => base st (c.set a o)
  | .go _ _ :: st, c => base st c
theorem base_nx (A : Nat → Nat → Ac) (i j : Nat) (c : List Int) (st : List Tk) : base ((nx A i j c).1 ++ st) (nx A i j c).2 = base st c := by
  unfold nx
  split <;> simp [base, ← List.getD_eq_getElem?_getD, set_same]
/-- a task of a program of n instructions over the places a to len, with K captures -/
def Tk.ok (n a len K : Nat) : Tk → Prop
  | .go i j => i < n ∧ a ≤ j ∧ j ≤ len
  | .un b o => b < K ∧ -1 ≤ o ∧ o ≤ (len : Int)
def okC (len : Nat) (c : List Int) : Prop := ∀ v ∈ c, -1 ≤ v ∧ v ≤ (len : Int)
theorem okC.set {len : Nat} {c : List Int} (h : okC len c) (a : Nat) {v : Int} (hv : -1 ≤ v ∧ v ≤ (len : Int)) : okC len (c.set a v) := fun u hu => by
  rcases List.mem_or_eq_of_mem_set hu with h1 | rfl
  · exact h u h1
  · exact hv
theorem okC.get {len : Nat} {c : List Int} (h : okC len c) (a : Nat) : -1 ≤ c.getD a 0 ∧ c.getD a 0 ≤ (len : Int) := by
  by_cases ha : a < c.length
  · rw [List.getD_eq_getElem?_getD, List.getElem?_eq_getElem ha]
    exact h _ (List.getElem_mem ha)
  · rw [List.getD_eq_getElem?_getD, List.getElem?_eq_none (by omega)]
    simp
theorem okC.rep (len K : Nat) : okC len (List.replicate K (-1)) := fun v hv => by
  have := List.eq_of_mem_replicate hv
  omega
end Go.Proofs.Ytodpmmlfdkdemaa
