/- HELPERS: a tree's mirror, as data. -/
import Derived.Test.YtdidopgenhpakaaTj
import Derived.Test.YtdidopgenhpakaaLkM
namespace Go.Proofs.Ytdidopgenhpakaa
open Go.RowKit Go.Lk
set_option linter.unusedVariables false
set_option linter.unusedSimpArgs false
theorem fineL_get {ts : List Tn} (h : fineL ts = true) : ∀ (i : Nat) (hi : i < ts.length), ts[i].fine = true := by
  induction ts with
  | nil => intro i hi; simp at hi
  | cons t ts ih =>
    simp only [fineL, Bool.and_eq_true] at h
    intro i hi
    cases i with
    | zero => exact h.1
    | succ i => exact ih h.2 i (by simpa using hi)
theorem nodes_ge (ts : List Tn) : ts.length ≤ nodesL ts := by
  induction ts with
  | nil => simp
  | cons t ts ih => simp only [nodesL, List.length_cons]; have := t.pos; omega
theorem nodes_get (ts : List Tn) : ∀ (i : Nat) (hi : i < ts.length), ts[i].nodes ≤ nodesL ts := by
  induction ts with
  | nil => intro i hi; simp at hi
  | cons t ts ih =>
    intro i hi
    cases i with
    | zero => simp only [nodesL, List.getElem_cons_zero]; omega
    | succ i => have := ih i (by simpa using hi); simp only [nodesL, List.getElem_cons_succ]; omega
/-- what a node that may be is like -/
structure FineN (k : Int) (R : List (Int × Int)) (a : Int) (n : Nat) (mn mx : Int) (lz : Bool) (ix : Int) (nm : ByteArray) : Prop where
  kind : k = 1 ∨ k = 2 ∨ k = 3 ∨ k = 4 ∨ k = 5 ∨ k = 6 ∨ k = 7
  grp : k = 7 → n = 1
  rng : k ≠ 2 → R.length = 0
  cls : k = 2 → rightB R = true
  ast : k = 3 → assertB a = true
  nas : k ≠ 3 → a = 0
theorem fine_node {k : Int} {R : List (Int × Int)} {a : Int} {n : Nat} {mn mx : Int} {lz : Bool} {ix : Int} {nm : ByteArray} (h : nodeB k R a n mn mx lz ix nm = true) : FineN k R a n mn mx lz ix nm := by
  have hk : k = 1 ∨ k = 2 ∨ k = 3 ∨ k = 4 ∨ k = 5 ∨ k = 6 ∨ k = 7 := by
    by_cases h' : k ≠ 1 ∧ k ≠ 2 ∧ k ≠ 3 ∧ k ≠ 4 ∧ k ≠ 5 ∧ k ≠ 6 ∧ k ≠ 7
    · rw [nodeB_ne h'] at h; cases h
    · omega
  rcases hk with rfl | rfl | rfl | rfl | rfl | rfl | rfl <;> simp [nodeB, bareB] at h <;> refine ⟨by omega, by omega, ?_, ?_, ?_, ?_⟩ <;> first | (intro h'; omega) | (intro _; exact h.1) | (intro _; simp [h])
mutual
/-- a tree's mirror -/
def Tn.mir : Tn → Tn
  | .mk k R a s mn mx lz ix nm => if k = 7 then (match mirL s with | t :: _ => t | [] => .mk k R a [] mn mx lz ix nm) else .mk k R (flipI a) (if k = 4 then (mirL s).reverse else mirL s) mn mx lz ix nm
def mirL : List Tn → List Tn
  | [] => []
  | t :: ts => t.mir :: mirL ts
end
theorem mirL_map (ts : List Tn) : mirL ts = ts.map Tn.mir := by
  induction ts with
  | nil => rfl
  | cons t ts ih => simp [mirL, ih]
mutual
/-- how many groups -/
def Tn.gs : Tn → Nat
  | .mk k _ _ s _ _ _ _ _ => (if k = 7 then 1 else 0) + gsL s
def gsL : List Tn → Nat
  | [] => 0
  | t :: ts => t.gs + gsL ts
end
theorem flip0 : flipI 0 = 0 := by decide
theorem flip_assert {a : Int} (h : assertB a = true) : assertB (flipI a) = true := by
  simp [assertB] at h
  rcases h with ((((h | h) | h) | h) | h) | h <;> subst h <;> decide
theorem nodeB_mir {k : Int} {R : List (Int × Int)} {a : Int} {n : Nat} {mn mx : Int} {lz : Bool} {ix : Int} {nm : ByteArray} (h : nodeB k R a n mn mx lz ix nm = true) : nodeB k R (flipI a) n mn mx lz ix nm = true := by
  have F := fine_node h
  by_cases h3 : k = 3
  · subst h3
    have hf := flip_assert (F.ast rfl)
    simp [nodeB, bareB] at h ⊢
    exact ⟨hf, h.2⟩
  · rw [F.nas h3, flip0]
    rw [F.nas h3] at h
    exact h
theorem fineL_iff (ts : List Tn) : fineL ts = true ↔ ∀ t ∈ ts, t.fine = true := by
  induction ts with
  | nil => simp [fineL]
  | cons t ts ih => simp [fineL, ih]
theorem nodesL_rev (ts : List Tn) : nodesL ts.reverse = nodesL ts := by
  have app : ∀ a b : List Tn, nodesL (a ++ b) = nodesL a + nodesL b := fun a b => by
    induction a with
    | nil => simp [nodesL]
    | cons x a ih => simp only [List.cons_append, nodesL, ih]; omega
  induction ts with
  | nil => rfl
  | cons t ts ih => simp only [List.reverse_cons, app, nodesL, ih]; omega
theorem depthL_rev (ts : List Tn) : depthL ts.reverse = depthL ts := by
  have app : ∀ a b : List Tn, depthL (a ++ b) = max (depthL a) (depthL b) := fun a b => by
    induction a with
    | nil => simp [depthL]
    | cons x a ih => simp only [List.cons_append, depthL, ih]; omega
  induction ts with
  | nil => rfl
  | cons t ts ih => simp only [List.reverse_cons, app, depthL, ih]; omega
theorem gsL_rev (ts : List Tn) : gsL ts.reverse = gsL ts := by
  have app : ∀ a b : List Tn, gsL (a ++ b) = gsL a + gsL b := fun a b => by
    induction a with
    | nil => simp [gsL]
    | cons x a ih => simp only [List.cons_append, gsL, ih]; omega
  induction ts with
  | nil => rfl
  | cons t ts ih => simp only [List.reverse_cons, app, gsL, ih]; omega
theorem fineL_rev (ts : List Tn) : fineL ts.reverse = fineL ts := by
  rw [Bool.eq_iff_iff, fineL_iff, fineL_iff]
  simp
theorem mirL_len (ts : List Tn) : (mirL ts).length = ts.length := by rw [mirL_map, List.length_map]
theorem mirL_rev (ts : List Tn) : mirL ts.reverse = (mirL ts).reverse := by rw [mirL_map, mirL_map, List.map_reverse]
mutual
theorem Tn.mir_fine : ∀ (t : Tn), t.fine = true → t.mir.fine = true ∧ t.mir.nodes ≤ t.nodes ∧ t.mir.depth ≤ t.depth ∧ t.mir.gs = 0
  | .mk k R a s mn mx lz ix nm, h => by
    simp only [Tn.fine, Bool.and_eq_true] at h
    have F := fine_node h.1
    have ih := mirL_fine s h.2
    simp only [Tn.mir]
    by_cases h7 : k = 7
    · rw [if_pos h7]
      have h1 := F.grp h7
      match s, h1, ih with
      | [t], _, ih =>
        simp only [mirL, fineL, nodesL, depthL, gsL, Bool.and_true, Tn.nodes, Tn.depth] at ih ⊢
        exact ⟨ih.1, by omega, by omega, by omega⟩
    · rw [if_neg h7]
      have hl := mirL_len s
      by_cases h4 : k = 4
      · simp only [h4, if_true, Tn.fine, Tn.nodes, Tn.depth, Tn.gs, fineL_rev, nodesL_rev, depthL_rev, gsL_rev, List.length_reverse, hl, Bool.and_eq_true]
        refine ⟨⟨?_, ih.1⟩, by omega, by omega, ?_⟩
        · have := nodeB_mir h.1; rw [h4] at this; exact this
        · rw [if_neg (by decide)]; omega
      · simp only [if_neg h4, Tn.fine, Tn.nodes, Tn.depth, Tn.gs, hl, Bool.and_eq_true, if_neg h7]
        exact ⟨⟨nodeB_mir h.1, ih.1⟩, by omega, by omega, by omega⟩
theorem mirL_fine : ∀ (ts : List Tn), fineL ts = true → fineL (mirL ts) = true ∧ nodesL (mirL ts) ≤ nodesL ts ∧ depthL (mirL ts) ≤ depthL ts ∧ gsL (mirL ts) = 0
  | [], h => by simp [mirL, fineL, nodesL, depthL, gsL]
  | t :: ts, h => by
    simp only [fineL, Bool.and_eq_true] at h
    have h1 := Tn.mir_fine t h.1
    have h2 := mirL_fine ts h.2
    simp only [mirL, fineL, nodesL, depthL, gsL, h1.1, h2.1, Bool.and_self]
    exact ⟨trivial, by omega, by omega, by omega⟩
end
mutual
theorem Tn.mir_mir : ∀ (t : Tn), t.gs = 0 → t.mir.mir = t
  | .mk k R a s mn mx lz ix nm, h => by
    simp only [Tn.gs] at h
    have h7 : k ≠ 7 := fun e => by rw [if_pos e] at h; omega
    have ih := mirL_mirL s (by omega)
    simp only [Tn.mir, if_neg h7, Go.Lk.flip_flip]
    by_cases h4 : k = 4
    · simp only [if_pos h4, mirL_rev, List.reverse_reverse, ih]
    · simp only [if_neg h4, ih]
theorem mirL_mirL : ∀ (ts : List Tn), gsL ts = 0 → mirL (mirL ts) = ts
  | [], h => rfl
  | t :: ts, h => by
    simp only [gsL] at h
    simp only [mirL, Tn.mir_mir t (by omega), mirL_mirL ts (by omega)]
end
theorem Tn.mir_sound {t : Tn} (h : t.sound = true) : t.mir.sound = true := by
  simp only [Tn.sound, Bool.and_eq_true, decide_eq_true_eq] at h ⊢
  have := t.mir_fine h.1.1
  exact ⟨⟨this.1, by omega⟩, by omega⟩
theorem Tn.mir3 {t : Tn} (h : t.fine = true) : t.mir.mir.mir = t.mir := Tn.mir_mir _ (t.mir_fine h).2.2.2
end Go.Proofs.Ytdidopgenhpakaa
