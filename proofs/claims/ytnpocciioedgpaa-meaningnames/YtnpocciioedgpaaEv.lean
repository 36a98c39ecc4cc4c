/- HELPERS: a way is gone by reckoning; the example's. -/
import Derived.Test.YtnpocciioedgpaaWx
namespace Go.Proofs.Ytnpocciioedgpaa
open Go.RowKit
set_option linter.unusedVariables false
set_option linter.unusedSimpArgs false
def ev (tx : List Int) (E : Nat → Way) : Nat → Way → Nat → Sg → Option Sg
  | 0, _, _, _ => none
  | f + 1, .through, p, s => some { s with parses := s.parses ++ [((p : Int), s.notes.set 1 (p : Int))] }
  | f + 1, .once n d, p, s => if (n, (p : Int)) ∈ s.done then some s else ev tx E f d p { s with done := s.done ++ [(n, (p : Int))] }
  | f + 1, .noted c d, p, s => (ev tx E f d p { s with notes := s.notes.set c (p : Int) }).map fun s' => { s' with notes := s'.notes.set c (s.notes.getD c 0) }
  | f + 1, .runeOf L d, p, s => if tx.length ≤ p then some s else if (rightB L && hasB L (tx.getD p 0)) = true then ev tx E f d (p + 1) s else some s
  | f + 1, .inOrder l, p, s => l.foldl (fun o d => o.bind (ev tx E f d p)) (some s)
  | f + 1, .again b, p, s => ev tx E f (E b) p s
theorem fold_none {α β : Type} (g : β → α → Option α) (l : List β) : l.foldl (fun o d => o.bind (g d)) none = none := by
  induction l with
  | nil => rfl
  | cons d l ih => simpa using ih
theorem fold_steps {P : Way → Sg → Sg → Prop} {g : Way → Sg → Option Sg} (hg : ∀ d s s', g d s = some s' → P d s s') : ∀ (l : List Way) (s s' : Sg), l.foldl (fun o d => o.bind (g d)) (some s) = some s' → ∃ ss : Nat → Sg, ss 0 = s ∧ ss l.length = s' ∧ ∀ i (hi : i < l.length), P (l[i]'hi) (ss i) (ss (i + 1)) := by
  intro l
  induction l with
  | nil => intro s s' h; simp at h; subst h; exact ⟨fun _ => s, rfl, rfl, fun i hi => by simp at hi⟩
  | cons d l ih =>
    intro s s' h
    simp only [List.foldl_cons, Option.bind_some] at h
    cases hd : g d s with
    | none => rw [hd, fold_none] at h; cases h
    | some s1 =>
      rw [hd] at h
      obtain ⟨ss, h1, h2, h3⟩ := ih s1 s' h
      refine ⟨fun i => match i with | 0 => s | i + 1 => ss i, rfl, h2, fun i hi => ?_⟩
      cases i with
      | zero => show P d s (ss 0); rw [h1]; exact hg d s s1 hd
      | succ i => exact h3 i (by simpa using hi)
theorem ev_sound {tx : List Int} {E : Nat → Way} : ∀ (f : Nat) (W : Way) (p : Nat) (s s' : Sg), ev tx E f W p s = some s' → Ex tx E W p s s' := by
  intro f
  induction f with
  | zero => intro W p s s' h; simp [ev] at h
  | succ f ih =>
    intro W p s s' h
    cases W with
    | through => simp only [ev, Option.some.injEq] at h; subst h; exact .through p s
    | once n d =>
      simp only [ev] at h
      split at h
      · rename_i hm; simp at h; subst h; exact .skip hm
      · rename_i hm; exact .once hm (ih _ _ _ _ h)
    | noted c d =>
      simp only [ev, Option.map_eq_some_iff] at h
      obtain ⟨s1, h1, rfl⟩ := h
      exact .noted (ih _ _ _ _ h1)
    | runeOf L d =>
      simp only [ev] at h
      split at h
      · rename_i hm; simp at h; subst h; exact .over hm
      · rename_i hm
        split at h
        · rename_i hr; exact .rune (by omega) hr (ih _ _ _ _ h)
        · rename_i hr; simp at h; subst h; exact .other (by omega) (by simpa using hr)
    | inOrder l =>
      simp only [ev] at h
      obtain ⟨ss, rfl, rfl, h3⟩ := fold_steps (P := fun d s s' => Ex tx E d p s s') (fun d s s' hd => ih d p s s' hd) l s s' h
      exact .inOrder ss h3
    | again b => exact .again (ih _ _ _ _ h)
/-- the ways of (|a)+, its loop's box being b -/
def Dw (b : Nat) : Way := .once 2 (.inOrder [.again b, .once 1 .through])
def Ww (b : Nat) : Way := .once 6 (.noted 2 (.once 5 (.inOrder [.once 3 (.noted 3 (Dw b)), .once 4 (.runeOf [(97, 97)] (.noted 3 (Dw b)))])))
theorem example_goes (b : Nat) : ∃ s', Ex [97] (fun _ => Ww b) (Ww b) 0 ⟨[], [0, -1, -1, -1], []⟩ s' ∧ s'.parses = [(0, [0, 0, 0, 0]), (1, [0, 1, 0, 1])] := by
  have h : (ev [97] (fun _ => Ww b) 40 (Ww b) 0 ⟨[], [0, -1, -1, -1], []⟩).map (·.parses) = some [(0, [0, 0, 0, 0]), (1, [0, 1, 0, 1])] := by rfl
  obtain ⟨s', h1, h2⟩ := Option.map_eq_some_iff.1 h
  exact ⟨s', ev_sound 40 _ _ _ _ h1, h2⟩
theorem Ww_few (b : Nat) : (Ww b).few := by simp [Ww, Dw, Way.few, Ways.few]
end Go.Proofs.Ytnpocciioedgpaa
