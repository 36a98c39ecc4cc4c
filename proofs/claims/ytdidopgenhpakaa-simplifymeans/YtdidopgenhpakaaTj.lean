/- HELPERS: which trees are sound. -/
import Derived.Test.YtdidopgenhpakaaTe
namespace Go.Proofs.Ytdidopgenhpakaa
open Go.RowKit
set_option linter.unusedVariables false
set_option linter.unusedSimpArgs false
mutual
/-- each node of it may be -/
def Tn.fine : Tn → Bool
  | .mk k R a s mn mx lz ix nm => nodeB k R a s.length mn mx lz ix nm && fineL s
def fineL : List Tn → Bool
  | [] => true
  | t :: ts => t.fine && fineL ts
end
/-- a sound tree -/
def Tn.sound (t : Tn) : Bool := t.fine && decide (t.depth ≤ 10000) && decide (t.nodes ≤ 200000)
mutual
/-- what the document's count leaves -/
def Tn.ct : Tn → Int → Int → Int
  | .mk k R a s mn mx lz ix nm, l, d => if nodeB k R a s.length mn mx lz ix nm = true ∧ d ≤ 10000 then ctL s (l - 1) (d + 1) else -1
def ctL : List Tn → Int → Int → Int
  | [], l, _ => l
  | t :: ts, l, d => if l < 0 then l else ctL ts (t.ct l d) d
end
theorem ctL_neg (ts : List Tn) (l d : Int) (h : l < 0) : ctL ts l d = l := by cases ts <;> simp [ctL, h]
theorem depthL_le (s : List Tn) (d : Int) : (depthL s : Int) + d ≤ 10000 ∨ ¬ (depthL s : Int) + d ≤ 10000 := by omega
mutual
theorem Tn.ct_spec : ∀ (t : Tn) (l d : Int), 0 ≤ l → d ≤ 10001 → (t.ct l d ≤ l - 1 ∨ t.ct l d = -1) ∧ (-1 ≤ t.ct l d) ∧ (0 ≤ t.ct l d ↔ t.fine = true ∧ (t.depth : Int) + d ≤ 10001 ∧ (t.nodes : Int) ≤ l) ∧ (0 ≤ t.ct l d → t.ct l d = l - t.nodes)
  | .mk k R a s mn mx lz ix nm, l, d, h, hd => by
    simp only [Tn.ct, Tn.nodes, Tn.fine, Tn.depth]
    by_cases hn : nodeB k R a s.length mn mx lz ix nm = true ∧ d ≤ 10000
    · have := ctL_spec s (l - 1) (d + 1) (by omega) (by omega)
      rw [if_pos hn]
      simp only [hn.1, Bool.true_and]
      refine ⟨by omega, by omega, ?_, by omega⟩
      rw [this.2.2.1]
      constructor
      · rintro ⟨h1, h2, h3⟩; exact ⟨h1, by omega, by omega⟩
      · rintro ⟨h1, h2, h3⟩; exact ⟨h1, by omega, by omega⟩
    · rw [if_neg hn]
      refine ⟨by omega, by omega, ?_, by omega⟩
      constructor
      · intro h; omega
      · rintro ⟨h1, h2, h3⟩
        rw [Bool.and_eq_true] at h1
        exact absurd ⟨h1.1, by omega⟩ hn
theorem ctL_spec : ∀ (ts : List Tn) (l d : Int), -1 ≤ l → d ≤ 10001 → (ctL ts l d ≤ l ∨ ctL ts l d = -1) ∧ (-1 ≤ ctL ts l d) ∧ (0 ≤ ctL ts l d ↔ fineL ts = true ∧ (depthL ts : Int) + d ≤ 10001 ∧ (nodesL ts : Int) ≤ l) ∧ (0 ≤ ctL ts l d → ctL ts l d = l - nodesL ts)
  | [], l, d, h, hd => by simp [ctL, nodesL, fineL, depthL]; omega
  | t :: ts, l, d, h, hd => by
    simp only [ctL, nodesL, fineL, depthL]
    by_cases hl : l < 0
    · rw [if_pos hl]
      refine ⟨by omega, by omega, ?_, by omega⟩
      constructor
      · intro h; omega
      · rintro ⟨h1, h2, h3⟩; have := t.pos; omega
    · have h1 := Tn.ct_spec t l d (by omega) hd
      have h2 := ctL_spec ts (t.ct l d) d (by omega) hd
      rw [if_neg hl]
      refine ⟨by omega, by omega, ?_, ?_⟩
      · constructor
        · intro h
          obtain ⟨a1, a2, a3⟩ := h2.2.2.1.1 h
          have hc : 0 ≤ t.ct l d := by omega
          obtain ⟨b1, b2, b3⟩ := h1.2.2.1.1 hc
          have := h1.2.2.2 hc
          exact ⟨by rw [b1, a1]; rfl, by omega, by omega⟩
        · rintro ⟨a1, a2, a3⟩
          rw [Bool.and_eq_true] at a1
          have hc := h1.2.2.1.2 ⟨a1.1, by omega, by omega⟩
          have := h1.2.2.2 hc
          exact h2.2.2.1.2 ⟨a1.2, by omega, by omega⟩
      · intro h
        have hc : 0 ≤ t.ct l d := by
          by_cases hc : 0 ≤ t.ct l d
          · exact hc
          · rw [ctL_neg _ _ _ (by omega)] at h; omega
        have := h1.2.2.2 hc
        have := h2.2.2.2 h
        omega
end
theorem ctL_drop (ts : List Tn) (i : Nat) (hi : i < ts.length) (l d : Int) (h : 0 ≤ l) : ctL (ts.drop i) l d = ctL (ts.drop (i + 1)) (ts[i].ct l d) d := by
  rw [List.drop_eq_getElem_cons hi]
  simp only [ctL]
  rw [if_neg (by omega)]
theorem sound_ct (t : Tn) : decide (0 ≤ t.ct 200000 1) = t.sound := by
  have := (t.ct_spec 200000 1 (by omega) (by omega)).2.2.1
  rw [Bool.eq_iff_iff, decide_eq_true_eq, this]
  simp only [Tn.sound, Bool.and_eq_true, decide_eq_true_eq]
  constructor
  · rintro ⟨h1, h2, h3⟩; exact ⟨⟨h1, by omega⟩, by omega⟩
  · rintro ⟨⟨h1, h2⟩, h3⟩; exact ⟨h1, by omega, by omega⟩
mutual
/-- the program's census: how many it has counted; none: it gave up -/
def Tn.tk : Tn → Int → Int → Option Int
  | .mk k R a s mn mx lz ix nm, c, d => if c + 1 ≤ 200000 ∧ d ≤ 10000 ∧ nodeB k R a s.length mn mx lz ix nm = true then tkL s (c + 1) (d + 1) else none
def tkL : List Tn → Int → Int → Option Int
  | [], c, _ => some c
  | t :: ts, c, d => match t.tk c d with
    | none => none
    | some c' => tkL ts c' d
end
mutual
theorem Tn.tk_spec : ∀ (t : Tn) (c d : Int), c ≤ 200000 → d ≤ 10001 → t.tk c d = if t.fine = true ∧ (t.depth : Int) + d ≤ 10001 ∧ c + t.nodes ≤ 200000 then some (c + t.nodes) else none
  | .mk k R a s mn mx lz ix nm, c, d, hc, hd => by
    simp only [Tn.tk, Tn.nodes, Tn.fine, Tn.depth, Bool.and_eq_true]
    by_cases hn : c + 1 ≤ 200000 ∧ d ≤ 10000 ∧ nodeB k R a s.length mn mx lz ix nm = true
    · rw [if_pos hn, tkL_spec s (c + 1) (d + 1) (by omega) (by omega)]
      by_cases hs : fineL s = true ∧ (depthL s : Int) + (d + 1) ≤ 10001 ∧ c + 1 + nodesL s ≤ 200000
      · rw [if_pos hs, if_pos ⟨⟨hn.2.2, hs.1⟩, by omega, by omega⟩]
        congr 1
        push_cast
        omega
      · rw [if_neg hs, if_neg]
        rintro ⟨⟨h1, h2⟩, h3, h4⟩
        exact hs ⟨h2, by omega, by omega⟩
    · rw [if_neg hn, if_neg]
      rintro ⟨⟨h1, h2⟩, h3, h4⟩
      exact hn ⟨by omega, by omega, h1⟩
theorem tkL_spec : ∀ (ts : List Tn) (c d : Int), c ≤ 200000 → d ≤ 10001 → tkL ts c d = if fineL ts = true ∧ (depthL ts : Int) + d ≤ 10001 ∧ c + nodesL ts ≤ 200000 then some (c + nodesL ts) else none
  | [], c, d, hc, hd => by simp [tkL, nodesL, fineL, depthL]; omega
  | t :: ts, c, d, hc, hd => by
    simp only [tkL, nodesL, fineL, depthL, Bool.and_eq_true]
    rw [Tn.tk_spec t c d hc hd]
    by_cases h1 : t.fine = true ∧ (t.depth : Int) + d ≤ 10001 ∧ c + t.nodes ≤ 200000
    · rw [if_pos h1]
      simp only
      rw [tkL_spec ts (c + t.nodes) d (by omega) hd]
      by_cases h2 : fineL ts = true ∧ (depthL ts : Int) + d ≤ 10001 ∧ c + t.nodes + nodesL ts ≤ 200000
      · rw [if_pos h2, if_pos ⟨⟨h1.1, h2.1⟩, by omega, by omega⟩]
        congr 1
        push_cast
        omega
      · rw [if_neg h2, if_neg]
        rintro ⟨⟨a1, a2⟩, a3, a4⟩
        exact h2 ⟨a2, by omega, by omega⟩
    · rw [if_neg h1, if_neg]
      rintro ⟨⟨a1, a2⟩, a3, a4⟩
      exact h1 ⟨a1, by omega, by omega⟩
end
theorem tkL_drop (ts : List Tn) (i : Nat) (hi : i < ts.length) (c d : Int) : tkL (ts.drop i) c d = (match ts[i].tk c d with | none => none | some c' => tkL (ts.drop (i + 1)) c' d) := by
  rw [List.drop_eq_getElem_cons hi]
  simp only [tkL]
theorem sound_tk (t : Tn) : (t.tk 0 1).isSome = t.sound := by
  rw [t.tk_spec 0 1 (by omega) (by omega)]
  simp only [Tn.sound]
  by_cases h : t.fine = true ∧ (t.depth : Int) + 1 ≤ 10001 ∧ (0 : Int) + t.nodes ≤ 200000
  · rw [if_pos h, h.1, decide_eq_true (show t.depth ≤ 10000 by omega), decide_eq_true (show t.nodes ≤ 200000 by omega)]
    rfl
  · rw [if_neg h]
    cases hf : t.fine
    · rfl
    · by_cases h1 : t.depth ≤ 10000
      · rw [decide_eq_false (show ¬ t.nodes ≤ 200000 from fun h2 => h ⟨hf, by omega, by omega⟩)]; simp
      · rw [decide_eq_false h1]; simp
end Go.Proofs.Ytdidopgenhpakaa
