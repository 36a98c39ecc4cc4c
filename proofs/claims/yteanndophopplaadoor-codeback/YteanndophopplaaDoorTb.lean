/- HELPERS: how many nodes a tree has; what a count down of them leaves. -/
import Derived.Test.YteanndophopplaaDoorTa
namespace Go.Proofs.YteanndophopplaaDoor
open Go.RowKit
set_option linter.unusedVariables false
set_option linter.unusedSimpArgs false
mutual
/-- how many nodes -/
def Tn.nodes : Tn → Nat
  | .mk _ _ _ s _ _ _ _ _ => 1 + nodesL s
def nodesL : List Tn → Nat
  | [] => 0
  | t :: ts => t.nodes + nodesL ts
end
mutual
/-- how many one below another -/
def Tn.depth : Tn → Nat
  | .mk _ _ _ s _ _ _ _ _ => 1 + depthL s
def depthL : List Tn → Nat
  | [] => 0
  | t :: ts => max t.depth (depthL ts)
end
mutual
/-- what a count down leaves: it ends below nought -/
def Tn.gr : Tn → Int → Int
  | .mk _ _ _ s _ _ _ _ _, l => grL s (l - 1)
def grL : List Tn → Int → Int
  | [], l => l
  | t :: ts, l => if l < 0 then l else grL ts (t.gr l)
end
theorem grL_neg (ts : List Tn) (l : Int) (h : l < 0) : grL ts l = l := by cases ts <;> simp [grL, h]
mutual
theorem Tn.gr_spec : ∀ (t : Tn) (l : Int), 0 ≤ l → (t.gr l ≤ l - 1) ∧ (-1 ≤ t.gr l) ∧ (0 ≤ t.gr l ↔ (t.nodes : Int) ≤ l) ∧ (0 ≤ t.gr l → t.gr l = l - t.nodes)
  | .mk _ _ _ s _ _ _ _ _, l, h => by
    have := grL_spec s (l - 1) (by omega)
    simp only [Tn.gr, Tn.nodes]
    omega
theorem grL_spec : ∀ (ts : List Tn) (l : Int), -1 ≤ l → (grL ts l ≤ l) ∧ (-1 ≤ grL ts l) ∧ (0 ≤ grL ts l ↔ (nodesL ts : Int) ≤ l) ∧ (0 ≤ grL ts l → grL ts l = l - nodesL ts)
  | [], l, h => by simp [grL, nodesL]; omega
  | t :: ts, l, h => by
    simp only [grL, nodesL]
    by_cases hl : l < 0
    · simp only [hl, if_true]
      omega
    · have h1 := Tn.gr_spec t l (by omega)
      have h2 := grL_spec ts (t.gr l) (by omega)
      simp only [hl, if_false]
      omega
end
theorem grL_drop (ts : List Tn) (i : Nat) (hi : i < ts.length) (l : Int) (h : 0 ≤ l) : grL (ts.drop i) l = grL (ts.drop (i + 1)) (ts[i].gr l) := by
  rw [List.drop_eq_getElem_cons hi]
  simp only [grL]
  rw [if_neg (by omega)]
theorem Tn.pos (t : Tn) : 1 ≤ t.nodes := by cases t; simp only [Tn.nodes]; omega
end Go.Proofs.YteanndophopplaaDoor
