/- HELPERS: which nodes may be: the document's answer. -/
import Derived.Test.YteanndophopplaaDoorTg
namespace Go.Proofs.YteanndophopplaaDoor
open Go.RowKit
set_option linter.unusedVariables false
set_option linter.unusedSimpArgs false
theorem R2.row {w : World} {B : Nat} {N : Nv} {R : List (Int × Int)} (h : R2 w B N.r1 R) (hr : N.r2 = R.length) : RowAt B w (.slice N.r1 N.r2 N.r3) R := by
  refine ⟨N.r1, N.r3, by rw [hr], ?_⟩
  rcases R with _ | ⟨x, R⟩
  · exact .inl rfl
  · obtain ⟨b, o, h1, h2, h3⟩ := h (by simp)
    refine .inr ⟨b, o, h1, h2, fun k hk => ?_, fun k hk => ?_⟩
    · rw [(h3 k hk).1]; simp only [List.getD_eq_getElem?_getD, List.getElem?_eq_getElem hk, Option.getD_some]
    · rw [(h3 k hk).2]; simp only [List.getD_eq_getElem?_getD, List.getElem?_eq_getElem hk, Option.getD_some]
end Go.Proofs.YteanndophopplaaDoor
