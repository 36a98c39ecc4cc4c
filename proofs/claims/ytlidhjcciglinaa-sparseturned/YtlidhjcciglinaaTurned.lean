/- PROVED: the law SparseTurned of layer 3 answers true for all numbers and all pops, and both lists read afterwards as they read before: what was pushed is popped the other way round, each thing once; Most is the greatest Len that there was.
   CONDITIONS: none but the form's own (each slice at most 2^47 - 4096 bytes). -/
import Derived.Test.YtlidhjcciglinaaArgs
import Derived.Test.YtlidhjcciglinaaTv
namespace Go.Proofs.Ytlidhjcciglinaa
open Go.ChangeShapes Go.WideShapes Go.ChangeAt Go.RowKit
set_option linter.unusedVariables false
set_option linter.unusedSimpArgs false
set_option maxRecDepth 100000 in
theorem turnedLifted (os : Os) (started : os.Started) (H : Type) (enc : TypeId × Value → H) :
    ReturnsInHanded {} Try.checked os 6 .any (Rows.sparseTurnedSpec.pre6 enc Try.prog Try.f6 Rows.sparseTurnedRow.domain false) (Rows.sparseTurnedSpec.post enc Try.prog Try.f6 false true false false) := by
  refine returnsInHanded_of_change_sized (C := Try.checked) ownB started (by kernel_rfl) Try.func6
    (ChangeSpec.witness6 (enc := enc) (C := Try.checked) false ⟨#[], #[.slice none 0 0, .slice none 0 0], []⟩ 8 (by kernel_rfl) (by kernel_rfl) (by kernel_rfl) (by kernel_rfl)) ?_
  intro W base args ds gs before hval0 hW hcnd0 hsz0 hholds
  have hval : ∀ (j : Nat) t v, Try.f6.params[j]? = some t → args[j]? = some v → Value.okWide Try.prog W .any base t v := hval0
  have hsz : (DataW.weightsEach Try.prog (Try.f6.params.toList ++ Rows.sparseTurnedSpec.plain.varTypes Try.prog) (ds ++ gs)).all (· ≤ reachBytes) = true := hsz0
  have hW' := hW
  obtain ⟨p, q, hA0, hV, rfl, hfz, hnd⟩ := hW
  have hA : DataW.TrodAll enc Try.prog W 0 (fun _ => true) true Try.f6.params.toList args.toList ds p := hA0
  rw [Try.params6] at hA hval hsz
  obtain ⟨v0, vs0, d0, ds0, p0, q0, hargs, rfl, rfl, h0, r0⟩ := trodAll_cons hA
  obtain ⟨v1, vs1, d1, ds1, p1, q1, rfl, rfl, rfl, h1, r1⟩ := trodAll_cons r0
  obtain ⟨rfl, rfl, rfl⟩ := trodAll_nil r1
  obtain rfl : args = #[v0, v1] := by cases args; simp_all
  obtain ⟨rfl, rfl⟩ := trodVars_none hV
  have hlt0 : ∀ x ∈ p0, x.block < W.heap.size := fun x hx => by have := hW'.lt x (by simp [hx]); simpa using this
  have hlt1 : ∀ x ∈ p1, x.block < W.heap.size := fun x hx => by have := hW'.lt x (by simp [hx]); simpa using this
  obtain ⟨l, ad, n, cap, rfl, hlen, hT, _⟩ := text_arg (hval 0 35 v0 rfl rfl) h0 (fun elems spare hd => by
    have := sized_slice hsz (j := 0) (t := 35) (e := 3) (elems := elems) (spare := spare) rfl (by rw [hd]; rfl) Try.underlying35
    rw [bytesOf3] at this
    simpa [reachBytes] using this)
  obtain ⟨ps, a2, np, c2, rfl, hlen2, hT2, _⟩ := text_arg (hval 1 35 v1 rfl rfl) h1 (fun elems spare hd => by
    have := sized_slice hsz (j := 1) (t := 35) (e := 3) (elems := elems) (spare := spare) rfl (by rw [hd]; rfl) Try.underlying35
    rw [bytesOf3] at this
    simpa [reachBytes] using this)
  clear hA0 hval0
  refine (turned6 l ps ad a2 n np cap c2 W hT hT2 hlen hlen2).mono fun e W' ⟨he, hb⟩ => ?_
  subst he
  exact ⟨_, rfl, _, _, _, [], p0 ++ (p1 ++ []), [], hW', trodAll_cons_mk (shut_bool Try.underlying4 _) trodAll_mk0, trodAll_cons_mk (Below.trod laidOut (by kernel_rfl) (of_decide_eq_true (by kernel_rfl)) h0 hb hlt0) (trodAll_cons_mk (Below.trod laidOut (by kernel_rfl) (of_decide_eq_true (by kernel_rfl)) h1 hb hlt1) trodAll_mk0), rfl, hb.frame _, fun h => by cases h⟩
theorem sparseTurned_holds : Rows.SparseTurnedSaid :=
  OpenClaim.holds_of_wide 6 Try.f6 rfl rfl rfl rfl rfl rfl rfl ⟨rfl, rfl, rfl, rfl, rfl⟩ rfl rfl rfl rfl rfl (by kernel_rfl) Try.func6 (by kernel_rfl)
    (of_decide_eq_true (by kernel_rfl)) (by unfold Func.isWrapper; first | (rw [if_pos (by decide +kernel)]; kernel_rfl) | (rw [if_neg (by decide +kernel)]; exact ⟨rfl, rfl⟩))
    (fun os started H enc _ => turnedLifted os started H enc)
end Go.Proofs.Ytlidhjcciglinaa
