/- PROVED: the law RunesClasses of layer 1 answers true for all lists of ranges and all runes asked for, and they read afterwards as they read before: Right, Has, Norm, Union, Negate and Fold answer as the document's do; what is handed in stays, with what stands behind it; the six lists that come out are their owner's.
   CONDITIONS: the second form: the arguments are together of bulk at most 1048576 (a list of nearly 2^47 bytes would want one of twice as many); the tables runes.forms and runes.sizes start as the program's text lays them (the given card ties that); the card speaks of the pruned copy of the project that the seat holds. -/
import Derived.Test.YtjglehklfdhgaaaDoorCards
import Derived.Test.YtjglehklfdhgaaaDoorTie
import Derived.Test.YtjglehklfdhgaaaDoorArgsC
import Derived.Test.YtjglehklfdhgaaaDoorCl
namespace Go.Proofs.YtjglehklfdhgaaaDoor
open Go.ChangeShapes Go.WideShapes Go.ChangeAt Go.RowKit Go.Mx Go.Joins
set_option linter.unusedVariables false
set_option linter.unusedSimpArgs false
theorem classesContract (H : Type) (enc : TypeId × Value → H) (W : World) (base : Nat) (args : Array Value) (ds gs : List (DataW H)) (before : List MemPlace)
    (hval : ∀ (j : Nat) t v, Tryd.f6.params[j]? = some t → args[j]? = some v → Value.okWide Tryd.prog W .any base t v)
    (hW : DataW.Whole enc Tryd.prog Tryd.f6.params.toList Rows.runesClassesSpec.vars false W args.toList ds gs before)
    (hk : Rows.uptoSmall H (ds ++ gs) = true)
    (hL : laidMetH Tryd.prog Rows.runesClassesUptoRow.laid W) :
    Calls Tryd.prog 6 args W fun e W' => ∃ v, e = .returned v ∧ Rows.runesClassesSpec.post enc Tryd.prog Tryd.f6 false true false false W args v W' := by
  have hW' := hW
  obtain ⟨p, q, hA0, hV, rfl, hfz, hnd⟩ := hW
  have hA : DataW.TrodAll enc Tryd.prog W 0 (fun _ => true) true Tryd.f6.params.toList args.toList ds p := hA0
  rw [Tryd.params6] at hA hval
  obtain ⟨v0, vs0, d0, ds0, p0, q0, hargs, rfl, rfl, h0, r0⟩ := trodAll_cons hA
  obtain ⟨rfl, rfl, rfl⟩ := trodAll_nil r0
  obtain rfl : args = #[v0] := by cases args; simp_all
  obtain ⟨rfl, rfl⟩ := trodVars_none hV
  have hlt : ∀ x ∈ p0, x.block < W.heap.size := fun x hx => by have := hW'.lt x (by simp [hx]); simpa using this
  have hbk := bulk_bound hk
  simp only [List.cons_append, List.nil_append, Rows.uptoBulkAll] at hbk
  obtain ⟨c0, c1, c2, y0, y1, y2, m, hv0, hd0, hp0, hy0, hy1, hy2⟩ := open_agg3 Tryd.underlying44 (by kernel_rfl) cellsA44 (hval 0 44 v0 rfl rfl) h0
  rw [hd0] at hbk
  simp only [Rows.uptoBulk, Rows.uptoBulkAll] at hbk
  obtain ⟨LA, aA, nA, cA, rfl, hnA, hSA, hRA, zA⟩ := rng_arg hy0 (fun elems spare hd => by
    rw [hd] at hbk
    have := bulk_slice elems spare
    omega)
  obtain ⟨LB, aB, nB, cB, rfl, hnB, hSB, hRB, zB⟩ := rng_arg hy1 (fun elems spare hd => by
    rw [hd] at hbk
    have := bulk_slice elems spare
    omega)
  obtain ⟨LR, aR, nR, cR, rfl, hnR, hSR, hRR⟩ := ints_part hy2 (fun elems spare hd => by
    rw [hd] at hbk
    have := bulk_slice elems spare
    omega)
  subst hv0
  have hT := tabs_of_laid hL
  refine (classes6 LA LB LR aA aB aR nA cA nB cB nR cR W hT (size_of_tabs hT) hnA.symm hnB.symm hSA hSB hnR.symm hSR hRA hRB zA zB hRR).mono fun e W' ⟨he, hb⟩ => ?_
  subst he
  exact ⟨_, rfl, _, _, _, [], p0 ++ [], [], hW', trodAll_cons_mk (shut_bool Tryd.underlying4 _) trodAll_mk0, trodAll_cons_mk (Below.trod laidOut (by kernel_rfl) (of_decide_eq_true (by kernel_rfl)) h0 hb hlt) trodAll_mk0, rfl, hb.frame _, fun h => by cases h⟩
theorem classesLaid (os : Os) : laidMet Tryd.prog Rows.runesClassesUptoRow.laid ((fixWorld (World.holding Tryd.prog os ⟨#[], #[], []⟩)).forCall (fun _ _ => 0) ⟨#[], #[.agg #[.slice none 0 0, .slice none 0 0, .slice none 0 0]], []⟩).memory :=
  laidMet_of_run' 8 (by kernel_rfl) (by kernel_rfl)
theorem classesReads (os : Os) {H : Type} (enc : TypeId × Value → H) : ∃ places, DataW.whole enc Tryd.prog ((fixWorld (World.holding Tryd.prog os ⟨#[], #[], []⟩)).forCall (fun _ _ => 0) ⟨#[], #[.agg #[.slice none 0 0, .slice none 0 0, .slice none 0 0]], []⟩).memory Tryd.f6.params.toList Rows.runesClassesSpec.vars false (#[Value.agg #[.slice none 0 0, .slice none 0 0, .slice none 0 0]] : Array Value).toList 8 = some ([.agg [.nil, .nil, .nil]], [], places) :=
  ⟨[], by kernel_rfl⟩
set_option maxRecDepth 100000 in
theorem classesLifted (os : Os) (started : os.Started) (H : Type) (enc : TypeId × Value → H) (F : Stop.Interp) :
    ReturnsInHanded {} Tryd.checked os 6 .any ((Rows.OpenSpec.upto Rows.runesClassesSpec).preRow enc Tryd.prog Tryd.f6 Rows.runesClassesUptoRow.domain false Rows.runesClassesUptoRow.laid) (((Rows.OpenSpec.upto Rows.runesClassesSpec).at F).post enc Tryd.prog Tryd.f6 false true false false) := by
  obtain ⟨places, hx⟩ := classesReads os enc
  refine returnsInHanded_of_row (C := Tryd.checked) (s := Rows.OpenSpec.upto Rows.runesClassesSpec) own started (by kernel_rfl) Tryd.func6
    (witness_row_at (enc := enc) (C := Tryd.checked) false (fixWorld (World.holding Tryd.prog os ⟨#[], #[], []⟩)) #[.agg #[.slice none 0 0, .slice none 0 0, .slice none 0 0]] rfl (by kernel_rfl) (by kernel_rfl) (by kernel_rfl)
      (OpenSpec.preRow_of_cond 8 hx (by kernel_rfl) (fun k hk => by cases hk; kernel_rfl) (by kernel_rfl) (classesLaid os))) ?_
  intro W base args ds gs before hval hW _ hcond _ hL _ _
  exact classesContract H enc W base args ds gs before hval hW (hcond _ rfl) hL
theorem classesSaid : Rows.RunesClassesUptoSaid :=
  OpenClaim.holds_of_cond 6 Tryd.f6 rfl rfl rfl rfl rfl rfl rfl ⟨rfl, rfl, rfl, rfl, rfl⟩ rfl rfl rfl rfl rfl (by kernel_rfl) Tryd.func6 (by kernel_rfl)
    (of_decide_eq_true (by kernel_rfl)) (by unfold Func.isWrapper; first | (rw [if_pos (by decide +kernel)]; kernel_rfl) | (rw [if_neg (by decide +kernel)]; exact ⟨rfl, rfl⟩))
    (fun os started H enc _ F => by rw [OpenClaim.pre_eq_preRow]; exact classesLifted os started H enc F)
theorem classesPlain (f : FuncId) (fn : Func) (hf : Tryd.pinned.checked.prog.funcNamed Tryd.f6.name = some f) (hfn : Tryd.pinned.checked.prog.funcs[f]? = some fn) :
    false = Tryd.pinned.checked.prog.looks [] ∧ ∀ (j : Nat) t, fn.params[j]? = some t → Tryd.pinned.checked.prog.wantsStandIn t = false := by
  obtain rfl : f = 6 := Option.some.inj ((show Tryd.prog.funcNamed Tryd.f6.name = some 6 by kernel_rfl).symm.trans hf) |>.symm
  obtain rfl : fn = Tryd.f6 := (Option.some.inj (Tryd.func6.symm.trans hfn)).symm
  refine ⟨by kernel_rfl, fun j t ht => ?_⟩
  rw [Tryd.params6] at ht
  obtain rfl : t = 44 := by simpa using Array.mem_of_getElem? ht
  exact (show Tryd.prog.wantsStandIn 44 = false by kernel_rfl)
theorem runesClasses_holds : Rows.RunesClassesUptoCardSaid :=
  Claim7.holds_tied_plain_at .later [] _ _ _ _ classesSaid (fun _ h => by cases h) (by kernel_rfl) (fun _ h => by cases h) runesClassesUpto_row_tie rfl ⟨rfl, rfl⟩ (by kernel_rfl) rfl classesPlain (by kernel_rfl)
end Go.Proofs.YtjglehklfdhgaaaDoor
