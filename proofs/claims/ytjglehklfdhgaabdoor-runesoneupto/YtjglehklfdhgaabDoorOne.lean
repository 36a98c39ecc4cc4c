/- PROVED: the law RunesOne of layer 1 answers true for all lists of ranges, and they read afterwards as they read before: what Norm, Union, Negate and Fold answer is a class; classes of the same runes are the same, whatever they came from.
   CONDITIONS: the second form: the arguments are together of bulk at most 1048576 (a list of nearly 2^47 bytes would want one of twice as many); the tables runes.forms and runes.sizes start as the program's text lays them (the given card ties that); the card speaks of the pruned copy of the project that the seat holds. -/
import Derived.Test.YtjglehklfdhgaabDoorCards
import Derived.Test.YtjglehklfdhgaabDoorTie
import Derived.Test.YtjglehklfdhgaabDoorArgs
import Derived.Test.YtjglehklfdhgaabDoorOneE
namespace Go.Proofs.YtjglehklfdhgaabDoor
open Go.ChangeShapes Go.WideShapes Go.ChangeAt Go.RowKit Go.Mx Go.Joins
set_option linter.unusedVariables false
set_option linter.unusedSimpArgs false
theorem oneContract (H : Type) (enc : TypeId × Value → H) (W : World) (base : Nat) (args : Array Value) (ds gs : List (DataW H)) (before : List MemPlace)
    (hval : ∀ (j : Nat) t v, Tryd.f4.params[j]? = some t → args[j]? = some v → Value.okWide Tryd.prog W .any base t v)
    (hW : DataW.Whole enc Tryd.prog Tryd.f4.params.toList Rows.runesOneSpec.vars false W args.toList ds gs before)
    (hk : Rows.uptoSmall H (ds ++ gs) = true)
    (hL : laidMetH Tryd.prog Rows.runesOneUptoRow.laid W) :
    Calls Tryd.prog 4 args W fun e W' => ∃ v, e = .returned v ∧ Rows.runesOneSpec.post enc Tryd.prog Tryd.f4 false true false false W args v W' := by
  have hW' := hW
  obtain ⟨p, q, hA0, hV, rfl, hfz, hnd⟩ := hW
  have hA : DataW.TrodAll enc Tryd.prog W 0 (fun _ => true) true Tryd.f4.params.toList args.toList ds p := hA0
  rw [Tryd.params4] at hA hval
  obtain ⟨v0, vs0, d0, ds0, p0, q0, hargs, rfl, rfl, h0, r0⟩ := trodAll_cons hA
  obtain ⟨rfl, rfl, rfl⟩ := trodAll_nil r0
  obtain rfl : args = #[v0] := by cases args; simp_all
  obtain ⟨rfl, rfl⟩ := trodVars_none hV
  have hlt : ∀ x ∈ p0, x.block < W.heap.size := fun x hx => by have := hW'.lt x (by simp [hx]); simpa using this
  have hbk := bulk_bound hk
  simp only [List.cons_append, List.nil_append, Rows.uptoBulkAll] at hbk
  obtain ⟨c0, c1, c2, y0, y1, y2, m, hv0, hd0, hp0, hy0, hy1, hy2⟩ := open_agg3 Tryd.underlying25 (by kernel_rfl) cellsA25 (hval 0 25 v0 rfl rfl) h0
  rw [hd0] at hbk
  simp only [Rows.uptoBulk, Rows.uptoBulkAll] at hbk
  obtain ⟨LA, aA, nA, cA, rfl, hnA, hSA, hRA, zA⟩ := rng_arg hy0 (fun elems spare hd => by
    rw [hd] at hbk
    have := bulk_slice elems spare
    omega)
  obtain ⟨LB, aB, nB, cB, rfl, hnB, hSB, hRB, zB⟩ := rng_arg hy1 (fun elems spare hd => by
    rw [hd] at hbk
    have := bulk_slice elems spare
    omega)
  obtain ⟨aR, nR, cR, rfl⟩ := ints_form hy2
  subst hv0
  have hT := tabs_of_laid hL
  refine (one4 LA LB aA aB aR nA nB nR cA cB cR W hT (size_of_tabs hT) hRA hRB hnA hnB hSA hSB zA zB).mono fun e W' ⟨he, hb⟩ => ?_
  subst he
  exact ⟨_, rfl, _, _, _, [], p0 ++ [], [], hW', trodAll_cons_mk (shut_bool Tryd.underlying4 _) trodAll_mk0, trodAll_cons_mk (Below.trod laidOut (by kernel_rfl) (of_decide_eq_true (by kernel_rfl)) h0 hb hlt) trodAll_mk0, rfl, hb.frame _, fun h => by cases h⟩
theorem oneLaid (os : Os) : laidMet Tryd.prog Rows.runesOneUptoRow.laid ((fixWorld (World.holding Tryd.prog os ⟨#[], #[], []⟩)).forCall (fun _ _ => 0) ⟨#[], #[.agg #[.slice none 0 0, .slice none 0 0, .slice none 0 0]], []⟩).memory :=
  laidMet_of_run' 8 (by kernel_rfl) (by kernel_rfl)
theorem oneReads (os : Os) {H : Type} (enc : TypeId × Value → H) : ∃ places, DataW.whole enc Tryd.prog ((fixWorld (World.holding Tryd.prog os ⟨#[], #[], []⟩)).forCall (fun _ _ => 0) ⟨#[], #[.agg #[.slice none 0 0, .slice none 0 0, .slice none 0 0]], []⟩).memory Tryd.f4.params.toList Rows.runesOneSpec.vars false (#[Value.agg #[.slice none 0 0, .slice none 0 0, .slice none 0 0]] : Array Value).toList 8 = some ([.agg [.nil, .nil, .nil]], [], places) :=
  ⟨[], by kernel_rfl⟩
set_option maxRecDepth 100000 in
theorem oneLifted (os : Os) (started : os.Started) (H : Type) (enc : TypeId × Value → H) (F : Stop.Interp) :
    ReturnsInHanded {} Tryd.checked os 4 .any ((Rows.OpenSpec.upto Rows.runesOneSpec).preRow enc Tryd.prog Tryd.f4 Rows.runesOneUptoRow.domain false Rows.runesOneUptoRow.laid) (((Rows.OpenSpec.upto Rows.runesOneSpec).at F).post enc Tryd.prog Tryd.f4 false true false false) := by
  obtain ⟨places, hx⟩ := oneReads os enc
  refine returnsInHanded_of_row (C := Tryd.checked) (s := Rows.OpenSpec.upto Rows.runesOneSpec) own started (by kernel_rfl) Tryd.func4
    (witness_row_at (enc := enc) (C := Tryd.checked) false (fixWorld (World.holding Tryd.prog os ⟨#[], #[], []⟩)) #[.agg #[.slice none 0 0, .slice none 0 0, .slice none 0 0]] rfl (by kernel_rfl) (by kernel_rfl) (by kernel_rfl)
      (OpenSpec.preRow_of_cond 8 hx (by kernel_rfl) (fun k hk => by cases hk; kernel_rfl) (by kernel_rfl) (oneLaid os))) ?_
  intro W base args ds gs before hval hW _ hcond _ hL _ _
  exact oneContract H enc W base args ds gs before hval hW (hcond _ rfl) hL
theorem oneSaid : Rows.RunesOneUptoSaid :=
  OpenClaim.holds_of_cond 4 Tryd.f4 rfl rfl rfl rfl rfl rfl rfl ⟨rfl, rfl, rfl, rfl, rfl⟩ rfl rfl rfl rfl rfl (by kernel_rfl) Tryd.func4 (by kernel_rfl)
    (of_decide_eq_true (by kernel_rfl)) (by unfold Func.isWrapper; first | (rw [if_pos (by decide +kernel)]; kernel_rfl) | (rw [if_neg (by decide +kernel)]; exact ⟨rfl, rfl⟩))
    (fun os started H enc _ F => by rw [OpenClaim.pre_eq_preRow]; exact oneLifted os started H enc F)
theorem onePlain (f : FuncId) (fn : Func) (hf : Tryd.pinned.checked.prog.funcNamed Tryd.f4.name = some f) (hfn : Tryd.pinned.checked.prog.funcs[f]? = some fn) :
    false = Tryd.pinned.checked.prog.looks [] ∧ ∀ (j : Nat) t, fn.params[j]? = some t → Tryd.pinned.checked.prog.wantsStandIn t = false := by
  obtain rfl : f = 4 := Option.some.inj ((show Tryd.prog.funcNamed Tryd.f4.name = some 4 by kernel_rfl).symm.trans hf) |>.symm
  obtain rfl : fn = Tryd.f4 := (Option.some.inj (Tryd.func4.symm.trans hfn)).symm
  refine ⟨by kernel_rfl, fun j t ht => ?_⟩
  rw [Tryd.params4] at ht
  obtain rfl : t = 25 := by simpa using Array.mem_of_getElem? ht
  exact (show Tryd.prog.wantsStandIn 25 = false by kernel_rfl)
theorem runesOne_holds : Rows.RunesOneUptoCardSaid :=
  Claim7.holds_tied_plain_at .later [] _ _ _ _ oneSaid (fun _ h => by cases h) (by kernel_rfl) (fun _ h => by cases h) runesOneUpto_row_tie rfl ⟨rfl, rfl⟩ (by kernel_rfl) rfl onePlain (by kernel_rfl)
end Go.Proofs.YtjglehklfdhgaabDoor
