/- PROVED: the law RunesCuts of layer 1 answers true for any two lists of bytes, and both read afterwards as they read before: Decode and Cut, asked twice with another one between and once more when the list was written over, answer as the document's Decode and Cut; what is handed in stays, with what stands behind it; the eight lists that come out are their owner's.
   CONDITIONS: the second form: the arguments are together of bulk at most 1048576 (a slice of more than 2^45 bytes would want lists of more than 2^48 bytes); the tables runes.forms and runes.sizes start as the program's text lays them (the given card ties that); the card speaks of the pruned copy of the project that the seat holds. -/
import Derived.Test.YtjglehklfdhgaaaDoorCards
import Derived.Test.YtjglehklfdhgaaaDoorTie
import Derived.Test.YtjglehklfdhgaaaDoorArgsB
import Derived.Test.YtjglehklfdhgaaaDoorCt
namespace Go.Proofs.YtjglehklfdhgaaaDoor
open Go.ChangeShapes Go.WideShapes Go.ChangeAt Go.RowKit Go.Mx
set_option linter.unusedVariables false
set_option linter.unusedSimpArgs false
theorem cutsContract (H : Type) (enc : TypeId × Value → H) (W : World) (base : Nat) (args : Array Value) (ds gs : List (DataW H)) (before : List MemPlace)
    (hval : ∀ (j : Nat) t v, Tryd.f4.params[j]? = some t → args[j]? = some v → Value.okWide Tryd.prog W .any base t v)
    (hW : DataW.Whole enc Tryd.prog Tryd.f4.params.toList Rows.runesCutsSpec.vars false W args.toList ds gs before)
    (hk : Rows.uptoSmall H (ds ++ gs) = true)
    (hL : laidMetH Tryd.prog Rows.runesCutsUptoRow.laid W) :
    Calls Tryd.prog 4 args W fun e W' => ∃ v, e = .returned v ∧ Rows.runesCutsSpec.post enc Tryd.prog Tryd.f4 false true false false W args v W' := by
  have hW' := hW
  obtain ⟨p, q, hA0, hV, rfl, hfz, hnd⟩ := hW
  have hA : DataW.TrodAll enc Tryd.prog W 0 (fun _ => true) true Tryd.f4.params.toList args.toList ds p := hA0
  rw [Tryd.params4] at hA hval
  obtain ⟨v0, vs0, d0, ds0, p0, q0, hargs, rfl, rfl, h0, r0⟩ := trodAll_cons hA
  obtain ⟨v1, vs1, d1, ds1, p1, q1, rfl, rfl, rfl, h1, r1⟩ := trodAll_cons r0
  obtain ⟨rfl, rfl, rfl⟩ := trodAll_nil r1
  obtain rfl : args = #[v0, v1] := by cases args; simp_all
  obtain ⟨rfl, rfl⟩ := trodVars_none hV
  have hlt : ∀ x ∈ p0, x.block < W.heap.size := fun x hx => by have := hW'.lt x (by simp [hx]); simpa using this
  have hlt1 : ∀ x ∈ p1, x.block < W.heap.size := fun x hx => by have := hW'.lt x (by simp [hx]); simpa using this
  have hbk := bulk_bound hk
  simp only [List.cons_append, List.nil_append, Rows.uptoBulkAll] at hbk
  obtain ⟨l, ad, n, cap, rfl, hn, hcap, hI, hBL⟩ := bytes_arg (hval 0 25 v0 rfl rfl) h0 (B := 1048576) (fun elems spare hd => by
    subst hd
    have := bulk_slice elems spare
    omega)
  obtain ⟨o, ad2, n2, cap2, rfl, hn2, hcap2, hI2, hBL2⟩ := bytes_arg (hval 1 25 v1 rfl rfl) h1 (B := 1048576) (fun elems spare hd => by
    subst hd
    have := bulk_slice elems spare
    omega)
  have hnc : n ≤ cap := by
    obtain ⟨ad', cap', he, h3, _⟩ := hI
    simp only [Value.slice.injEq] at he
    obtain ⟨-, h5, rfl⟩ := he
    omega
  have hnc2 : n2 ≤ cap2 := by
    obtain ⟨ad', cap', he, h3, _⟩ := hI2
    simp only [Value.slice.injEq] at he
    obtain ⟨-, h5, rfl⟩ := he
    omega
  refine (cuts4 l o ad ad2 n cap n2 cap2 W hn.symm hn2.symm hI hI2 hBL hBL2 (tabs_of_laid hL) (size_of_tabs (tabs_of_laid hL)) (by omega) (by omega)).mono fun e W' ⟨he, hb⟩ => ?_
  subst he
  exact ⟨_, rfl, _, _, _, [], p0 ++ (p1 ++ []), [], hW', trodAll_cons_mk (shut_bool Tryd.underlying4 _) trodAll_mk0, trodAll_cons_mk (Below.trod laidOut (by kernel_rfl) (of_decide_eq_true (by kernel_rfl)) h0 hb hlt) (trodAll_cons_mk (Below.trod laidOut (by kernel_rfl) (of_decide_eq_true (by kernel_rfl)) h1 hb hlt1) trodAll_mk0), rfl, hb.frame _, fun h => by cases h⟩
theorem cutsLaid (os : Os) : laidMet Tryd.prog Rows.runesCutsUptoRow.laid ((fixWorld (World.holding Tryd.prog os ⟨#[], #[], []⟩)).forCall (fun _ _ => 0) ⟨#[], #[.slice none 0 0, .slice none 0 0], []⟩).memory :=
  laidMet_of_run' 8 (by kernel_rfl) (by kernel_rfl)
theorem cutsReads (os : Os) {H : Type} (enc : TypeId × Value → H) : ∃ places, DataW.whole enc Tryd.prog ((fixWorld (World.holding Tryd.prog os ⟨#[], #[], []⟩)).forCall (fun _ _ => 0) ⟨#[], #[.slice none 0 0, .slice none 0 0], []⟩).memory Tryd.f4.params.toList Rows.runesCutsSpec.vars false (#[Value.slice none 0 0, .slice none 0 0] : Array Value).toList 8 = some ([.nil, .nil], [], places) :=
  ⟨[], by kernel_rfl⟩
set_option maxRecDepth 100000 in
theorem cutsLifted (os : Os) (started : os.Started) (H : Type) (enc : TypeId × Value → H) (F : Stop.Interp) :
    ReturnsInHanded {} Tryd.checked os 4 .any ((Rows.OpenSpec.upto Rows.runesCutsSpec).preRow enc Tryd.prog Tryd.f4 Rows.runesCutsUptoRow.domain false Rows.runesCutsUptoRow.laid) (((Rows.OpenSpec.upto Rows.runesCutsSpec).at F).post enc Tryd.prog Tryd.f4 false true false false) := by
  obtain ⟨places, hx⟩ := cutsReads os enc
  refine returnsInHanded_of_row (C := Tryd.checked) (s := Rows.OpenSpec.upto Rows.runesCutsSpec) own started (by kernel_rfl) Tryd.func4
    (witness_row_at (enc := enc) (C := Tryd.checked) false (fixWorld (World.holding Tryd.prog os ⟨#[], #[], []⟩)) #[.slice none 0 0, .slice none 0 0] rfl (by kernel_rfl) (by kernel_rfl) (by kernel_rfl)
      (OpenSpec.preRow_of_cond 8 hx (by kernel_rfl) (fun k hk => by cases hk; kernel_rfl) (by kernel_rfl) (cutsLaid os))) ?_
  intro W base args ds gs before hval hW _ hcond _ hL _ _
  exact cutsContract H enc W base args ds gs before hval hW (hcond _ rfl) hL
theorem cutsSaid : Rows.RunesCutsUptoSaid :=
  OpenClaim.holds_of_cond 4 Tryd.f4 rfl rfl rfl rfl rfl rfl rfl ⟨rfl, rfl, rfl, rfl, rfl⟩ rfl rfl rfl rfl rfl (by kernel_rfl) Tryd.func4 (by kernel_rfl)
    (of_decide_eq_true (by kernel_rfl)) (by unfold Func.isWrapper; first | (rw [if_pos (by decide +kernel)]; kernel_rfl) | (rw [if_neg (by decide +kernel)]; exact ⟨rfl, rfl⟩))
    (fun os started H enc _ F => by rw [OpenClaim.pre_eq_preRow]; exact cutsLifted os started H enc F)
theorem cutsPlain (f : FuncId) (fn : Func) (hf : Tryd.pinned.checked.prog.funcNamed Tryd.f4.name = some f) (hfn : Tryd.pinned.checked.prog.funcs[f]? = some fn) :
    false = Tryd.pinned.checked.prog.looks [] ∧ ∀ (j : Nat) t, fn.params[j]? = some t → Tryd.pinned.checked.prog.wantsStandIn t = false := by
  obtain rfl : f = 4 := Option.some.inj ((show Tryd.prog.funcNamed Tryd.f4.name = some 4 by kernel_rfl).symm.trans hf) |>.symm
  obtain rfl : fn = Tryd.f4 := (Option.some.inj (Tryd.func4.symm.trans hfn)).symm
  refine ⟨by kernel_rfl, fun j t ht => ?_⟩
  rw [Tryd.params4] at ht
  obtain rfl : t = 25 := by simpa using Array.mem_of_getElem? ht
  exact (show Tryd.prog.wantsStandIn 25 = false by kernel_rfl)
theorem runesCuts_holds : Rows.RunesCutsUptoCardSaid :=
  Claim7.holds_tied_plain_at .later [] _ _ _ _ cutsSaid (fun _ h => by cases h) (by kernel_rfl) (fun _ h => by cases h) runesCutsUpto_row_tie rfl ⟨rfl, rfl⟩ (by kernel_rfl) rfl cutsPlain (by kernel_rfl)
end Go.Proofs.YtjglehklfdhgaaaDoor
