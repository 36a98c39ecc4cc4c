/- PROVED: the law RunesPlaces of layer 1 answers true for all bytes and every number, and both read afterwards as they read before: places rise from 0 to the end; at each place the runes ahead and behind are those of the two parts; what was told by more than one byte, or is no FFFD, is written as it stood there; runes of Cut written are the same runes.
   CONDITIONS: the second form: the arguments are together of bulk at most 1048576 (a slice of more than 2^45 bytes would want lists of more than 2^48 bytes); the tables runes.forms and runes.sizes start as the program's text lays them (the given card ties that); the card speaks of the pruned copy of the project that the seat holds. -/
import Derived.Test.YtjglehklfdhgaaaDoorCards
import Derived.Test.YtjglehklfdhgaaaDoorTie
import Derived.Test.YtjglehklfdhgaaaDoorArgs
import Derived.Test.YtjglehklfdhgaaaDoorPlJ
import Derived.Test.YtjglehklfdhgaaaDoorPl0
import Derived.Test.YtjglehklfdhgaaaDoorArgsB
namespace Go.Proofs.YtjglehklfdhgaaaDoor
open Go.ChangeShapes Go.WideShapes Go.ChangeAt Go.RowKit Go.Mx
set_option linter.unusedVariables false
set_option linter.unusedSimpArgs false
theorem places8 (l : List Int) (ad : Option Addr) (n cap : Nat) (at' : Int) (w : World) (hn : n = l.length) (hl : BytesAt w.heap.size w (.slice ad n cap) l) (hc : cap ≤ 1048576) (hL : ByteL l) (hT : Tabs w) (ha1 : -9223372036854775808 ≤ at') (ha2 : at' ≤ 9223372036854775807) :
    Calls Tryd.prog 8 #[.slice ad n cap, .int .i64 at'] w fun e w' => e = .returned (.bool true) ∧ Below w.heap.size w w' := by
  have h2 := size_of_tabs hT
  obtain ⟨ad', cap', he, h1, h3, h | ⟨b, off, rfl, hbN, h0⟩⟩ := hl
  · have hn0 : n = 0 := by omega
    subst hn0
    exact places_zero ad cap at' w hc hT h2 ha1 ha2
  · simp only [Value.slice.injEq] at he
    obtain ⟨rfl, -, rfl⟩ := he
    by_cases hz : n = 0
    · subst hz
      exact places_zero _ cap at' w hc hT h2 ha1 ha2
    · exact places_any l b off n cap at' w hn (by omega) (by omega) (by omega) hc h0 hbN hL hT h2 ha1 ha2
theorem placesContract (H : Type) (enc : TypeId × Value → H) (W : World) (base : Nat) (args : Array Value) (ds gs : List (DataW H)) (before : List MemPlace)
    (hval : ∀ (j : Nat) t v, Tryd.f8.params[j]? = some t → args[j]? = some v → Value.okWide Tryd.prog W .any base t v)
    (hW : DataW.Whole enc Tryd.prog Tryd.f8.params.toList Rows.runesPlacesSpec.vars false W args.toList ds gs before)
    (hk : Rows.uptoSmall H (ds ++ gs) = true)
    (hL : laidMetH Tryd.prog Rows.runesPlacesUptoRow.laid W) :
    Calls Tryd.prog 8 args W fun e W' => ∃ v, e = .returned v ∧ Rows.runesPlacesSpec.post enc Tryd.prog Tryd.f8 false true false false W args v W' := by
  have hW' := hW
  obtain ⟨p, q, hA0, hV, rfl, hfz, hnd⟩ := hW
  have hA : DataW.TrodAll enc Tryd.prog W 0 (fun _ => true) true Tryd.f8.params.toList args.toList ds p := hA0
  rw [Tryd.params8] at hA hval
  obtain ⟨v0, vs0, d0, ds0, p0, q0, hargs, rfl, rfl, h0, r0⟩ := trodAll_cons hA
  obtain ⟨v1, vs1, d1, ds1, p1, q1, rfl, rfl, rfl, h1, r1⟩ := trodAll_cons r0
  obtain ⟨rfl, rfl, rfl⟩ := trodAll_nil r1
  obtain rfl : args = #[v0, v1] := by cases args; simp_all
  obtain ⟨rfl, rfl⟩ := trodVars_none hV
  have hlt : ∀ x ∈ p0, x.block < W.heap.size := fun x hx => by have := hW'.lt x (by simp [hx]); simpa using this
  have hbk := bulk_bound hk
  simp only [List.cons_append, List.nil_append, Rows.uptoBulkAll] at hbk
  obtain ⟨l, ad, n, cap, rfl, hn, hcap, hI, hBL⟩ := bytes_arg (hval 0 25 v0 rfl rfl) h0 (B := 1048576) (fun elems spare hd => by
    subst hd
    have := bulk_slice elems spare
    omega)
  obtain ⟨x, rfl, rfl, rfl, wx⟩ := open_int Tryd.underlying3 (hval 1 3 v1 rfl rfl) h1
  have bx := bounds_i64 wx
  refine (places8 l ad n cap x W hn hI hcap hBL (tabs_of_laid hL) bx.1 bx.2).mono fun e W' ⟨he, hb⟩ => ?_
  subst he
  exact ⟨_, rfl, _, _, _, [], p0 ++ ([] ++ []), [], hW', trodAll_cons_mk (shut_bool Tryd.underlying4 _) trodAll_mk0, trodAll_cons_mk (Below.trod laidOut (by kernel_rfl) (of_decide_eq_true (by kernel_rfl)) h0 hb hlt) (trodAll_cons_mk (shut_int Tryd.underlying3 wx) trodAll_mk0), rfl, hb.frame _, fun h => by cases h⟩
theorem placesLaid (os : Os) : laidMet Tryd.prog Rows.runesPlacesUptoRow.laid ((fixWorld (World.holding Tryd.prog os ⟨#[], #[], []⟩)).forCall (fun _ _ => 0) ⟨#[], #[.slice none 0 0, .int .i64 0], []⟩).memory :=
  laidMet_of_run' 8 (by kernel_rfl) (by kernel_rfl)
theorem placesReads (os : Os) {H : Type} (enc : TypeId × Value → H) : ∃ places, DataW.whole enc Tryd.prog ((fixWorld (World.holding Tryd.prog os ⟨#[], #[], []⟩)).forCall (fun _ _ => 0) ⟨#[], #[.slice none 0 0, .int .i64 0], []⟩).memory Tryd.f8.params.toList Rows.runesPlacesSpec.vars false (#[Value.slice none 0 0, .int .i64 0] : Array Value).toList 8 = some ([.nil, .lit (.int .i64 0)], [], places) :=
  ⟨[], by kernel_rfl⟩
set_option maxRecDepth 100000 in
theorem placesLifted (os : Os) (started : os.Started) (H : Type) (enc : TypeId × Value → H) (F : Stop.Interp) :
    ReturnsInHanded {} Tryd.checked os 8 .any ((Rows.OpenSpec.upto Rows.runesPlacesSpec).preRow enc Tryd.prog Tryd.f8 Rows.runesPlacesUptoRow.domain false Rows.runesPlacesUptoRow.laid) (((Rows.OpenSpec.upto Rows.runesPlacesSpec).at F).post enc Tryd.prog Tryd.f8 false true false false) := by
  obtain ⟨places, hx⟩ := placesReads os enc
  refine returnsInHanded_of_row (C := Tryd.checked) (s := Rows.OpenSpec.upto Rows.runesPlacesSpec) own started (by kernel_rfl) Tryd.func8
    (witness_row_at (enc := enc) (C := Tryd.checked) false (fixWorld (World.holding Tryd.prog os ⟨#[], #[], []⟩)) #[.slice none 0 0, .int .i64 0] rfl (by kernel_rfl) (by kernel_rfl) (by kernel_rfl)
      (OpenSpec.preRow_of_cond 8 hx (by kernel_rfl) (fun k hk => by cases hk; kernel_rfl) (by kernel_rfl) (placesLaid os))) ?_
  intro W base args ds gs before hval hW _ hcond _ hL _ _
  exact placesContract H enc W base args ds gs before hval hW (hcond _ rfl) hL
theorem placesSaid : Rows.RunesPlacesUptoSaid :=
  OpenClaim.holds_of_cond 8 Tryd.f8 rfl rfl rfl rfl rfl rfl rfl ⟨rfl, rfl, rfl, rfl, rfl⟩ rfl rfl rfl rfl rfl (by kernel_rfl) Tryd.func8 (by kernel_rfl)
    (of_decide_eq_true (by kernel_rfl)) (by unfold Func.isWrapper; first | (rw [if_pos (by decide +kernel)]; kernel_rfl) | (rw [if_neg (by decide +kernel)]; exact ⟨rfl, rfl⟩))
    (fun os started H enc _ F => by rw [OpenClaim.pre_eq_preRow]; exact placesLifted os started H enc F)
theorem placesPlain (f : FuncId) (fn : Func) (hf : Tryd.pinned.checked.prog.funcNamed Tryd.f8.name = some f) (hfn : Tryd.pinned.checked.prog.funcs[f]? = some fn) :
    false = Tryd.pinned.checked.prog.looks [] ∧ ∀ (j : Nat) t, fn.params[j]? = some t → Tryd.pinned.checked.prog.wantsStandIn t = false := by
  obtain rfl : f = 8 := Option.some.inj ((show Tryd.prog.funcNamed Tryd.f8.name = some 8 by kernel_rfl).symm.trans hf) |>.symm
  obtain rfl : fn = Tryd.f8 := (Option.some.inj (Tryd.func8.symm.trans hfn)).symm
  refine ⟨by kernel_rfl, fun j t ht => ?_⟩
  rw [Tryd.params8] at ht
  have hm := Array.mem_of_getElem? ht
  have h : t = 25 ∨ t = 3 := by simpa using hm
  rcases h with rfl | rfl
  · exact (show Tryd.prog.wantsStandIn 25 = false by kernel_rfl)
  · exact (show Tryd.prog.wantsStandIn 3 = false by kernel_rfl)
theorem runesPlaces_holds : Rows.RunesPlacesUptoCardSaid :=
  Claim7.holds_tied_plain_at .later [] _ _ _ _ placesSaid (fun _ h => by cases h) (by kernel_rfl) (fun _ h => by cases h) runesPlacesUpto_row_tie rfl ⟨rfl, rfl⟩ (by kernel_rfl) rfl placesPlain (by kernel_rfl)
end Go.Proofs.YtjglehklfdhgaaaDoor
