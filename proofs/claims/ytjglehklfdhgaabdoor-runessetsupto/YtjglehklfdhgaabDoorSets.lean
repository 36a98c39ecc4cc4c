/- PROVED: the law RunesSets of layer 1 answers true for all lists of ranges and runes, and they read afterwards as they read before: the classes that Norm, Union, Negate and Fold answer have just the runes that they must, asked by Has at the ends of all ranges, about them, and at the runes that are handed in.
   CONDITIONS: the second form: the arguments are together of bulk at most 1048576 (a list of nearly 2^47 bytes would want one of twice as many); the tables runes.forms and runes.sizes start as the program's text lays them (the given card ties that); the card speaks of the pruned copy of the project that the seat holds. -/
import Derived.Test.YtjglehklfdhgaabDoorCards
import Derived.Test.YtjglehklfdhgaabDoorTie
import Derived.Test.YtjglehklfdhgaabDoorArgs
import Derived.Test.YtjglehklfdhgaabDoorSetE
import Derived.Test.YtjglehklfdhgaabDoorSetMA
import Derived.Test.YtjglehklfdhgaabDoorSetMB
import Derived.Test.YtjglehklfdhgaabDoorEd00
import Derived.Test.YtjglehklfdhgaabDoorEd01
import Derived.Test.YtjglehklfdhgaabDoorEd10
import Derived.Test.YtjglehklfdhgaabDoorEd11
namespace Go.Proofs.YtjglehklfdhgaabDoor
open Go.ChangeShapes Go.WideShapes Go.ChangeAt Go.RowKit Go.Mx Go.Joins
set_option linter.unusedVariables false
set_option linter.unusedSimpArgs false
theorem edges_any (A B : List (Int × Int)) (R : List Int) (aa ab ar : Option Addr) (na nb nr ca cb cr : Nat) (w : World) (hna : na = A.length) (hnb : nb = B.length) (hnr : nr = R.length)
    (sA : na ≤ 1048576) (sB : nb ≤ 1048576) (sR : nr ≤ 1048576) (hA : RowAt w.heap.size w (.slice aa na ca) A) (hB : RowAt w.heap.size w (.slice ab nb cb) B) (hR : IntsAt w.heap.size w (.slice ar nr cr) R) (zr : ar = none → cr = 0) (oA : A.all okR = true) (oB : B.all okR = true) :
    Calls Tryd.prog 10 #[.slice aa na ca, .slice ab nb cb, .slice ar nr cr] w fun e w' => ∃ v m X, e = .returned v ∧ w'.ownsRow w.heap.size 3 1 v m (I64 X) ∧ Below w.heap.size w w' ∧ 1 ≤ m ∧ m ≤ 3000000 := by
  rcases Nat.lt_or_ge 40 na with qa | qa <;> rcases Nat.lt_or_ge 40 nb with qb | qb
  · exact edges_11 A B R aa ab ar na nb nr ca cb cr w hna hnb hnr sA sB sR hA hB hR zr oA oB qa qb
  · exact edges_10 A B R aa ab ar na nb nr ca cb cr w hna hnb hnr sA sB sR hA hB hR zr oA oB qa qb
  · exact edges_01 A B R aa ab ar na nb nr ca cb cr w hna hnb hnr sA sB sR hA hB hR zr oA oB qa qb
  · exact edges_00 A B R aa ab ar na nb nr ca cb cr w hna hnb hnr sA sB sR hA hB hR zr oA oB qa qb
theorem sets3 (LA LB : List (Int × Int)) (LR : List Int) (aA aB aR : Option Addr) (nA nB nR cA cB cR : Nat) (w0 : World) (hT : Tabs w0) (h2 : 2 ≤ w0.heap.size)
    (hA : RowAt w0.heap.size w0 (.slice aA nA cA) LA) (hB : RowAt w0.heap.size w0 (.slice aB nB cB) LB) (hR : IntsAt w0.heap.size w0 (.slice aR nR cR) LR) (hnA : nA = LA.length) (hnB : nB = LB.length) (hnR : nR = LR.length) (hSA : nA ≤ 1048576) (hSB : nB ≤ 1048576) (hSR : nR ≤ 1048576) (zR : aR = none → cR = 0) :
    Calls Tryd.prog 3 #[.agg #[.slice aA nA cA, .slice aB nB cB, .slice aR nR cR]] w0 fun e w' => e = .returned (.bool true) ∧ Below w0.heap.size w0 w' := by
  by_cases hAc : ∃ C, LA.all okR = true ∧ rightFrom 0 C = true ∧ C.length ≤ 5000 ∧ ∀ r, hasB C r = (dom r && hasB LA r)
  · obtain ⟨CA, okA, rA, KA, sA⟩ := hAc
    by_cases hBc : ∃ C, LB.all okR = true ∧ rightFrom 0 C = true ∧ C.length ≤ 5000 ∧ ∀ r, hasB C r = (dom r && hasB LB r)
    · obtain ⟨CB, okB, rB, KB, sB⟩ := hBc
      by_cases hU : HasU (CA ++ CB)
      · obtain ⟨CU, rU, KU, sU0⟩ := hU
        have sU : ∀ r, hasB CU r = (hasB CA r || hasB CB r) := fun r => by rw [sU0, hasB_append, Bool.and_or_distrib_left, right_has rA, right_has rB]
        by_cases hN : HasU (negFrom 0 CA)
        · obtain ⟨CN, rN, KN, sN0⟩ := hN
          have sN : ∀ r, hasB CN r = (dom r && !hasB CA r) := fun r => by rw [sN0, neg_runes rA]
          by_cases hO : HasU (CA ++ allFold CA)
          · obtain ⟨CO, rO, KO, sO0⟩ := hO
            have sO : ∀ r, hasB CO r = foldB CA r := fun r => by rw [sO0, fold_has rA]
            have hed := fun w h1 h2 h3 => edges_any LA LB LR aA aB aR nA nB nR cA cB cR w hnA hnB hnR hSA hSB hSR h1 h2 h3 zR okA okB
            rcases Nat.lt_or_ge 2000 CA.length with hl | hl
            · exact sets_mainA LA LB aA aB aR nA nB nR cA cB cR w0 hT h2 hA hB hnA hnB hSA hSB LR CA CB CA.length CB.length okA okB rA rB KA KB rfl rfl sA sB CU CU.length rfl rU KU sU CN CN.length rfl rN KN sN CO CO.length rfl rO KO sO hed hR hl
            · exact sets_mainB LA LB aA aB aR nA nB nR cA cB cR w0 hT h2 hA hB hnA hnB hSA hSB LR CA CB CA.length CB.length okA okB rA rB KA KB rfl rfl sA sB CU CU.length rfl rU KU sU CN CN.length rfl rN KN sN CO CO.length rfl rO KO sO hed hR hl
          · exact sets_noO LA LB aA aB aR nA nB nR cA cB cR w0 hT h2 hA hB hnA hnB hSA hSB CA CB CA.length CB.length okA okB rA rB KA KB rfl rfl sA sB CU CU.length rfl rU KU sU CN CN.length rfl rN KN sN hO (full_o rA hO)
        · exact sets_noN LA LB aA aB aR nA nB nR cA cB cR w0 hT h2 hA hB hnA hnB hSA hSB CA CB CA.length CB.length okA okB rA rB KA KB rfl rfl sA sB CU CU.length rfl rU KU sU hN (full_n rA hN)
      · rcases Nat.lt_or_ge 2000 CA.length with hl | hl
        · exact sets_noUa LA LB aA aB aR nA nB nR cA cB cR w0 hT h2 hA hB hnA hnB hSA hSB CA CB CA.length CB.length okA okB rA rB KA KB rfl rfl sA sB hU hl
        · exact sets_noUb LA LB aA aB aR nA nB nR cA cB cR w0 hT h2 hA hB hnA hnB hSA hSB CA CB CA.length CB.length okA okB rA rB KA KB rfl rfl sA sB hU hl ((full_u rA rB hU).resolve_left (by omega))
    · exact sets_badB LA LB aA aB aR nA nB nR cA cB cR w0 hT h2 hA hB hnA hnB hSA hSB CA CA.length okA rA KA rfl sA hBc
  · exact sets_badA LA LB aA aB aR nA nB nR cA cB cR w0 hT h2 hA hB hnA hnB hSA hSB hAc
/-- a []int that came in, of bounded bulk -/
theorem ints_argU {H : Type} {enc : TypeId × Value → H} {W : World} {fuel : Nat} {v : Value} {x : DataW H × List MemPlace} (hf : DataW.trod enc Tryd.prog W 0 (fun _ => true) true fuel 23 [v] = some x)
    (hsz : ∀ elems spare, x.1 = .slice elems spare → elems.length + spare.length ≤ 1048576) :
    ∃ (R : List Int) (ad : Option Addr) (n cap : Nat), v = .slice ad n cap ∧ n = R.length ∧ n ≤ 1048576 ∧ IntsAt W.heap.size W (.slice ad n cap) R ∧ (ad = none → cap = 0) := by
  rcases open_ints Tryd.underlying23 Tryd.underlying3 cellsA3 hf with ⟨hcs, hx⟩ | ⟨a, len, cap, zs, hcs, _, hl, hm, hz, hx, hcell, hwz⟩
  · simp at hcs
    subst hcs
    exact ⟨[], none, 0, 0, rfl, rfl, by omega, ⟨none, 0, rfl, .inl rfl⟩, fun _ => rfl⟩
  · simp at hcs
    subst hcs
    simp only [if_true] at hz
    have hs := hsz _ _ (by rw [hx])
    simp only [lits, List.length_map, List.length_take, List.length_drop] at hs
    have htl : (zs.take len).length = len := by rw [List.length_take]; omega
    refine ⟨zs.take len, some a, len, cap, rfl, htl.symm, by omega, ⟨some a, cap, by rw [htl], ?_⟩, fun h => by cases h⟩
    rw [htl]
    by_cases h0 : len = 0
    · left; omega
    · right
      obtain ⟨b, off, rfl, hc⟩ := ints_at hcell (by omega)
      refine ⟨b, off, rfl, lt_of_cell (hc 0 (by omega)), fun k hk => ?_⟩
      rw [hc k (by omega)]
      simp [List.getD_eq_getElem?_getD, List.getElem?_take, hk]
theorem setsContract (H : Type) (enc : TypeId × Value → H) (W : World) (base : Nat) (args : Array Value) (ds gs : List (DataW H)) (before : List MemPlace)
    (hval : ∀ (j : Nat) t v, Tryd.f3.params[j]? = some t → args[j]? = some v → Value.okWide Tryd.prog W .any base t v)
    (hW : DataW.Whole enc Tryd.prog Tryd.f3.params.toList Rows.runesSetsSpec.vars false W args.toList ds gs before)
    (hk : Rows.uptoSmall H (ds ++ gs) = true)
    (hL : laidMetH Tryd.prog Rows.runesSetsUptoRow.laid W) :
    Calls Tryd.prog 3 args W fun e W' => ∃ v, e = .returned v ∧ Rows.runesSetsSpec.post enc Tryd.prog Tryd.f3 false true false false W args v W' := by
  have hW' := hW
  obtain ⟨p, q, hA0, hV, rfl, hfz, hnd⟩ := hW
  have hA : DataW.TrodAll enc Tryd.prog W 0 (fun _ => true) true Tryd.f3.params.toList args.toList ds p := hA0
  rw [Tryd.params3] at hA hval
  obtain ⟨v0, vs0, d0, ds0, p0, q0, hargs, rfl, rfl, h0, r0⟩ := trodAll_cons hA
  obtain ⟨rfl, rfl, rfl⟩ := trodAll_nil r0
  obtain rfl : args = #[v0] := by cases args; simp_all
  obtain ⟨rfl, rfl⟩ := trodVars_none hV
  have hlt : ∀ x ∈ p0, x.block < W.heap.size := fun x hx => by have := hW'.lt x (by simp [hx]); simpa using this
  have hbk := bulk_bound hk
  simp only [List.cons_append, List.nil_append, Rows.uptoBulkAll] at hbk
  obtain ⟨c0, c1, c2, y0, y1, y2, m, hv0, hd0, hp0, hy0, hy1, hy2⟩ := open_agg3 Tryd.underlying25 (by kernel_rfl) cellsA25 (hval 0 25 v0 rfl rfl) h0
  rw [hd0] at hbk
  simp only [Rows.uptoBulk, Rows.uptoBulkAll] at hbk
  obtain ⟨LA, aA, nA, cA, rfl, hnA, hSA, hRA, zA⟩ := rng_arg hy0 (fun elems spare hd => by
    rw [hd] at hbk
    have := bulk_slice elems spare
    omega)
  obtain ⟨LB, aB, nB, cB, rfl, hnB, hSB, hRB, zB⟩ := rng_arg hy1 (fun elems spare hd => by
    rw [hd] at hbk
    have := bulk_slice elems spare
    omega)
  obtain ⟨LR, aR, nR, cR, rfl, hnR, hSR, hRR, zR⟩ := ints_argU hy2 (fun elems spare hd => by
    rw [hd] at hbk
    have := bulk_slice elems spare
    omega)
  subst hv0
  have hT := tabs_of_laid hL
  refine (sets3 LA LB LR aA aB aR nA nB nR cA cB cR W hT (size_of_tabs hT) hRA hRB hRR hnA hnB hnR hSA hSB hSR zR).mono fun e W' ⟨he, hb⟩ => ?_
  subst he
  exact ⟨_, rfl, _, _, _, [], p0 ++ [], [], hW', trodAll_cons_mk (shut_bool Tryd.underlying4 _) trodAll_mk0, trodAll_cons_mk (Below.trod laidOut (by kernel_rfl) (of_decide_eq_true (by kernel_rfl)) h0 hb hlt) trodAll_mk0, rfl, hb.frame _, fun h => by cases h⟩
theorem setsLaid (os : Os) : laidMet Tryd.prog Rows.runesSetsUptoRow.laid ((fixWorld (World.holding Tryd.prog os ⟨#[], #[], []⟩)).forCall (fun _ _ => 0) ⟨#[], #[.agg #[.slice none 0 0, .slice none 0 0, .slice none 0 0]], []⟩).memory :=
  laidMet_of_run' 8 (by kernel_rfl) (by kernel_rfl)
theorem setsReads (os : Os) {H : Type} (enc : TypeId × Value → H) : ∃ places, DataW.whole enc Tryd.prog ((fixWorld (World.holding Tryd.prog os ⟨#[], #[], []⟩)).forCall (fun _ _ => 0) ⟨#[], #[.agg #[.slice none 0 0, .slice none 0 0, .slice none 0 0]], []⟩).memory Tryd.f3.params.toList Rows.runesSetsSpec.vars false (#[Value.agg #[.slice none 0 0, .slice none 0 0, .slice none 0 0]] : Array Value).toList 8 = some ([.agg [.nil, .nil, .nil]], [], places) :=
  ⟨[], by kernel_rfl⟩
set_option maxRecDepth 100000 in
theorem setsLifted (os : Os) (started : os.Started) (H : Type) (enc : TypeId × Value → H) (F : Stop.Interp) :
    ReturnsInHanded {} Tryd.checked os 3 .any ((Rows.OpenSpec.upto Rows.runesSetsSpec).preRow enc Tryd.prog Tryd.f3 Rows.runesSetsUptoRow.domain false Rows.runesSetsUptoRow.laid) (((Rows.OpenSpec.upto Rows.runesSetsSpec).at F).post enc Tryd.prog Tryd.f3 false true false false) := by
  obtain ⟨places, hx⟩ := setsReads os enc
  refine returnsInHanded_of_row (C := Tryd.checked) (s := Rows.OpenSpec.upto Rows.runesSetsSpec) own started (by kernel_rfl) Tryd.func3
    (witness_row_at (enc := enc) (C := Tryd.checked) false (fixWorld (World.holding Tryd.prog os ⟨#[], #[], []⟩)) #[.agg #[.slice none 0 0, .slice none 0 0, .slice none 0 0]] rfl (by kernel_rfl) (by kernel_rfl) (by kernel_rfl)
      (OpenSpec.preRow_of_cond 8 hx (by kernel_rfl) (fun k hk => by cases hk; kernel_rfl) (by kernel_rfl) (setsLaid os))) ?_
  intro W base args ds gs before hval hW _ hcond _ hL _ _
  exact setsContract H enc W base args ds gs before hval hW (hcond _ rfl) hL
theorem setsSaid : Rows.RunesSetsUptoSaid :=
  OpenClaim.holds_of_cond 3 Tryd.f3 rfl rfl rfl rfl rfl rfl rfl ⟨rfl, rfl, rfl, rfl, rfl⟩ rfl rfl rfl rfl rfl (by kernel_rfl) Tryd.func3 (by kernel_rfl)
    (of_decide_eq_true (by kernel_rfl)) (by unfold Func.isWrapper; first | (rw [if_pos (by decide +kernel)]; kernel_rfl) | (rw [if_neg (by decide +kernel)]; exact ⟨rfl, rfl⟩))
    (fun os started H enc _ F => by rw [OpenClaim.pre_eq_preRow]; exact setsLifted os started H enc F)
theorem setsPlain (f : FuncId) (fn : Func) (hf : Tryd.pinned.checked.prog.funcNamed Tryd.f3.name = some f) (hfn : Tryd.pinned.checked.prog.funcs[f]? = some fn) :
    false = Tryd.pinned.checked.prog.looks [] ∧ ∀ (j : Nat) t, fn.params[j]? = some t → Tryd.pinned.checked.prog.wantsStandIn t = false := by
  obtain rfl : f = 3 := Option.some.inj ((show Tryd.prog.funcNamed Tryd.f3.name = some 3 by kernel_rfl).symm.trans hf) |>.symm
  obtain rfl : fn = Tryd.f3 := (Option.some.inj (Tryd.func3.symm.trans hfn)).symm
  refine ⟨by kernel_rfl, fun j t ht => ?_⟩
  rw [Tryd.params3] at ht
  obtain rfl : t = 25 := by simpa using Array.mem_of_getElem? ht
  exact (show Tryd.prog.wantsStandIn 25 = false by kernel_rfl)
theorem runesSets_holds : Rows.RunesSetsUptoCardSaid :=
  Claim7.holds_tied_plain_at .later [] _ _ _ _ setsSaid (fun _ h => by cases h) (by kernel_rfl) (fun _ h => by cases h) runesSetsUpto_row_tie rfl ⟨rfl, rfl⟩ (by kernel_rfl) rfl setsPlain (by kernel_rfl)
end Go.Proofs.YtjglehklfdhgaabDoor
