/- PROVED: the law LookPut of layer 2 answers true for all texts and places, and both texts read afterwards as they read before: with runes put behind a text, or ahead of it, the same holds at all its places but the one where they touch.
   CONDITIONS: the second form: the arguments are together of bulk at most 1048576 (two texts of nearly 2^47 bytes each, put together, would be more than append can make). -/
import Derived.Test.YtoicnhcajhgbeaaArgsU
import Derived.Test.YtoicnhcajhgbeaaPutW
namespace Go.Proofs.Ytoicnhcajhgbeaa
open Go.ChangeShapes Go.WideShapes Go.ChangeAt Go.RowKit Go.Lk
set_option linter.unusedVariables false
set_option linter.unusedSimpArgs false
theorem put7 (l m : List Int) (ad ao : Option Addr) (n cap no co : Nat) (p : Int) (w0 : World) (hT : TextAt w0.heap.size w0 ad n l) (hO : TextAt w0.heap.size w0 ao no m) (hn1 : ad = none → cap = 0) (hn2 : ao = none → co = 0)
    (hm1 : n ≤ 1048576) (hm2 : no ≤ 1048576) :
    Calls Try.prog 7 #[.slice ad n cap, .slice ao no co, .int .i64 p] w0 fun e w' => e = .returned (.bool true) ∧ Below w0.heap.size w0 w' := by
  by_cases h : p < 0 ∨ (n : Int) < p ∨ no = 0
  · exact put_out ad ao n cap no co p w0 h
  · obtain ⟨q, rfl⟩ := Int.eq_ofNat_of_zero_le (show 0 ≤ p by omega)
    exact put_in l m ad ao n cap no co q w0 hT hO hn1 hn2 hm1 hm2 (by omega) (by omega)
theorem putContract (H : Type) (enc : TypeId × Value → H) (W : World) (base : Nat) (args : Array Value) (ds gs : List (DataW H)) (before : List MemPlace)
    (hval : ∀ (j : Nat) t v, Try.f7.params[j]? = some t → args[j]? = some v → Value.okWide Try.prog W .any base t v)
    (hW : DataW.Whole enc Try.prog Try.f7.params.toList Rows.lookPutSpec.vars false W args.toList ds gs before) (hk : Rows.uptoSmall H (ds ++ gs) = true) :
    Calls Try.prog 7 args W fun e W' => ∃ v, e = .returned v ∧ Rows.lookPutSpec.post enc Try.prog Try.f7 false true false false W args v W' := by
  have hW' := hW
  obtain ⟨p, q, hA0, hV, rfl, hfz, hnd⟩ := hW
  have hA : DataW.TrodAll enc Try.prog W 0 (fun _ => true) true Try.f7.params.toList args.toList ds p := hA0
  rw [Try.params7] at hA hval
  obtain ⟨v0, vs0, d0, ds0, p0, q0, hargs, rfl, rfl, h0, r0⟩ := trodAll_cons hA
  obtain ⟨v1, vs1, d1, ds1, p1, q1, rfl, rfl, rfl, h1, r1⟩ := trodAll_cons r0
  obtain ⟨v2, vs2, d2, ds2, p2, q2, rfl, rfl, rfl, h2, r2⟩ := trodAll_cons r1
  obtain ⟨rfl, rfl, rfl⟩ := trodAll_nil r2
  obtain rfl : args = #[v0, v1, v2] := by cases args; simp_all
  obtain ⟨rfl, rfl⟩ := trodVars_none hV
  have hlt0 : ∀ x ∈ p0, x.block < W.heap.size := fun x hx => by have := hW'.lt x (by simp [hx]); simpa using this
  have hlt1 : ∀ x ∈ p1, x.block < W.heap.size := fun x hx => by have := hW'.lt x (by simp [hx]); simpa using this
  have hbk := bulk_bound hk
  simp only [List.cons_append, List.nil_append, Rows.uptoBulkAll] at hbk
  obtain ⟨l, ad, n, cap, rfl, hm1, hT, hn1⟩ := text_argU (hval 0 22 v0 rfl rfl) h0 (fun elems spare hd => by
    subst hd
    have := bulk_slice elems spare
    omega)
  obtain ⟨m, ao, no, co, rfl, hm2, hO, hn2⟩ := text_argU (hval 1 22 v1 rfl rfl) h1 (fun elems spare hd => by
    subst hd
    have := bulk_slice elems spare
    omega)
  obtain ⟨a2, rfl, rfl, rfl, w2⟩ := open_int Try.underlying3 (hval 2 3 v2 rfl rfl) h2
  clear hA0
  refine (put7 l m ad ao n cap no co a2 W hT hO hn1 hn2 hm1 hm2).mono fun e W' ⟨he, hb⟩ => ?_
  subst he
  exact ⟨_, rfl, _, _, _, [], p0 ++ (p1 ++ ([] ++ [])), [], hW', trodAll_cons_mk (shut_bool Try.underlying4 _) trodAll_mk0, trodAll_cons_mk (Below.trod laidOut (by kernel_rfl) (of_decide_eq_true (by kernel_rfl)) h0 hb hlt0) (trodAll_cons_mk (Below.trod laidOut (by kernel_rfl) (of_decide_eq_true (by kernel_rfl)) h1 hb hlt1) (trodAll_cons_mk (shut_int Try.underlying3 w2) trodAll_mk0)), rfl, hb.frame _, fun h => by cases h⟩
set_option maxRecDepth 100000 in
theorem putLifted (os : Os) (started : os.Started) (H : Type) (enc : TypeId × Value → H) (F : Stop.Interp) :
    ReturnsInHanded {} Try.checked os 7 .any ((Rows.OpenSpec.upto Rows.lookPutSpec).pre6 enc Try.prog Try.f7 Rows.lookPutUptoRow.domain false) (((Rows.OpenSpec.upto Rows.lookPutSpec).at F).post enc Try.prog Try.f7 false true false false) := by
  refine returnsInHanded_of_cond (C := Try.checked) (s := Rows.OpenSpec.upto Rows.lookPutSpec) (k := Rows.uptoSmall) rfl ownB started (by kernel_rfl) Try.func7
    (OpenSpec.witness (enc := enc) (C := Try.checked) (s := Rows.OpenSpec.upto Rows.lookPutSpec) (k := Rows.uptoSmall) rfl false ⟨#[], #[.slice none 0 0, .slice none 0 0, .int .i64 0], []⟩ 8 (by kernel_rfl) (by kernel_rfl) (by kernel_rfl)
      (x := ([.nil, .nil, .lit (.int .i64 0)], [], [])) (by kernel_rfl) rfl (by kernel_rfl)) ?_
  intro W base args ds gs before hval hW _ hk _
  exact putContract H enc W base args ds gs before hval hW hk
theorem lookPut_holds : Rows.LookPutUptoSaid :=
  OpenClaim.holds_of_cond 7 Try.f7 rfl rfl rfl rfl rfl rfl rfl ⟨rfl, rfl, rfl, rfl, rfl⟩ rfl rfl rfl rfl rfl (by kernel_rfl) Try.func7 (by kernel_rfl)
    (of_decide_eq_true (by kernel_rfl)) (by unfold Func.isWrapper; first | (rw [if_pos (by decide +kernel)]; kernel_rfl) | (rw [if_neg (by decide +kernel)]; exact ⟨rfl, rfl⟩))
    (fun os started H enc _ F => putLifted os started H enc F)
end Go.Proofs.Ytoicnhcajhgbeaa
