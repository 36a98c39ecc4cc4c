/- PROVED: the law LookBeside of layer 2 answers true for all texts and places, and both texts read afterwards as they read before: at a place just one of an edge of a word and none holds, what begins (ends) a text begins (ends) a line; what holds hangs on nothing but the two runes beside the place, and on whether it is the first or the last.
   CONDITIONS: the second form: the arguments are together of bulk at most 1048576 (a text of nearly 2^47 bytes, appended twice, would be more than append can make). -/
import Derived.Test.YtoicnhcajhgbeaaArgsU
import Derived.Test.YtoicnhcajhgbeaaBs00
import Derived.Test.YtoicnhcajhgbeaaBs01
import Derived.Test.YtoicnhcajhgbeaaBs02
import Derived.Test.YtoicnhcajhgbeaaBs10
import Derived.Test.YtoicnhcajhgbeaaBs11
import Derived.Test.YtoicnhcajhgbeaaBs12
import Derived.Test.YtoicnhcajhgbeaaBs20
import Derived.Test.YtoicnhcajhgbeaaBs21
import Derived.Test.YtoicnhcajhgbeaaBs22
namespace Go.Proofs.Ytoicnhcajhgbeaa
open Go.ChangeShapes Go.WideShapes Go.ChangeAt Go.RowKit Go.Lk
set_option linter.unusedVariables false
set_option linter.unusedSimpArgs false
theorem beside5 (l m : List Int) (ad ao : Option Addr) (n cap no co : Nat) (p : Int) (w0 : World) (hT : TextAt w0.heap.size w0 ad n l) (hO : TextAt w0.heap.size w0 ao no m) (hn2 : ao = none → co = 0)
    (hm1 : n ≤ 1048576) (hm2 : no ≤ 1048576) :
    Calls Try.prog 5 #[.slice ad n cap, .int .i64 p, .slice ao no co] w0 fun e w' => e = .returned (.bool true) ∧ Below w0.heap.size w0 w' := by
  by_cases h : p < 0 ∨ (n : Int) < p
  · exact beside_out l ad ao n cap no co p w0 h
  · obtain ⟨q, rfl⟩ := Int.eq_ofNat_of_zero_le (show 0 ≤ p by omega)
    have h1 : q = 0 ∨ q = 1 ∨ 1 < q := by omega
    have h2 : q = n ∨ q + 1 = n ∨ q + 1 < n := by omega
    rcases h1 with h1 | h1 | h1 <;> rcases h2 with h2 | h2 | h2
    · exact beside_00 l m ad ao n cap no co q w0 hT hO hn2 hm1 hm2 h1 h2
    · exact beside_01 l m ad ao n cap no co q w0 hT hO hn2 hm1 hm2 h1 h2
    · exact beside_02 l m ad ao n cap no co q w0 hT hO hn2 hm1 hm2 h1 h2
    · exact beside_10 l m ad ao n cap no co q w0 hT hO hn2 hm1 hm2 h1 h2
    · exact beside_11 l m ad ao n cap no co q w0 hT hO hn2 hm1 hm2 h1 h2
    · exact beside_12 l m ad ao n cap no co q w0 hT hO hn2 hm1 hm2 h1 h2
    · exact beside_20 l m ad ao n cap no co q w0 hT hO hn2 hm1 hm2 h1 h2
    · exact beside_21 l m ad ao n cap no co q w0 hT hO hn2 hm1 hm2 h1 h2
    · exact beside_22 l m ad ao n cap no co q w0 hT hO hn2 hm1 hm2 h1 h2
theorem besideContract (H : Type) (enc : TypeId × Value → H) (W : World) (base : Nat) (args : Array Value) (ds gs : List (DataW H)) (before : List MemPlace)
    (hval : ∀ (j : Nat) t v, Try.f5.params[j]? = some t → args[j]? = some v → Value.okWide Try.prog W .any base t v)
    (hW : DataW.Whole enc Try.prog Try.f5.params.toList Rows.lookBesideSpec.vars false W args.toList ds gs before) (hk : Rows.uptoSmall H (ds ++ gs) = true) :
    Calls Try.prog 5 args W fun e W' => ∃ v, e = .returned v ∧ Rows.lookBesideSpec.post enc Try.prog Try.f5 false true false false W args v W' := by
  have hW' := hW
  obtain ⟨p, q, hA0, hV, rfl, hfz, hnd⟩ := hW
  have hA : DataW.TrodAll enc Try.prog W 0 (fun _ => true) true Try.f5.params.toList args.toList ds p := hA0
  rw [Try.params5] at hA hval
  obtain ⟨v0, vs0, d0, ds0, p0, q0, hargs, rfl, rfl, h0, r0⟩ := trodAll_cons hA
  obtain ⟨v1, vs1, d1, ds1, p1, q1, rfl, rfl, rfl, h1, r1⟩ := trodAll_cons r0
  obtain ⟨v2, vs2, d2, ds2, p2, q2, rfl, rfl, rfl, h2, r2⟩ := trodAll_cons r1
  obtain ⟨rfl, rfl, rfl⟩ := trodAll_nil r2
  obtain rfl : args = #[v0, v1, v2] := by cases args; simp_all
  obtain ⟨rfl, rfl⟩ := trodVars_none hV
  have hlt0 : ∀ x ∈ p0, x.block < W.heap.size := fun x hx => by have := hW'.lt x (by simp [hx]); simpa using this
  have hlt2 : ∀ x ∈ p2, x.block < W.heap.size := fun x hx => by have := hW'.lt x (by simp [hx]); simpa using this
  have hbk := bulk_bound hk
  simp only [List.cons_append, List.nil_append, Rows.uptoBulkAll] at hbk
  obtain ⟨l, ad, n, cap, rfl, hm1, hT, hn1⟩ := text_argU (hval 0 22 v0 rfl rfl) h0 (fun elems spare hd => by
    subst hd
    have := bulk_slice elems spare
    omega)
  obtain ⟨m, ao, no, co, rfl, hm2, hO, hn2⟩ := text_argU (hval 2 22 v2 rfl rfl) h2 (fun elems spare hd => by
    subst hd
    have := bulk_slice elems spare
    omega)
  obtain ⟨a1, rfl, rfl, rfl, w1⟩ := open_int Try.underlying3 (hval 1 3 v1 rfl rfl) h1
  clear hA0
  refine (beside5 l m ad ao n cap no co a1 W hT hO hn2 hm1 hm2).mono fun e W' ⟨he, hb⟩ => ?_
  subst he
  exact ⟨_, rfl, _, _, _, [], p0 ++ ([] ++ (p2 ++ [])), [], hW', trodAll_cons_mk (shut_bool Try.underlying4 _) trodAll_mk0, trodAll_cons_mk (Below.trod laidOut (by kernel_rfl) (of_decide_eq_true (by kernel_rfl)) h0 hb hlt0) (trodAll_cons_mk (shut_int Try.underlying3 w1) (trodAll_cons_mk (Below.trod laidOut (by kernel_rfl) (of_decide_eq_true (by kernel_rfl)) h2 hb hlt2) trodAll_mk0)), rfl, hb.frame _, fun h => by cases h⟩
set_option maxRecDepth 100000 in
theorem besideLifted (os : Os) (started : os.Started) (H : Type) (enc : TypeId × Value → H) (F : Stop.Interp) :
    ReturnsInHanded {} Try.checked os 5 .any ((Rows.OpenSpec.upto Rows.lookBesideSpec).pre6 enc Try.prog Try.f5 Rows.lookBesideUptoRow.domain false) (((Rows.OpenSpec.upto Rows.lookBesideSpec).at F).post enc Try.prog Try.f5 false true false false) := by
  refine returnsInHanded_of_cond (C := Try.checked) (s := Rows.OpenSpec.upto Rows.lookBesideSpec) (k := Rows.uptoSmall) rfl ownB started (by kernel_rfl) Try.func5
    (OpenSpec.witness (enc := enc) (C := Try.checked) (s := Rows.OpenSpec.upto Rows.lookBesideSpec) (k := Rows.uptoSmall) rfl false ⟨#[], #[.slice none 0 0, .int .i64 0, .slice none 0 0], []⟩ 8 (by kernel_rfl) (by kernel_rfl) (by kernel_rfl)
      (x := ([.nil, .lit (.int .i64 0), .nil], [], [])) (by kernel_rfl) rfl (by kernel_rfl)) ?_
  intro W base args ds gs before hval hW _ hk _
  exact besideContract H enc W base args ds gs before hval hW hk
theorem lookBeside_holds : Rows.LookBesideUptoSaid :=
  OpenClaim.holds_of_cond 5 Try.f5 rfl rfl rfl rfl rfl rfl rfl ⟨rfl, rfl, rfl, rfl, rfl⟩ rfl rfl rfl rfl rfl (by kernel_rfl) Try.func5 (by kernel_rfl)
    (of_decide_eq_true (by kernel_rfl)) (by unfold Func.isWrapper; first | (rw [if_pos (by decide +kernel)]; kernel_rfl) | (rw [if_neg (by decide +kernel)]; exact ⟨rfl, rfl⟩))
    (fun os started H enc _ F => besideLifted os started H enc F)
end Go.Proofs.Ytoicnhcajhgbeaa
