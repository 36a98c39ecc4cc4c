/- PROVED: the law CodeSpoilt of layer 10 answers true for every program, every place, byte and cut, and all bytes behind: a program's bytes with one byte turned, with some cut off, with some behind are no program's; and the arguments read afterwards as they read before.
   CONDITIONS: the form's own (each slice at most 2^47 - 4096 bytes); the variable code.words starts as the program's text lays it (the given card ties that); the card speaks of the pruned copy of the project that the seat holds. -/
import Derived.Test.YteanndophopplaaDoorCards
import Derived.Test.YteanndophopplaaDoorTie
import Derived.Test.YteanndophopplaaDoorLL
namespace Go.Proofs.YteanndophopplaaDoor
open Go.ChangeShapes Go.WideShapes Go.ChangeAt Go.RowKit
set_option linter.unusedVariables false
set_option linter.unusedSimpArgs false
theorem ownG : ownKnob Tryd.prog.godebug = none := by kernel_rfl
theorem spoilt7 {w : World} {ad : Option Addr} {n c : Nat} {l : List In} {s k A C tz : Int} {za : Option Addr} {zn zc : Nat} {zs : List Nat} (hP : PI w w.heap.size ad n l) (hG : Gw w) (h0 : 0 < w.heap.size)
    (hZ : BA w w.heap.size za zs) (hzn : zn = zs.length) (hnil : za = none → zc = 0) (hz : zn ≤ 140737488355328) (hzb : ∀ x ∈ zs, x < 256) (ht : 0 ≤ tz ∧ tz ≤ 255) :
    Calls Tryd.prog 7 #[pv ad n c s k, .int .i64 A, .int .u8 tz, .int .i64 C, .slice za zn zc] w fun e w' => e = .returned (.bool true) ∧ Below w.heap.size w w' := by
  by_cases hok : mayB l s k = true ∧ (fullB l s k).length ≤ 8388608
  · obtain ⟨hm, hl⟩ := hok
    by_cases hA : A < 0
    · exact spoilt7_no hG h0 (fun W hW => (bytes_ok (hP.kept hW hW.size) hm hl).mono fun e w' ⟨h1, v, h2, _⟩ => ⟨h1, v, h2⟩) (.inr (.inr (.inl ⟨rfl, hA⟩)))
    · by_cases hC : C < 0
      · exact spoilt7_no hG h0 (fun W hW => (bytes_ok (hP.kept hW hW.size) hm hl).mono fun e w' ⟨h1, v, h2, _⟩ => ⟨h1, v, h2⟩) (.inr (.inr (.inr ⟨rfl, by omega, hC⟩)))
      · obtain ⟨a, rfl⟩ : ∃ a : Nat, A = (a : Int) := ⟨A.toNat, by omega⟩
        obtain ⟨b, rfl⟩ : ∃ b : Nat, C = (b : Int) := ⟨C.toNat, by omega⟩
        obtain ⟨t, rfl⟩ : ∃ t : Nat, tz = (t : Int) := ⟨tz.toNat, by omega⟩
        exact spoilt7_yes hP hm hl hG h0 hZ hzn hnil hz hzb (by omega)
  · by_cases hm : mayB l s k = true
    · have hl : 8388608 < (fullB l s k).length := by
        rcases Nat.lt_or_ge 8388608 (fullB l s k).length with h | h
        · exact h
        · exact absurd ⟨hm, h⟩ hok
      refine spoilt7_no (code := 3) hG h0 (fun W hW => (bytes22 (c := c) (s := s) (k := k) (hP.kept hW hW.size)).mono ?_) (.inr (.inl rfl))
      rintro e w' ⟨h1, ⟨h2, _⟩ | ⟨_, _, rfl⟩ | ⟨_, h2, _⟩⟩
      · rw [hm] at h2; cases h2
      · exact ⟨h1, _, rfl⟩
      · omega
    · refine spoilt7_no (code := 90) hG h0 (fun W hW => (bytes22 (c := c) (s := s) (k := k) (hP.kept hW hW.size)).mono ?_) (.inl rfl)
      rintro e w' ⟨h1, ⟨_, rfl⟩ | ⟨h2, _⟩ | ⟨h2, _⟩⟩
      · exact ⟨h1, _, rfl⟩
      · exact absurd h2 hm
      · exact absurd h2 hm
set_option maxRecDepth 100000 in
theorem spoiltContract (H : Type) (enc : TypeId × Value → H) (W : World) (base : Nat) (args : Array Value) (ds gs : List (DataW H)) (before : List MemPlace)
    (hval : ∀ (j : Nat) t v, Tryd.f7.params[j]? = some t → args[j]? = some v → Value.okWide Tryd.prog W .any base t v)
    (hW : DataW.Whole enc Tryd.prog Tryd.f7.params.toList Rows.codeSpoiltSpec.vars false W args.toList ds gs before)
    (hsz0 : (DataW.weightsEach Tryd.prog (Tryd.f7.params.toList ++ Rows.codeSpoiltSpec.plain.varTypes Tryd.prog) (ds ++ gs)).all (· ≤ reachBytes) = true)
    (hL : laidMetH Tryd.prog Rows.codeSpoiltRow.laid W) :
    Calls Tryd.prog 7 args W fun e W' => ∃ v, e = .returned v ∧ Rows.codeSpoiltSpec.post enc Tryd.prog Tryd.f7 false true false false W args v W' := by
  have hW' := hW
  obtain ⟨p, q, hA0, hV, rfl, hfz, hnd⟩ := hW
  have hA : DataW.TrodAll enc Tryd.prog W 0 (fun _ => true) true Tryd.f7.params.toList args.toList ds p := hA0
  have hsz : ∀ n ∈ DataW.weightsEach Tryd.prog (Tryd.f7.params.toList ++ Rows.codeSpoiltSpec.plain.varTypes Tryd.prog) (ds ++ gs), n ≤ reachBytes := fun n hn => by simpa using List.all_eq_true.1 hsz0 n hn
  rw [Tryd.params7] at hA hval hsz
  obtain ⟨v0, vs0, d0, ds0, p0, q0, hargs, rfl, rfl, h0, r0⟩ := trodAll_cons hA
  obtain ⟨v1, vs1, d1, ds1, p1, q1, rfl, rfl, rfl, h1, r1⟩ := trodAll_cons r0
  obtain ⟨v2, vs2, d2, ds2, p2, q2, rfl, rfl, rfl, h2, r2⟩ := trodAll_cons r1
  obtain ⟨v3, vs3, d3, ds3, p3, q3, rfl, rfl, rfl, h3, r3⟩ := trodAll_cons r2
  obtain ⟨v4, vs4, d4, ds4, p4, q4, rfl, rfl, rfl, h4, r4⟩ := trodAll_cons r3
  obtain ⟨rfl, rfl, rfl⟩ := trodAll_nil r4
  obtain rfl : args = #[v0, v1, v2, v3, v4] := by cases args; simp_all
  obtain ⟨rfl, rfl⟩ := trodVars_none hV
  have hlt0 : ∀ x ∈ p0, x.block < W.heap.size := fun x hx => by have := hW'.lt x (by simp [hx]); simpa using this
  have hlt4 : ∀ x ∈ p4, x.block < W.heap.size := fun x hx => by have := hW'.lt x (by simp [hx]); simpa using this
  obtain ⟨ad, n, c, s, k, l, rfl, hP⟩ := prog_argW (hval 0 24 v0 rfl rfl) h0 (fun n hn => hsz n (DataW.weights_mem_each (j := 0) (by simp) (by simp) n hn))
  obtain ⟨A, rfl, rfl, rfl, hwA⟩ := open_int Tryd.underlying3 (hval 1 3 v1 rfl rfl) h1
  obtain ⟨T, rfl, rfl, rfl, hwT⟩ := open_int Tryd.underlying5 (hval 2 5 v2 rfl rfl) h2
  obtain ⟨C, rfl, rfl, rfl, hwC⟩ := open_int Tryd.underlying3 (hval 3 3 v3 rfl rfl) h3
  obtain ⟨zs, za, zn, zc, rfl, hzn, _, hzB, hnil, hZ, hzb⟩ := bytes_argW (hval 4 36 v4 rfl rfl) h4 (fun n hn => hsz n (DataW.weights_mem_each (j := 4) (by simp) (by simp) n hn))
  obtain ⟨hG, hpos⟩ := gw_of_laid hL
  refine (spoilt7 hP hG hpos hZ hzn hnil hzB hzb (bounds_u8 hwT)).mono fun e W' ⟨he, hb⟩ => ?_
  subst he
  exact ⟨_, rfl, _, _, _, [], p0 ++ ([] ++ ([] ++ ([] ++ (p4 ++ [])))), [], hW', trodAll_cons_mk (shut_bool Tryd.underlying4 _) trodAll_mk0,
    trodAll_cons_mk (Below.trod laidOut (by kernel_rfl) (of_decide_eq_true (by kernel_rfl)) h0 hb hlt0) (trodAll_cons_mk (shut_int Tryd.underlying3 hwA) (trodAll_cons_mk (shut_int Tryd.underlying5 hwT) (trodAll_cons_mk (shut_int Tryd.underlying3 hwC) (trodAll_cons_mk (Below.trod laidOut (by kernel_rfl) (of_decide_eq_true (by kernel_rfl)) h4 hb hlt4) trodAll_mk0)))), rfl, hb.frame _, fun h => by cases h⟩
abbrev spoiltArgs : Array Value := #[.agg #[.slice none 0 0, .int .i64 0, .int .i64 0], .int .i64 0, .int .u8 0, .int .i64 0, .slice none 0 0]
theorem spoiltLaid (os : Os) : laidMet Tryd.prog Rows.codeSpoiltRow.laid ((fixWorld (World.holding Tryd.prog os ⟨#[], #[], []⟩)).forCall (fun _ _ => 0) ⟨#[], spoiltArgs, []⟩).memory :=
  laidMet_of_run' 8 (by kernel_rfl) (by kernel_rfl)
theorem spoiltReads (os : Os) {H : Type} (enc : TypeId × Value → H) : ∃ places, DataW.whole enc Tryd.prog ((fixWorld (World.holding Tryd.prog os ⟨#[], #[], []⟩)).forCall (fun _ _ => 0) ⟨#[], spoiltArgs, []⟩).memory Tryd.f7.params.toList Rows.codeSpoiltSpec.vars false spoiltArgs.toList 8 = some ([.agg [.nil, .lit (.int .i64 0), .lit (.int .i64 0)], .lit (.int .i64 0), .lit (.int .u8 0), .lit (.int .i64 0), .nil], [], places) :=
  ⟨[], by kernel_rfl⟩
set_option maxRecDepth 100000 in
theorem spoiltLifted (os : Os) (started : os.Started) (H : Type) (enc : TypeId × Value → H) (F : Stop.Interp) :
    ReturnsInHanded {} Tryd.checked os 7 .any ((OpenSpec.ofChange Rows.codeSpoiltSpec).preRow enc Tryd.prog Tryd.f7 Rows.codeSpoiltRow.domain false Rows.codeSpoiltRow.laid) (((OpenSpec.ofChange Rows.codeSpoiltSpec).at F).post enc Tryd.prog Tryd.f7 false true false false) := by
  obtain ⟨places, hx⟩ := spoiltReads os enc
  refine returnsInHanded_of_row (C := Tryd.checked) (s := OpenSpec.ofChange Rows.codeSpoiltSpec) ownG started (by kernel_rfl) Tryd.func7
    (witness_row_at (enc := enc) (C := Tryd.checked) false (fixWorld (World.holding Tryd.prog os ⟨#[], #[], []⟩)) spoiltArgs rfl (by kernel_rfl) (by kernel_rfl) (by kernel_rfl)
      (OpenSpec.preRow_of_cond 8 hx (by kernel_rfl) (fun k hk => by cases hk) (by kernel_rfl) (spoiltLaid os))) ?_
  intro W base args ds gs before hval hW _ _ hsz hL _ _
  exact spoiltContract H enc W base args ds gs before hval hW hsz hL
theorem spoiltSaid : Rows.CodeSpoiltSaid :=
  OpenClaim.holds_of_cond 7 Tryd.f7 rfl rfl rfl rfl rfl rfl rfl ⟨rfl, rfl, rfl, rfl, rfl⟩ rfl rfl rfl rfl rfl (by kernel_rfl) Tryd.func7 (by kernel_rfl)
    (of_decide_eq_true (by kernel_rfl)) (by unfold Func.isWrapper; first | (rw [if_pos (by decide +kernel)]; kernel_rfl) | (rw [if_neg (by decide +kernel)]; exact ⟨rfl, rfl⟩))
    (fun os started H enc _ F => by rw [OpenClaim.pre_eq_preRow]; exact spoiltLifted os started H enc F)
theorem spoiltPlain (f : FuncId) (fn : Func) (hf : Tryd.pinned.checked.prog.funcNamed Tryd.f7.name = some f) (hfn : Tryd.pinned.checked.prog.funcs[f]? = some fn) :
    true = Tryd.pinned.checked.prog.looks [] ∧ ∀ (j : Nat) t, fn.params[j]? = some t → Tryd.pinned.checked.prog.wantsStandIn t = false := by
  obtain rfl : f = 7 := Option.some.inj ((show Tryd.prog.funcNamed Tryd.f7.name = some 7 by kernel_rfl).symm.trans hf) |>.symm
  obtain rfl : fn = Tryd.f7 := (Option.some.inj (Tryd.func7.symm.trans hfn)).symm
  refine ⟨by kernel_rfl, fun j t ht => ?_⟩
  rw [Tryd.params7] at ht
  have hm : t = 24 ∨ t = 3 ∨ t = 5 ∨ t = 36 := by
    rcases j with _ | _ | _ | _ | _ | j
    · exact .inl (by simpa using ht.symm)
    · exact .inr (.inl (by simpa using ht.symm))
    · exact .inr (.inr (.inl (by simpa using ht.symm)))
    · exact .inr (.inl (by simpa using ht.symm))
    · exact .inr (.inr (.inr (by simpa using ht.symm)))
    · simp at ht
  rcases hm with rfl | rfl | rfl | rfl
  · exact (show Tryd.prog.wantsStandIn 24 = false by kernel_rfl)
  · exact (show Tryd.prog.wantsStandIn 3 = false by kernel_rfl)
  · exact (show Tryd.prog.wantsStandIn 5 = false by kernel_rfl)
  · exact (show Tryd.prog.wantsStandIn 36 = false by kernel_rfl)
theorem codeSpoilt_holds : Rows.CodeSpoiltCardSaid :=
  Claim7.holds_tied_plain_at .later [] _ _ _ _ spoiltSaid (fun _ h => by cases h) (by kernel_rfl) (fun _ h => by cases h) codeSpoilt_row_tie rfl ⟨rfl, rfl⟩ (by kernel_rfl) rfl spoiltPlain (by kernel_rfl)
end Go.Proofs.YteanndophopplaaDoor
