/- PROVED: the law CodePrints of layer 10 answers true for every two programs: the text and the bytes of each, or the code that says why there are none, are the document's, also when they are asked again behind another program, and of the same lists with other things in them; what is handed in stays as it was, what comes out is its owner's.
   CONDITIONS: the form's own (each slice at most 2^47 - 4096 bytes); the variables code.words and strconv.uint64pow10 start as the program's text lays them (the given card ties that); the card speaks of the pruned copy of the project that the seat holds. -/
import Derived.Test.YteanndophopplaaDoorMD
import Derived.Test.YteanndophopplaaDoorKK
import Derived.Test.YteanndophopplaaDoorJC
import Derived.Test.YteanndophopplaaDoorSg
import Derived.Test.YteanndophopplaaDoorSa
import Derived.Test.YteanndophopplaaDoorGB
import Derived.Test.YteanndophopplaaDoorNN
import Derived.Test.YteanndophopplaaDoorPP
import Derived.Test.YteanndophopplaaDoorCe
import Derived.Test.YteanndophopplaaDoorCards
import Derived.Test.YteanndophopplaaDoorTie
import Derived.Test.YteanndophopplaaDoorLL
import Derived.Lib.ItoaNum
/- HELPERS: the document's Print of a program that may be. -/
namespace Go.Proofs.YteanndophopplaaDoor
open Go.RowKit Go.Lib
set_option linter.unusedVariables false
set_option linter.unusedSimpArgs false
theorem sumE_takeE {E : Nat → List Nat} {ns : List Nat} {j : Nat} (h : j < ns.length) : sumE E (ns.take (j + 1)) = sumE E (ns.take j) ++ E ns[j] := by
  rw [List.take_succ_eq_append_getElem h]
  simp only [sumE, List.flatMap_append]
  simp
theorem sumE_takeE_le (E : Nat → List Nat) (ns : List Nat) (j : Nat) : (sumE E (ns.take j)).length ≤ (sumE E ns).length := by
  have h : sumE E ns = sumE E (ns.take j) ++ sumE E (ns.drop j) := by
    simp only [sumE]
    rw [← List.flatMap_append, List.take_append_drop]
  rw [h, List.length_append]; omega
theorem res24 (tmps : Array Value) (w : World) (v e : Value) (h2 : tmps.getD 2 undef = v) (h3 : tmps.getD 3 undef = e) : (results Tryd.f24 tmps).run Tryd.prog w = .ok (.tuple #[v, e]) w := by
  have h2' : tmps[2]?.getD undef = v := by simpa using h2
  have h3' : tmps[3]?.getD undef = e := by simpa using h3
  simp [results, Tryd.results24, h2', h3', Result.andThen]
abbrev bA : ByteArray := ⟨#[99, 97, 112, 115, 32]⟩
abbrev bB : ByteArray := ⟨#[32, 115, 116, 97, 114, 116, 32]⟩
abbrev bC : ByteArray := ⟨#[32, 32]⟩
/-- a row of bytes grows by a string -/
theorem step_str {w V V' : World} {base ln : Nat} {y y' : Value} {xs : List Nat} {s : ByteArray} (hbe : Below base w V) (hs : base ≤ V.heap.size) (hr : V.ownsRow base 5 1 y xs.length (U8 xs)) (hm : Moved V V' y y') (hl : (xs ++ bs s).length = ln) (ho : V'.ownsRow base 5 1 y' ln (U8 (xs ++ bs s))) :
    Below base w V' ∧ base ≤ V'.heap.size ∧ V'.ownsRow base 5 1 y' (xs ++ bs s).length (U8 (xs ++ bs s)) :=
  ⟨below_gb hbe hs hr (gb_of_moved0 hm), Nat.le_trans hs (gb_of_moved0 hm).size, by rw [hl]; exact ho⟩
set_option maxRecDepth 100000 in
set_option maxHeartbeats 8000000 in
theorem rprint24_yes {w : World} {ad : Option Addr} {n c : Nat} {l : List In} {s k : Int} (h : PI w w.heap.size ad n l) (hm : mayB l s k = true) : Calls Tryd.prog 24 #[pv ad n c s k] w (PrintAns l s k w) := by
  obtain ⟨h2, h3, h4, h5a, h5, h6⟩ := may_fit hm
  obtain ⟨U, hU⟩ : ∃ U, U = w.alloc (.cells #[.slice ad n c, .int .i64 s, .int .i64 k] 24) := ⟨_, rfl⟩
  have hX : B3 U w.heap.size (.slice ad n c) (.int .i64 s) (.int .i64 k) := by rw [hU]; exact heap_alloc_new w _
  have hb : Below w.heap.size w U := by rw [hU]; exact Joins.below_alloc1 w _
  have hP := h.kept hb hb.size
  have C29 := rcheck9 (c := c) (s := s) (k := k) hP
  rw [hm] at C29
  obtain ⟨ks, rfl⟩ : ∃ ks : Nat, k = (ks : Int) := ⟨k.toNat, by omega⟩
  obtain ⟨ss, rfl⟩ : ∃ ss : Nat, s = (ss : Int) := ⟨s.toNat, by omega⟩
  have hln : n = l.length := h.len
  have hn2 : n ≤ 20000 := by omega
  have hn0 : 0 < n := by omega
  have HL := hid hln
  have HM := hid hm
  have HF := hid h6
  have HX := hid hX
  have HB := hid hb
  have HU := hid hU
  have HP := hid hP
  obtain ⟨c0, c1, c2⟩ := three_cells hX
  clear hX hb hU hm h hln h6 hP
  go_enter Tryd.func24, Tryd.ntmps24
  go_upto_region 1 with fail
  rw [← HU.out]
  go_upto_region 4 with (go_at_call 29; (with_reducible refine C29.mono ?_); rintro e w1 ⟨rfl, hb1⟩; have HB1 := hid (HB.out.trans (Joins.below_le hb1 HB.out.size)); have HX1 := hid ((hb1.block _ (Array.getElem?_eq_some_iff.1 HX.out).1).trans HX.out); have HP1 := hid (HP.out.kept hb1 hb1.size); clear hb1 C29)
  obtain ⟨bx, hbx⟩ : ∃ bx, bx = w.heap.size := ⟨_, rfl⟩
  have HBX := hid hbx
  rw [← hbx] at c0 c1 c2 HX1 ⊢
  have hbl : bx < w1.heap.size := (Array.getElem?_eq_some_iff.1 HX1.out).1
  clear c0 c1 c2 hbx
  obtain ⟨base, hbase⟩ : ∃ base, base = w1.heap.size := ⟨_, rfl⟩
  rw [← hbase] at hbl
  have HBASE := hid hbase
  have BOX : Hid (∀ V, Below base w1 V → B3 V bx (.slice ad n c) (.int .i64 (ss : Int)) (.int .i64 (ks : Int))) := fun V hV => (hV.block bx hbl).trans HX1.out
  have hs0 : base ≤ w1.heap.size := by omega
  have hlk := dec_len ks
  have hls := dec_len ss
  have hro0 : w1.ownsRow base 5 1 (.slice none 0 0) ([] : List Nat).length (U8 []) := ⟨rfl, .inl ⟨rfl, rfl⟩⟩
  have HR0 := hid hro0
  clear hro0 hbase
  go_upto_region 6 with (at_builtin; refine wpList_append_str rfl (.tmp 15) (.const (.string bA)) rfl base _ [] rfl HR0.out bA rfl (by decide) hs0 ?_; intro v1 V1 ln1 hln1 ho1 hm1; obtain ⟨hb1, hs1, hr1⟩ := step_str (Below.refl base w1) hs0 HR0.out hm1 hln1.out ho1; obtain ⟨d0, d1, d2⟩ := three_cells (BOX.out V1 hb1); have HB1' := hid hb1; have HR1 := hid hr1; clear hr1 hm1 hb1 ho1)
  have D40 := dec40 ks HR1.out hs1 (by rw [List.length_append, bs_len]; show 0 + 5 + ks + 1 ≤ _; omega)
  go_upto_region 7 with (go_at_call 40; (with_reducible refine D40.mono ?_); rintro e V2 ⟨v2, rfl, hr2, hg2⟩; have hb2 := below_gb HB1'.out hs1 HR1.out hg2; have hs2 : base ≤ V2.heap.size := Nat.le_trans hs1 hg2.size; obtain ⟨c0, c1, c2⟩ := three_cells (BOX.out V2 hb2); have HB2 := hid hb2; have HR2 := hid hr2; clear hr2 hg2 hb2 D40)
  clear d0 d1 d2
  have hz2 : ([] ++ bs bA ++ dec ks).length + 7 ≤ 1099511627776 := by rw [List.length_append, List.length_append, bs_len]; show 0 + 5 + _ + 7 ≤ _; omega
  go_upto_region 8 with (at_builtin; refine wpList_append_str rfl (.tmp 21) (.const (.string bB)) rfl base _ _ rfl HR2.out bB rfl hz2 hs2 ?_; intro v3 V3 ln3 hln3 ho3 hm3; obtain ⟨hb3, hs3, hr3⟩ := step_str HB2.out hs2 HR2.out hm3 hln3.out ho3; obtain ⟨d0, d1, d2⟩ := three_cells (BOX.out V3 hb3); have HB3 := hid hb3; have HR3 := hid hr3; clear hr3 hm3 hb3 ho3)
  clear c0 c1 c2
  have D40 := dec40 ss HR3.out hs3 (by rw [List.length_append, List.length_append, List.length_append, bs_len, bs_len]; show 0 + 5 + _ + 7 + ss + 1 ≤ _; omega)
  go_upto_region 9 with (go_at_call 40; (with_reducible refine D40.mono ?_); rintro e V4 ⟨v4, rfl, hr4, hg4⟩; have hb4 := below_gb HB3.out hs3 HR3.out hg4; have hs4 : base ≤ V4.heap.size := Nat.le_trans hs3 hg4.size; have HB4 := hid hb4; have HR4 := hid hr4; clear hr4 hg4 hb4 D40)
  clear d0 d1 d2
  have hz4 : ([] ++ bs bA ++ dec ks ++ bs bB ++ dec ss).length ≤ 100000 := by rw [List.length_append, List.length_append, List.length_append, List.length_append, bs_len, bs_len]; show 0 + 5 + _ + 7 + _ ≤ _; omega
  have hz4' : ([] ++ bs bA ++ dec ks ++ bs bB ++ dec ss).length ≤ 1099511627776 := by omega
  go_upto_region 11 with (at_builtin; refine wpList_append_oneR rfl (.tmp 27) (.tmp 28) rfl base _ 10 1 _ rfl (.inl HR4.out) _ rfl rfl hz4' hs4 ?_; intro v5 V5 ho5 hm5; have hb5 := below_gb HB4.out hs4 HR4.out (GB.of_moved hm5.out); have hs5 : base ≤ V5.heap.size := Nat.le_trans hs4 (GB.of_moved hm5.out).size; have HB5 := hid hb5; have HR5 := hid ho5.out; clear ho5 hm5 hb5)
  have HP0 : Hid ([] ++ bs bA ++ dec ks ++ bs bB ++ dec ss ++ [10] = preL l (ss : Int) (ks : Int) 0) := by
    show _ = _
    rw [preL_zero, headL, Int.toNat_natCast, Int.toNat_natCast, show bs bA = [99, 97, 112, 115, 32] from rfl, show bs bB = [32, 115, 116, 97, 114, 116, 32] from rfl]
    simp [E2]
  have HZ0 : Hid ((preL l (ss : Int) (ks : Int) 0).length ≤ 8388608) := by
    show _ ≤ _
    rw [← HP0.out, List.length_append]
    show _ + 1 ≤ _
    omega
  go_loopw [5, 6] (fun y t wq => ∃ (i : Nat), t = .int .i64 (i : Int) ∧ i ≤ n ∧ Hid (Below base w1 wq) ∧ Hid (base ≤ wq.heap.size) ∧ Hid (wq.ownsRow base 5 1 y (preL l (ss : Int) (ks : Int) i).length (U8 (preL l (ss : Int) (ks : Int) i))) ∧ Hid ((preL l (ss : Int) (ks : Int) i).length ≤ 8388608)) (fun _ t _ => n - (intOf t).toNat)
  case atStart => exact ⟨0, rfl, by omega, HB5.out, hs5, by have e := HR5.out; rw [HP0.out] at e; rw [← HP0.out, List.length_append, HP0.out]; exact e, HZ0.out⟩
  case round =>
    clear HB5 HR5 HP0 HZ0 HR4 HR3 HR2 HR1 HR0 HB4 HB3 HB2 HB1'
    obtain ⟨i, rfl, hi, HBw, HSw, HR, HZ⟩ := hrel
    obtain ⟨c0, c1, c2⟩ := three_cells (BOX.out wr HBw.out)
    by_cases hil : i < n
    · have b1 : decide ((i : Int) < (n : Int)) = true := by simp; omega
      have b2 : (i : Int) < (n : Int) := by omega
      have ad1 : IntKind.i64.wrap ((i : Int) + 1) = (i : Int) + 1 := by simp [IntKind.wrap, IntKind.bits, IntKind.signed]; omega
      have hlt2 : i < l.length := by have := HL.out; omega
      obtain ⟨g, o, ND, rfl, hg, hcs⟩ := HP1.out.mem hn0
      rw [← HBASE.out] at hg
      have hIM0 := (hcs i hlt2).2
      have hFit := HF.out _ (List.getElem_mem hlt2)
      have HSN := hid (preL_snoc l (ss : Int) (ks : Int) i hlt2)
      have HPL := hid (preL_le l (ss : Int) (ks : Int) (i + 1))
      obtain ⟨I, hI⟩ : ∃ I, I = l[i] := ⟨_, rfl⟩
      rw [← hI] at hIM0 hFit HSN
      have hI5 := (hcs i hlt2).1
      obtain ⟨⟨op, x, y, a, r1, r2, r3⟩, hMM⟩ : ∃ M, M = ND i := ⟨_, rfl⟩
      rw [← hMM] at hIM0 hI5
      obtain ⟨q, hq, hq1, hq7⟩ : ∃ q : Nat, op = (q : Int) ∧ 1 ≤ q ∧ q ≤ 7 := by
        have e : op = I.op := hIM0.op
        refine ⟨op.toNat, ?_, ?_, ?_⟩ <;> rw [e] <;> cases hFit <;> simp
      subst hq
      have HIM := hid hIM0
      have HI5 := hid hI5
      have HFit := hid hFit
      have HOP : Hid (I.op.toNat = q) := by show _ = _; rw [← hIM0.op]; simp
      clear hI hMM hcs hIM0 hFit hI5
      obtain ⟨xs, hxs⟩ : ∃ xs, xs = preL l (ss : Int) (ks : Int) i := ⟨_, rfl⟩
      rw [← hxs] at HR HZ HSN
      have hzz := HZ.out
      have hbs := HSw.out
      have hz1 : xs.length + 2 ≤ 1099511627776 := by omega
      have HWB := hid (wS_bs q hq1 hq7)
      have hsz : (wS q).size ≤ 6 := by
        have := bs_len (wS q)
        rw [HWB.out] at this
        obtain rfl | rfl | rfl | rfl | rfl | rfl | rfl : q = 1 ∨ q = 2 ∨ q = 3 ∨ q = 4 ∨ q = 5 ∨ q = 6 ∨ q = 7 := by omega
        all_goals (simp [opW] at this; omega)
      clear hxs
      go_upto_region 14 with (at_builtin; refine wpList_append_str rfl (.tmp 37) (.const (.string bC)) rfl base _ _ rfl HR.out bC rfl hz1 hbs ?_; intro v1 V1 ln1 hln1 ho1 hm1; obtain ⟨hb1, hs1, hr1⟩ := step_str HBw.out hbs HR.out hm1 hln1.out ho1; have HB1' := hid hb1; have HR1 := hid hr1; clear hr1 hm1 hb1 ho1)
      clear c0 c1 c2
      obtain ⟨m0, m1, m2, m3, m4⟩ := HI5.out.kept (HB1'.out.block g hg)
      simp only at m0 m1 m2 m3 m4
      obtain ⟨c0, c1, c2⟩ := three_cells (BOX.out V1 HB1'.out)
      have C41 := word41 q V1 hq1 hq7
      go_upto_region 15 with (go_at_call 41; (with_reducible refine C41.mono ?_); rintro e w2 ⟨rfl, h⟩; obtain rfl := h.symm)
      have hz2 : (xs ++ bs bC).length + (wS q).size ≤ 1099511627776 := by rw [List.length_append, bs_len]; show _ + 2 + _ ≤ _; omega
      go_upto_region 16 with (at_builtin; refine wpList_append_str rfl (.tmp 46) (.tmp 47) rfl base _ _ rfl HR1.out (wS q) rfl hz2 hs1 ?_; intro v3 V3 ln3 hln3 ho3 hm3; obtain ⟨hb3, hs3, hr3⟩ := step_str HB1'.out hs1 HR1.out hm3 hln3.out ho3; have HB3 := hid hb3; have HR3 := hid hr3; clear hr3 hm3 hb3 ho3)
      clear m0 m1 m2 m3 m4 c0 c1 c2 C41
      obtain ⟨m0, m1, m2, m3, m4⟩ := HI5.out.kept (HB3.out.block g hg)
      simp only at m0 m1 m2 m3 m4
      obtain ⟨c0, c1, c2⟩ := three_cells (BOX.out V3 HB3.out)
      have C42 := fields42 (HIM.out.kept (w' := V3) (B' := V3.heap.size) (by rw [← HBASE.out]; exact HB3.out) (by rw [← HBASE.out]; exact hs3)) HFit.out
      have hnl := nums_len len2 HFit.out (by have := HL.out; omega) h5
      have HQ := hid (nums_q HFit.out (by have := HL.out; omega) h5)
      obtain ⟨ns, hns⟩ : ∃ ns, ns = I.nums := ⟨_, rfl⟩
      have hsn : preL l (ss : Int) (ks : Int) (i + 1) = (xs ++ bs bC ++ bs (wS q)) ++ sumE E2 I.nums ++ [10] := by
        rw [HSN.out, HWB.out, show bs bC = [32, 32] from rfl]
        simp [lineL, HOP.out]
      rw [← hns] at C42 hnl HQ hsn
      have HSN2 := hid hsn
      have hx3 : (xs ++ bs bC ++ bs (wS q)).length ≤ 8388620 := by rw [List.length_append, List.length_append, bs_len, bs_len]; show _ + 2 + _ ≤ _; omega
      obtain ⟨ys, hys⟩ : ∃ ys, ys = xs ++ bs bC ++ bs (wS q) := ⟨_, rfl⟩
      rw [← hys] at HSN2 hx3 HR3
      clear hns hsn hys
      go_upto_region 18 with (go_at_call 42; (with_reducible refine C42.mono ?_); rintro e w5 ⟨hb5, na, nc, rfl, hn5⟩; have HZW := hid (zw_new HB3.out hs3 HR3.out hb5 hn5 rfl); clear hb5 hn5 C42)
      clear m0 m1 m2 m3 m4 c0 c1 c2
      obtain ⟨nn, hnn⟩ : ∃ nn, nn = ns.length := ⟨_, rfl⟩
      rw [← hnn] at HZW ⊢
      have HNN := hid hnn
      clear hnn
      go_loopw [5, 9] (fun y t wq => ∃ (j : Nat), t = .int .i64 (j : Int) ∧ j ≤ nn ∧ Hid (ZW w1 wq base y (ys ++ sumE E2 (ns.take j)) (.slice na nn nc) ns)) (fun _ t _ => nn - (intOf t).toNat)
      case atStart => exact ⟨0, rfl, by omega, by show ZW _ _ _ _ _ _ _; rw [show sumE E2 (ns.take 0) = [] from rfl, List.append_nil]; exact HZW.out⟩
      case round =>
        clear HZW HB3 HR3 HR1 HBw HR HSw HB1'
        obtain ⟨j, rfl, hj, HZW⟩ := hrel
        have hlj := sumE_takeE_le E2 ns j
        have hyl : (ys ++ sumE E2 (ns.take j)).length ≤ 11150400000 := by rw [List.length_append]; omega
        by_cases hjn : j < nn
        · have e1 : decide ((j : Int) < (nn : Int)) = true := by simp; omega
          have e2 : (j : Int) < (nn : Int) := by omega
          obtain ⟨_, _, _, qm1, qm2⟩ := row_shape HZW.out.nr
          have hjns : j < ns.length := by have := HNN.out; omega
          have ad2 : IntKind.i64.wrap ((j : Int) + 1) = (j : Int) + 1 := by unfold maxLen at qm2; simp [IntKind.wrap, IntKind.bits, IntKind.signed]; omega
          have hyl' : (ys ++ sumE E2 (ns.take j)).length ≤ 1099511627776 := by omega
          have hsz7 := HZW.out.sz
          go_upto_region 21 with (at_builtin; refine wpList_append_oneR rfl (.tmp 61) (.tmp 62) rfl base _ 32 1 _ rfl (.inl HZW.out.row) _ rfl rfl hyl' hsz7 ?_; intro v6 V6 ho6 hm6; have HZ6 := hid (HZW.out.put (GB.of_moved hm6.out) (xs' := (ys ++ sumE E2 (ns.take j)) ++ [32]) (by rw [List.length_append]; exact ho6.out)); clear ho6 hm6)
          obtain ⟨gn, rfl⟩ : ∃ gn, na = some ⟨gn, 0, none⟩ := by
            rcases HZ6.out.nr.2 with ⟨_, h0⟩ | ⟨gn, cap, cur, e, _⟩
            · omega
            · simp only [Value.slice.injEq] at e; exact ⟨gn, e.1⟩
          have kj := by have hr := HZ6.out.nr; rw [HNN.out] at hr; exact I1_at hr j hjns
          obtain ⟨vq, hvq⟩ : ∃ v, v = ns.getD j 0 := ⟨_, rfl⟩
          rw [← hvq] at kj
          have hvn : vq = ns[j] := by rw [hvq]; simp [List.getD_eq_getElem?_getD, List.getElem?_eq_getElem hjns]
          have hvb : vq ≤ 1114111 := by rw [hvn]; exact HQ.out _ (List.getElem_mem hjns)
          have D40 := dec40 vq HZ6.out.row HZ6.out.sz (by rw [List.length_append]; simp; omega)
          have HVN := hid hvn
          clear hvq hvn qm1 qm2
          go_wp2_with (go_at_call 40; (with_reducible refine D40.mono ?_); rintro e w7 ⟨v7, rfl, hr7, hg7⟩; have HZ7 := hid (HZ6.out.put hg7 hr7); clear hr7 hg7 D40)
          exact ⟨⟨j + 1, by push_cast; rfl, by omega, by show ZW _ _ _ _ _ _ _; rw [sumE_takeE hjns, ← List.append_assoc, ← HVN.out, show E2 vq = [32] ++ dec vq from rfl, ← List.append_assoc]; exact HZ7.out⟩, by simp [intOf]; omega⟩
        · have e1 : decide ((j : Int) < (nn : Int)) = false := by simp; omega
          have e2 : ¬ (j : Int) < (nn : Int) := by omega
          obtain rfl : j = nn := by omega
          have hyl' : (ys ++ sumE E2 (ns.take j)).length ≤ 1099511627776 := by omega
          have hsz7 := HZW.out.sz
          go_upto_region 23 with (at_builtin; refine wpList_append_oneR rfl (.tmp 70) (.tmp 71) rfl base _ 10 1 _ rfl (.inl HZW.out.row) _ rfl rfl hyl' hsz7 ?_; intro v6 V6 ho6 hm6; have HZ6 := hid (HZW.out.put (GB.of_moved hm6.out) (xs' := (ys ++ sumE E2 (ns.take j)) ++ [10]) (by rw [List.length_append]; exact ho6.out)); clear ho6 hm6)
          have hfin : (ys ++ sumE E2 (ns.take j)) ++ [10] = preL l (ss : Int) (ks : Int) (i + 1) := by
            rw [HSN2.out, List.take_of_length_le (by rw [HNN.out]; exact Nat.le_refl _)]
          have hz := HZ6.out
          rw [hfin] at hz
          obtain ⟨ya, yc, rfl, _, _⟩ := row_shape hz.row
          have HZF := hid hz
          obtain ⟨xl, hxl⟩ : ∃ xl, xl = (preL l (ss : Int) (ks : Int) (i + 1)).length := ⟨_, rfl⟩
          rw [← hxl]
          have HXL := hid hxl
          have hxb : xl ≤ 11150400001 := by
            rw [hxl, ← hfin, List.length_append]; simp; omega
          clear hz hfin hxl HZW HZ6
          by_cases hbig : 8388608 < xl
          · have b6 : decide ((xl : Int) > 8388608) = true := by simp; omega
            have b7 : (8388608 : Int) < (xl : Int) := by omega
            go_wp2
            refine bodyPost_ret (res24 _ _ (.string ⟨#[]⟩) (.int .i64 3) rfl rfl) rfl ?_
            refine ⟨HB1.out.trans (Joins.below_le (by rw [← HBASE.out]; exact HZF.out.be) HB1.out.size), .inr (.inl ⟨HM.out, ?_, rfl⟩)⟩
            have h1 := HPL.out
            rw [← HXL.out] at h1
            omega
          · have b6 : decide ((xl : Int) > 8388608) = false := by simp; omega
            have b7 : ¬ (8388608 : Int) < (xl : Int) := by omega
            go_wp2
            exact ⟨⟨i + 1, by push_cast; rfl, by omega, HZF.out.be, HZF.out.sz, by rw [HXL.out]; exact HZF.out.row, hid (by rw [← HXL.out]; omega)⟩, by simp [intOf]; omega⟩
    · have b1 : decide ((i : Int) < (n : Int)) = false := by simp; omega
      have b2 : ¬ (i : Int) < (n : Int) := by omega
      obtain rfl : i = n := by omega
      have hcore : preL l (ss : Int) (ks : Int) i = textL l (ss : Int) (ks : Int) := by rw [HL.out, preL_all]
      rw [hcore] at HR HZ
      obtain ⟨ya, yc, rfl, _, _⟩ := row_shape HR.out
      have hcv := conv_row HR.out rfl (text_pos _ _ _)
      have HZ2 := hid HZ.out
      go_wp2
      refine bodyPost_ret (res24 _ _ (.string (txt l (ss : Int) (ks : Int))) (.int .i64 0) rfl rfl) rfl ?_
      exact ⟨HB1.out.trans (Joins.below_le (by rw [← HBASE.out]; exact HBw.out) HB1.out.size), .inr (.inr ⟨HM.out, HZ2.out, rfl⟩)⟩
set_option maxRecDepth 100000 in
set_option maxHeartbeats 8000000 in
theorem rprint24_no {w : World} {ad : Option Addr} {n c : Nat} {l : List In} {s k : Int} (h : PI w w.heap.size ad n l) (hm : mayB l s k = false) : Calls Tryd.prog 24 #[pv ad n c s k] w fun e w' => Below w.heap.size w w' ∧ e = .returned (.tuple #[.string ⟨#[]⟩, .int .i64 90]) := by
  obtain ⟨U, hU⟩ : ∃ U, U = w.alloc (.cells #[.slice ad n c, .int .i64 s, .int .i64 k] 24) := ⟨_, rfl⟩
  have hX : B3 U w.heap.size (.slice ad n c) (.int .i64 s) (.int .i64 k) := by rw [hU]; exact heap_alloc_new w _
  have hb : Below w.heap.size w U := by rw [hU]; exact Joins.below_alloc1 w _
  have C29 := rcheck9 (c := c) (s := s) (k := k) (h.kept hb hb.size)
  rw [hm] at C29
  obtain ⟨c0, c1, c2⟩ := three_cells hX
  have HB := hid hb
  have HU := hid hU
  clear hX hb hU hm h
  go_enter Tryd.func24, Tryd.ntmps24
  go_upto_region 1 with fail
  rw [← HU.out]
  go_wp2_with (go_at_call 29; (with_reducible refine C29.mono ?_); rintro e w2 ⟨rfl, hb2⟩; have HB2 := hid hb2; clear hb2 C29)
  refine bodyPost_ret (res24 _ _ (.string ⟨#[]⟩) (.int .i64 90) rfl rfl) rfl ?_
  exact ⟨HB.out.trans (Joins.below_le HB2.out HB.out.size), rfl⟩
/-- THE DOCUMENT'S Print OF ANY PROGRAM -/
theorem rprint24 {w : World} {ad : Option Addr} {n c : Nat} {l : List In} {s k : Int} (h : PI w w.heap.size ad n l) : Calls Tryd.prog 24 #[pv ad n c s k] w (PrintAns l s k w) := by
  cases hm : mayB l s k with
  | true => exact rprint24_yes h hm
  | false =>
    refine (rprint24_no h hm).mono ?_
    rintro e w' ⟨hb, rfl⟩
    exact ⟨hb, .inl ⟨hm, rfl⟩⟩
end Go.Proofs.YteanndophopplaaDoor
/- HELPERS: says: the program's text and bytes are the document's. -/
namespace Go.Proofs.YteanndophopplaaDoor
open Go.RowKit Go.Lib
set_option linter.unusedVariables false
set_option linter.unusedSimpArgs false
def bz (l : List In) (s k : Int) : List Nat := if mayB l s k = true ∧ (fullB l s k).length ≤ 8388608 then fullB l s k else []
def be (l : List In) (s k : Int) : Nat := if mayB l s k = true then (if (fullB l s k).length ≤ 8388608 then 0 else 3) else 90
def pz (l : List In) (s k : Int) : ByteArray := if mayB l s k = true ∧ (textL l s k).length ≤ 8388608 then txt l s k else ⟨#[]⟩
def pe (l : List In) (s k : Int) : Nat := if mayB l s k = true then (if (textL l s k).length ≤ 8388608 then 0 else 3) else 90
theorem bz_len (l : List In) (s k : Int) : (bz l s k).length ≤ 8388608 := by
  unfold bz
  split
  · rename_i h; exact h.2
  · simp
theorem BytesAns.row {l : List In} {s k : Int} {w w' : World} {e : Ending} (h : BytesAns l s k w e w') : ∃ v, e = .returned (.tuple #[v, .int .i64 ((be l s k : Nat) : Int)]) ∧ w'.ownsRow w.heap.size 5 1 v (bz l s k).length (U8 (bz l s k)) ∧ Below w.heap.size w w' := by
  obtain ⟨hb, ⟨hm, rfl⟩ | ⟨hm, hl, rfl⟩ | ⟨hm, hl, v, rfl, ho⟩⟩ := h
  · refine ⟨.slice none 0 0, by simp [be, hm], ?_, hb⟩
    have e : bz l s k = [] := by simp [bz, hm]
    rw [e]; exact ⟨rfl, .inl ⟨rfl, rfl⟩⟩
  · have h2 : ¬ (fullB l s k).length ≤ 8388608 := by omega
    refine ⟨.slice none 0 0, by simp [be, hm, h2], ?_, hb⟩
    have e : bz l s k = [] := by simp [bz, hm]; omega
    rw [e]; exact ⟨rfl, .inl ⟨rfl, rfl⟩⟩
  · refine ⟨v, by simp [be, hm, hl], ?_, hb⟩
    have e : bz l s k = fullB l s k := by simp [bz, hm]; omega
    rw [e]; exact ho
theorem PrintAns.row {l : List In} {s k : Int} {w w' : World} {e : Ending} (h : PrintAns l s k w e w') : e = .returned (.tuple #[.string (pz l s k), .int .i64 ((pe l s k : Nat) : Int)]) ∧ Below w.heap.size w w' := by
  obtain ⟨hb, ⟨hm, rfl⟩ | ⟨hm, hl, rfl⟩ | ⟨hm, hl, rfl⟩⟩ := h
  · exact ⟨by simp [pe, pz, hm], hb⟩
  · have h2 : ¬ (textL l s k).length ≤ 8388608 := by omega
    exact ⟨by simp [pe, pz, hm, h2], hb⟩
  · exact ⟨by simp [pe, pz, hm, hl], hb⟩
theorem U8_set (ys : List Nat) (k u : Nat) : (U8 ys).set k (.int .u8 (u : Int)) = U8 (ys.set k u) := by simp [U8, List.map_set]
theorem GB.setc {w V : World} {v v' : Value} {g : Nat} (h : GB w V v v') (hg : v'.ownBlock = some g) (i : Nat) (u : Value) : GB w (V.setCell ⟨g, i, none⟩ u) v v' := by
  refine ⟨h.os, h.tape, h.output, by simpa [World.setCell] using h.size, fun k hk hn => ?_, h.own⟩
  refine (Below.heap_setCell _ _ _ _ (fun e => ?_)).trans (h.block k hk hn)
  rcases h.own g hg with e1 | e1
  · exact hn (by rw [e1]; exact congrArg some e.symm)
  · simp only at e; omega
/-- the calls of says, one after another -/
structure SY (B : Nat) (W V : World) : Prop where
  be : Below B W V
  sz : B ≤ V.heap.size
theorem SY.step {B : Nat} {W V V' : World} (h : SY B W V) (hb : Below V.heap.size V V') : SY B W V' := ⟨h.be.trans (Joins.below_le hb h.sz), Nat.le_trans h.sz hb.size⟩
set_option maxRecDepth 100000 in
set_option maxHeartbeats 8000000 in
theorem says11 {w : World} {ad ad' : Option Addr} {n n' c c' : Nat} {l : List In} {s k : Int} (h : PI w w.heap.size ad n l) (h' : PI w w.heap.size ad' n' l) (hG8 : G8 w) (hG : G10 w) (h2 : 2 ≤ w.heap.size) :
    Calls Tryd.prog 11 #[pv ad n c s k, pv ad' n' c' s k] w fun e w' => e = .returned (.bool true) ∧ Below w.heap.size w w' := by
  obtain ⟨U, hU⟩ : ∃ U, U = (w.alloc (.cells #[.slice ad n c, .int .i64 s, .int .i64 k] 24)).alloc (.cells #[.slice ad' n' c', .int .i64 s, .int .i64 k] 24) := ⟨_, rfl⟩
  have hb0 : Below w.heap.size w U := by rw [hU]; exact below_two' w _ _
  have g0 : U.heap[w.heap.size]? = some (.cells #[.slice ad n c, .int .i64 s, .int .i64 k] 24 (0, 0)) := by rw [hU]; exact (heap_alloc_old _ _ (by simp)).trans (heap_alloc_new w _)
  have g1 : U.heap[w.heap.size + 1]? = some (.cells #[.slice ad' n' c', .int .i64 s, .int .i64 k] 24 (0, 0)) := by rw [hU]; exact two_new w _ _ _
  have hs0 : U.heap.size = w.heap.size + 2 := by rw [hU]; simp
  have HU := hid hU
  have hP := h.kept hb0 hb0.size
  have hP' := h'.kept hb0 hb0.size
  have hG8' := hG8.kept hb0 (by omega)
  have hG' := hG.below hb0 h2
  obtain ⟨B, hB⟩ : ∃ B, B = U.heap.size := ⟨_, rfl⟩
  have BX : Hid (∀ V, SY B U V → V.heap[w.heap.size]? = some (.cells #[.slice ad n c, .int .i64 s, .int .i64 k] 24 (0, 0)) ∧ V.heap[w.heap.size + 1]? = some (.cells #[.slice ad' n' c', .int .i64 s, .int .i64 k] 24 (0, 0)) ∧ PI V V.heap.size ad n l ∧ PI V V.heap.size ad' n' l ∧ G8 V ∧ G10 V ∧ 2 ≤ V.heap.size) := by
    intro V hV
    have hbe := hV.be
    have hsz := hV.sz
    rw [hB] at hbe hsz
    exact ⟨(hbe.block _ (by omega)).trans g0, (hbe.block _ (by omega)).trans g1, hP.kept hbe hsz, hP'.kept hbe hsz, hG8'.kept hbe (by omega), hG'.below hbe (by omega), by omega⟩
  have HS0 : Hid (SY B U U) := ⟨Below.refl _ _, by omega⟩
  have HB0 := hid hb0
  have HBE := hid hB
  have HW2 := hid hs0
  clear h h' hG8 hG h2 hb0 hs0 hU hP hP' hG8' hG' hB g0 g1
  have hzl := bz_len l s k
  obtain ⟨zs, hzs⟩ : ∃ zs, bz l s k = zs := ⟨_, rfl⟩
  obtain ⟨ec, hec⟩ : ∃ ec, be l s k = ec := ⟨_, rfl⟩
  obtain ⟨ps, hps⟩ : ∃ ps, pz l s k = ps := ⟨_, rfl⟩
  obtain ⟨pc, hpc⟩ : ∃ pc, pe l s k = pc := ⟨_, rfl⟩
  have CB : Hid (∀ V (hV : SY B U V), Calls Tryd.prog 22 #[pv ad n c s k] V fun e V' => ∃ v, e = .returned (.tuple #[v, .int .i64 (ec : Int)]) ∧ V'.ownsRow V.heap.size 5 1 v zs.length (U8 zs) ∧ Below V.heap.size V V') := fun V hV => (bytes22 (BX.out V hV).2.2.1).mono fun e V' hh => by have := hh.row; rw [hzs, hec] at this; exact this
  have CR : Hid (∀ V (hV : SY B U V), Calls Tryd.prog 25 #[pv ad' n' c' s k] V fun e V' => ∃ v, e = .returned (.tuple #[v, .int .i64 (ec : Int)]) ∧ V'.ownsRow V.heap.size 5 1 v zs.length (U8 zs) ∧ Below V.heap.size V V') := fun V hV => (rbytes25 (BX.out V hV).2.2.2.1).mono fun e V' hh => by have := hh.row; rw [hzs, hec] at this; exact this
  have CP : Hid (∀ V (hV : SY B U V), Calls Tryd.prog 21 #[pv ad n c s k] V fun e V' => e = .returned (.tuple #[.string ps, .int .i64 (pc : Int)]) ∧ Below V.heap.size V V') := fun V hV => (print21g (BX.out V hV).2.2.1 (BX.out V hV).2.2.2.2.1 (BX.out V hV).2.2.2.2.2.1 (BX.out V hV).2.2.2.2.2.2).mono fun e V' hh => by have := hh.row; rw [hps, hpc] at this; exact this
  have CQ : Hid (∀ V (hV : SY B U V), Calls Tryd.prog 24 #[pv ad' n' c' s k] V fun e V' => e = .returned (.tuple #[.string ps, .int .i64 (pc : Int)]) ∧ Below V.heap.size V V') := fun V hV => (rprint24 (BX.out V hV).2.2.2.1).mono fun e V' hh => by have := hh.row; rw [hps, hpc] at this; exact this
  rw [hzs] at hzl
  obtain ⟨zn, hzn⟩ : ∃ zn, zn = zs.length := ⟨_, rfl⟩
  rw [← hzn] at hzl CB CR
  have HZN := hid hzn
  clear hzs hec hps hpc hzn
  go_enter Tryd.func11, Tryd.ntmps11
  go_upto_region 1 with fail
  rw [← HU.out]
  have D24 := CQ.out U HS0.out
  obtain ⟨d0, d1, d2⟩ := three_cells (BX.out U HS0.out).2.1
  go_upto_region 2 with (go_at_call 24; (with_reducible refine D24.mono ?_); rintro e w1 ⟨rfl, hb⟩; have hS1 := HS0.out.step hb; have HS1 := hid hS1; clear hb D24)
  clear d0 d1 d2
  obtain ⟨d0, d1, d2⟩ := three_cells (BX.out w1 HS1.out).2.1
  have D25 := CR.out w1 HS1.out
  go_upto_region 3 with (go_at_call 25; (with_reducible refine D25.mono ?_); rintro e w2 ⟨vb, rfl, hob, hb⟩; have HOB := hid hob; have HK2 := hid hb.size; have HS2 := hid (HS1.out.step hb); clear hb D25 hob)
  clear d0 d1 d2
  obtain ⟨d0, d1, d2⟩ := three_cells (BX.out w2 HS2.out).1
  have D21 := CP.out w2 HS2.out
  go_upto_region 4 with (go_at_call 21; (with_reducible refine D21.mono ?_); rintro e w3 ⟨rfl, hb⟩; have HB3 := hid hb; have HS3 := hid (HS2.out.step hb); clear hb D21)
  clear d0 d1 d2
  obtain ⟨d0, d1, d2⟩ := three_cells (BX.out w3 HS3.out).1
  have D22 := CB.out w3 HS3.out
  go_upto_region 5 with (go_at_call 22; (with_reducible refine D22.mono ?_); rintro e w4 ⟨vc, rfl, hoc, hb⟩; have HOC := hid hoc; have HB4 := hid hb; have HS4 := hid (HS3.out.step hb); clear hb D22 hoc)
  clear d0 d1 d2
  obtain ⟨d0, d1, d2⟩ := three_cells (BX.out w4 HS4.out).1
  have D22 := CB.out w4 HS4.out
  go_upto_region 6 with (go_at_call 22; (with_reducible refine D22.mono ?_); rintro e w5 ⟨vd, rfl, hod, hb⟩; have HOD := hid hod; have HB5 := hid hb; have HS5 := hid (HS4.out.step hb); clear hb D22 hod)
  clear d0 d1 d2
  have b35 : Below w3.heap.size w3 w5 := HB4.out.trans (Joins.below_le HB5.out HB4.out.size)
  have b25 : Below w2.heap.size w2 w5 := HB3.out.trans (Joins.below_le b35 HB3.out.size)
  have rb5 := row_kept HOB.out (fun b hb => b25.block b (HOB.out.lt b hb).2)
  have rc5 := row_kept HOC.out (fun b hb => HB5.out.block b (HOC.out.lt b hb).2)
  obtain ⟨ba, bc, rfl, -, -⟩ := row_shape rb5
  obtain ⟨ca, cc, rfl, -, -⟩ := row_shape rc5
  obtain ⟨da, dc, rfl, -, -⟩ := row_shape HOD.out
  have rb5' : w5.ownsRow w1.heap.size 5 1 (.slice ba zn bc) zs.length (U8 zs) := by rw [← HZN.out]; exact rb5
  have rc5' : w5.ownsRow w3.heap.size 5 1 (.slice ca zn cc) zs.length (U8 zs) := by rw [← HZN.out]; exact rc5
  have rd5' : w5.ownsRow w4.heap.size 5 1 (.slice da zn dc) zs.length (U8 zs) := by rw [← HZN.out]; exact HOD.out
  have NB : Hid (∀ b, (Value.slice ba zn bc).ownBlock = some b → (Value.slice ca zn cc).ownBlock ≠ some b) := fun b h1 h2 => by
    have a1 := (HOB.out.lt b h1).2
    have a2 := (HOC.out.lt b h2).1
    have := HB3.out.size
    omega
  have ND : Hid (∀ b, (Value.slice da zn dc).ownBlock = some b → (Value.slice ca zn cc).ownBlock ≠ some b) := fun b h1 h2 => by
    have a1 := (HOD.out.lt b h1).1
    have a2 := (HOC.out.lt b h2).2
    omega
  have C20 := same20 (n := zn) (n' := zn) (c := cc) (c' := bc) (ba_own rc5') (ba_own rb5') HZN.out HZN.out (by omega) (by omega)
  rw [decide_eq_true (rfl : zs = zs)] at C20
  have HRB := hid rb5'
  have HRC := hid rc5'
  have HRD := hid rd5'
  clear rb5 rc5 rb5' rc5' rd5' b35 b25
  go_upto_region 8 with (go_at_call 20; (with_reducible refine C20.mono ?_); rintro e w6 ⟨rfl, m6, rfl⟩; clear C20)
  have HG0 : Hid (GB w5 (w5.drewN m6) (.slice ca zn cc) (.slice ca zn cc)) := ⟨rfl, rfl, rfl, Nat.le_refl _, fun _ _ _ => rfl, fun k hk => .inl hk⟩
  have HC0 : Hid (∃ ys : List Nat, ys.length = zn ∧ (w5.drewN m6).ownsRow w3.heap.size 5 1 (.slice ca zn cc) ys.length (U8 ys)) := ⟨zs, HZN.out.symm, row_kept HRC.out (fun _ _ => rfl)⟩
  go_loopw [16] (fun y wq => ∃ i : Nat, y = .int .i64 (i : Int) ∧ i ≤ zn ∧ Hid (GB w5 wq (.slice ca zn cc) (.slice ca zn cc)) ∧ Hid (∃ ys : List Nat, ys.length = zn ∧ wq.ownsRow w3.heap.size 5 1 (.slice ca zn cc) ys.length (U8 ys))) (fun y _ => zn - (intOf y).toNat)
  case atStart => exact ⟨0, rfl, by omega, HG0.out, HC0.out⟩
  case round =>
    clear HG0 HC0
    obtain ⟨i, rfl, hi, HGB, HYS⟩ := hrel
    by_cases hil : i < zn
    · have b1 : decide ((i : Int) < (zn : Int)) = true := by simp; omega
      have b2 : (i : Int) < (zn : Int) := by omega
      have ad1 : IntKind.i64.wrap ((i : Int) + 1) = (i : Int) + 1 := by simp [IntKind.wrap, IntKind.bits, IntKind.signed]; omega
      obtain ⟨ys, hy, ho⟩ := HYS.out
      rw [hy] at ho
      obtain ⟨g, cq, e, -, -, -, -⟩ := own_blk ho (by omega)
      simp only [Value.slice.injEq] at e
      obtain ⟨rfl, -, rfl⟩ := e
      have f0 := ho.frozenAt i
      have k0 : wr.cell? ⟨g, i, none⟩ = some (.int .u8 (ys.getD i 0 : Nat)) := by
        rw [ho.cellAt i (by omega)]
        simp [U8, List.getD_eq_getElem?_getD, List.getElem?_map, List.getElem?_eq_getElem (show i < ys.length by omega)]
      have hset := row_setC ho i (.int .u8 201)
      have e201 : (U8 ys).set i (.int .u8 201) = U8 (ys.set i 201) := U8_set ys i 201
      rw [e201] at hset
      have HSET : Hid (∃ ys' : List Nat, ys'.length = zn ∧ (wr.setCell ⟨g, i, none⟩ (.int .u8 201)).ownsRow w3.heap.size 5 1 (.slice (some ⟨g, 0, none⟩) zn cc) ys'.length (U8 ys')) := ⟨ys.set i 201, by simpa using hy, by rw [List.length_set, hy]; exact hset⟩
      clear hset ho e201
      go_wp2
      exact ⟨⟨i + 1, by push_cast; rfl, by omega, HGB.out.setc rfl i _, HSET.out⟩, by simp [intOf]; omega⟩
    · have b1 : decide ((i : Int) < (zn : Int)) = false := by simp; omega
      go_upto_region 12 with fail
      go_loopw [11, 17] (fun v t wq => ∃ j : Nat, t = .int .i64 (j : Int) ∧ j ≤ 9 ∧ Hid (GB w5 wq (.slice ca zn cc) v) ∧ Hid (∃ ys : List Nat, ys.length = zn + j ∧ wq.ownsRow w3.heap.size 5 1 v ys.length (U8 ys))) (fun _ t _ => 9 - (intOf t).toNat)
      case atStart => exact ⟨0, rfl, by omega, HGB.out, HYS.out⟩
      case round =>
        clear HGB HYS
        obtain ⟨j, rfl, hj, HGB, HYS⟩ := hrel
        obtain ⟨ys, hy, ho⟩ := HYS.out
        have hs5 : w3.heap.size ≤ wr.heap.size := by have := HGB.out.size; have := HB5.out.size; have := HB4.out.size; omega
        by_cases hj9 : j < 9
        · have b3 : decide ((j : Int) < 9) = true := by simp; omega
          have b4 : (j : Int) < 9 := by omega
          have ad2 : IntKind.i64.wrap ((j : Int) + 1) = (j : Int) + 1 := by simp [IntKind.wrap, IntKind.bits, IntKind.signed]; omega
          have hyl : ys.length ≤ 1099511627776 := by omega
          have HO := hid ho
          clear ho
          go_wp2_with (at_builtin; refine wpList_append_oneR rfl (.tmp 60) (.tmp 61) rfl w3.heap.size _ 202 1 ys rfl (.inl HO.out) _ rfl rfl hyl hs5 ?_; intro v8 w8 ho8 hm8; have HO8 := hid ho8.out; have HG8 := hid (HGB.out.trans (GB.of_moved hm8.out)); clear ho8 hm8)
          exact ⟨⟨j + 1, by push_cast; rfl, by omega, HG8.out, ys ++ [202], by simp; omega, by rw [List.length_append]; exact HO8.out⟩, by simp [intOf]; omega⟩
        · have b3 : decide ((j : Int) < 9) = false := by simp; omega
          have b4 : ¬ (j : Int) < 9 := by omega
          obtain rfl : j = 9 := by omega
          obtain ⟨va, vc, rfl, -, -⟩ := row_shape ho
          rw [hy]
          have rb8 := row_kept HRB.out (fun b hb => HGB.out.block b (Nat.lt_of_lt_of_le (HRB.out.lt b hb).2 (Nat.le_refl _)) (NB.out b hb))
          have rd8 := row_kept HRD.out (fun b hb => HGB.out.block b (HRD.out.lt b hb).2 (ND.out b hb))
          have C20 := same20 (n := zn) (n' := zn) (c := dc) (c' := bc) (ba_own rd8) (ba_own rb8) HZN.out HZN.out (by omega) (by omega)
          rw [decide_eq_true (rfl : zs = zs)] at C20
          have ad9 : IntKind.i64.wrap ((zn : Int) + 9) = (zn : Int) + 9 := by simp [IntKind.wrap, IntKind.bits, IntKind.signed]; omega
          have e9 : ((zn + 9 : Nat) : Int) = (zn : Int) + 9 := by push_cast; rfl
          clear ho rb8 rd8
          go_wp2_with (go_at_call 20; (with_reducible refine C20.mono ?_); rintro e w9 ⟨rfl, m9, rfl⟩; clear C20)
          all_goals go_ret
          refine ⟨rfl, ?_⟩
          have q0 := HW2.out
          have q1 := HBE.out
          have q3 := HS3.out.sz
          have q5 := HS5.out.sz
          have qb : Below w.heap.size w w5 := HB0.out.trans (Joins.below_le HS5.out.be (by omega))
          have qg := below_gb qb (by omega) (own_wide HRC.out (show w.heap.size ≤ w3.heap.size by omega)) HGB.out
          exact qg.trans (Joins.below_le (below_drewN wr m9) qg.size)
end Go.Proofs.YteanndophopplaaDoor
/- HELPERS: the law's walk: CodePrints. -/
namespace Go.Proofs.YteanndophopplaaDoor
open Go.RowKit Go.Lib
set_option linter.unusedVariables false
set_option linter.unusedSimpArgs false
theorem PL.hi {w w' : World} {base n c : Nat} {ad : Option Addr} {l : List In} {MS : List Iv} (h : PL w base ad n c l MS) (hk : ∀ b, base ≤ b → w'.heap[b]? = w.heap[b]?) : PL w' base ad n c l MS :=
  ⟨h.len, h.lms, row_kept h.row (fun b hb' => hk b (h.row.lt b hb').1), fun j hj => by
    have hO := h.lo j hj
    exact ⟨hO.op, hO.x, hO.y, hO.a, hO.len, hO.sm, row_kept hO.rr (fun b hb' => hk b (hO.rr.lt b hb').1), hO.ne⟩, h.pw⟩
theorem box3 {w : World} {b : Nat} {x y z a1 a2 a3 : Value} {t : TypeId} (h : w.heap[b]? = some (.cells #[x, y, z] t (0, 0))) :
    (((w.setCell ⟨b, 0, none⟩ a1).setCell ⟨b, 1, none⟩ a2).setCell ⟨b, 2, none⟩ a3).heap[b]? = some (.cells #[a1, a2, a3] t (0, 0)) ∧ (∀ q, q ≠ b → (((w.setCell ⟨b, 0, none⟩ a1).setCell ⟨b, 1, none⟩ a2).setCell ⟨b, 2, none⟩ a3).heap[q]? = w.heap[q]?) ∧ (((w.setCell ⟨b, 0, none⟩ a1).setCell ⟨b, 1, none⟩ a2).setCell ⟨b, 2, none⟩ a3).heap.size = w.heap.size ∧
    Below b w (((w.setCell ⟨b, 0, none⟩ a1).setCell ⟨b, 1, none⟩ a2).setCell ⟨b, 2, none⟩ a3) := by
  have hk : ∀ q, q ≠ b → (((w.setCell ⟨b, 0, none⟩ a1).setCell ⟨b, 1, none⟩ a2).setCell ⟨b, 2, none⟩ a3).heap[q]? = w.heap[q]? := fun q hq => (Below.heap_setCell _ _ _ _ hq).trans ((Below.heap_setCell _ _ _ _ hq).trans (Below.heap_setCell _ _ _ _ hq))
  have hs : (((w.setCell ⟨b, 0, none⟩ a1).setCell ⟨b, 1, none⟩ a2).setCell ⟨b, 2, none⟩ a3).heap.size = w.heap.size := by simp [World.setCell]
  exact ⟨Joins.block_setCell (i := 2) (Joins.block_setCell (i := 1) (Joins.block_setCell (i := 0) h _) _) _, hk, hs, rfl, rfl, rfl, by omega, fun q hq => hk q (by omega)⟩
set_option maxRecDepth 100000 in
set_option maxHeartbeats 8000000 in
theorem prints3 {w : World} {ad ad' : Option Addr} {n n' c c' : Nat} {l l' : List In} {s k s' k' : Int} (h : PI w w.heap.size ad n l) (h' : PI w w.heap.size ad' n' l') (hn : n * 56 ≤ 140737488351232) (hn' : n' * 56 ≤ 140737488351232) (hG8 : G8 w) (hG : G10 w) (h2 : 2 ≤ w.heap.size) :
    Calls Tryd.prog 3 #[pv ad n c s k, pv ad' n' c' s' k'] w fun e w' => e = .returned (.bool true) ∧ Below w.heap.size w w' := by
  obtain ⟨U, hU⟩ : ∃ U, U = (w.alloc (.cells #[.slice ad n c, .int .i64 s, .int .i64 k] 24)).alloc (.cells #[.slice ad' n' c', .int .i64 s', .int .i64 k'] 24) := ⟨_, rfl⟩
  have hb0 : Below w.heap.size w U := by rw [hU]; exact below_two' w _ _
  have g0 : U.heap[w.heap.size]? = some (.cells #[.slice ad n c, .int .i64 s, .int .i64 k] 24 (0, 0)) := by rw [hU]; exact (heap_alloc_old _ _ (by simp)).trans (heap_alloc_new w _)
  have g1 : U.heap[w.heap.size + 1]? = some (.cells #[.slice ad' n' c', .int .i64 s', .int .i64 k'] 24 (0, 0)) := by rw [hU]; exact two_new w _ _ _
  have hs0 : U.heap.size = w.heap.size + 2 := by rw [hU]; simp
  have HU := hid hU
  have hP := h.kept hb0 hb0.size
  have hP' := h'.kept hb0 hb0.size
  have hG8' := hG8.kept hb0 (by omega)
  have hG' := hG.below hb0 h2
  obtain ⟨B, hB⟩ : ∃ B, B = U.heap.size := ⟨_, rfl⟩
  have BX : Hid (∀ V, SY B U V → V.heap[w.heap.size]? = some (.cells #[.slice ad n c, .int .i64 s, .int .i64 k] 24 (0, 0)) ∧ V.heap[w.heap.size + 1]? = some (.cells #[.slice ad' n' c', .int .i64 s', .int .i64 k'] 24 (0, 0)) ∧ PI V V.heap.size ad n l ∧ PI V V.heap.size ad' n' l' ∧ G8 V ∧ G10 V ∧ 2 ≤ V.heap.size) := by
    intro V hV
    have hbe := hV.be
    have hsz := hV.sz
    rw [hB] at hbe hsz
    exact ⟨(hbe.block _ (by omega)).trans g0, (hbe.block _ (by omega)).trans g1, hP.kept hbe hsz, hP'.kept hbe hsz, hG8'.kept hbe (by omega), hG'.below hbe (by omega), by omega⟩
  have HS0 : Hid (SY B U U) := ⟨Below.refl _ _, by omega⟩
  have HB0 := hid hb0
  have HBE := hid hB
  have HW2 := hid hs0
  have HN := hid hn
  have HN' := hid hn'
  have hlw : B = w.heap.size + 2 := by omega
  clear h h' hG8 hG h2 hb0 hs0 hU hP hP' hG8' hG' hB g0 g1 hn hn'
  have FIN : Hid (∀ V, SY B U V → Below w.heap.size w V) := fun V hV => HB0.out.trans (Joins.below_le hV.be (by omega))
  go_enter Tryd.func3, Tryd.ntmps3
  go_upto_region 1 with fail
  rw [← HU.out]
  have D8 := awake8 (BX.out U HS0.out).2.2.2.2.1.gw (by have := (BX.out U HS0.out).2.2.2.2.2.2; omega)
  go_upto_region 2 with (go_at_call 8; (with_reducible refine D8.mono ?_); rintro e w1 ⟨rfl, hb⟩; have HS1 := hid (HS0.out.step hb); clear hb D8)
  obtain ⟨d0, d1, d2⟩ := three_cells (BX.out w1 HS1.out).1
  have D9 := great9 (c := c) (s := s) (k := k) (BX.out w1 HS1.out).2.2.1 HN.out
  go_upto_region 3 with (go_at_call 9; (with_reducible refine D9.mono ?_); rintro e w2 ⟨rfl, hb⟩; have HS2 := hid (HS1.out.step hb); clear hb D9)
  clear d0 d1 d2
  obtain ⟨d0, d1, d2⟩ := three_cells (BX.out w2 HS2.out).2.1
  have D9 := great9 (c := c') (s := s') (k := k') (BX.out w2 HS2.out).2.2.2.1 HN'.out
  go_upto_region 4 with (go_at_call 9; (with_reducible refine D9.mono ?_); rintro e w3 ⟨rfl, hb⟩; have HS3 := hid (HS2.out.step hb); clear hb D9)
  clear d0 d1 d2
  cases hg1 : greatB l with
  | true =>
    go_wp2
    all_goals go_ret
    all_goals exact ⟨rfl, FIN.out _ HS3.out⟩
  | false =>
    cases hg2 : greatB l' with
    | true =>
      go_wp2
      all_goals go_ret
      all_goals exact ⟨rfl, FIN.out _ HS3.out⟩
    | false =>
      obtain ⟨d0, d1, d2⟩ := three_cells (BX.out w3 HS3.out).1
      have D10 := lent10 (c := c) (s := s) (k := k) (BX.out w3 HS3.out).2.2.1 HN.out
      go_upto_region 7 with (go_at_call 10; (with_reducible refine D10.mono ?_); rintro e w4 ⟨ad1, c1, MS, rfl, hpl, hb⟩; have HPL := hid hpl; have HB4 := hid hb; have HS4 := hid (HS3.out.step hb); clear hb D10 hpl)
      clear d0 d1 d2
      obtain ⟨V5, hV5⟩ : ∃ V5, V5 = w4.alloc (.cells #[.slice ad1 n c1, .int .i64 s, .int .i64 k] 24) := ⟨_, rfl⟩
      rw [← hV5]
      have hb5 : Below w4.heap.size w4 V5 := by rw [hV5]; exact Joins.below_alloc1 w4 _
      have gi : V5.heap[w4.heap.size]? = some (.cells #[.slice ad1 n c1, .int .i64 s, .int .i64 k] 24 (0, 0)) := by rw [hV5]; exact heap_alloc_new w4 _
      have HS5 := hid (HS4.out.step hb5)
      have hp5 := HPL.out.below hb5
      obtain ⟨bi, hbi⟩ : ∃ bi, bi = w4.heap.size := ⟨_, rfl⟩
      rw [← hbi] at gi ⊢
      obtain ⟨b0, hb0⟩ : ∃ b0, b0 = w3.heap.size := ⟨_, rfl⟩
      rw [← hb0] at hp5
      have hbl : bi < V5.heap.size := (Array.getElem?_eq_some_iff.1 gi).1
      have hb05 : b0 ≤ V5.heap.size := by rw [hb0]; have := HB4.out.size; have := hb5.size; omega
      have hB0 : B ≤ b0 := by rw [hb0]; exact HS3.out.sz
      have IN : Hid (∀ V, SY V5.heap.size V5 V → SY B U V ∧ V.heap[bi]? = some (.cells #[.slice ad1 n c1, .int .i64 s, .int .i64 k] 24 (0, 0)) ∧ PL V b0 ad1 n c1 l MS ∧ PI V V.heap.size ad1 n l ∧ b0 ≤ V.heap.size) := by
        intro V hV
        have hp := hp5.below hV.be
        exact ⟨HS5.out.step hV.be, (hV.be.block bi hbl).trans gi, hp, hp.pi, by have := hV.sz; omega⟩
      have HT5 : Hid (SY V5.heap.size V5 V5) := ⟨Below.refl _ _, Nat.le_refl _⟩
      clear hV5 hb5 gi hp5 hbi hb0 HB4 HPL
      have q5 := IN.out V5 HT5.out
      obtain ⟨d0, d1, d2⟩ := three_cells q5.2.1
      obtain ⟨e0, e1, e2⟩ := three_cells (BX.out V5 HS5.out).1
      have D11 := says11 (c := c1) (c' := c) (s := s) (k := k) q5.2.2.2.1 (BX.out V5 HS5.out).2.2.1 (BX.out V5 HS5.out).2.2.2.2.1 (BX.out V5 HS5.out).2.2.2.2.2.1 (BX.out V5 HS5.out).2.2.2.2.2.2
      go_upto_region 8 with (go_at_call 11; (with_reducible refine D11.mono ?_); rintro e w6 ⟨rfl, hb⟩; have HT6 := hid (HT5.out.step hb); clear hb D11)
      clear d0 d1 d2 e0 e1 e2 q5
      have q6 := IN.out w6 HT6.out
      obtain ⟨d0, d1, d2⟩ := three_cells (BX.out w6 q6.1).2.1
      have D11 := says11 (c := c') (c' := c') (s := s') (k := k') (BX.out w6 q6.1).2.2.2.1 (BX.out w6 q6.1).2.2.2.1 (BX.out w6 q6.1).2.2.2.2.1 (BX.out w6 q6.1).2.2.2.2.2.1 (BX.out w6 q6.1).2.2.2.2.2.2
      go_upto_region 9 with (go_at_call 11; (with_reducible refine D11.mono ?_); rintro e w7 ⟨rfl, hb⟩; have HT7 := hid (HT6.out.step hb); clear hb D11)
      clear d0 d1 d2 q6
      have q7 := IN.out w7 HT7.out
      obtain ⟨d0, d1, d2⟩ := three_cells q7.2.1
      obtain ⟨e0, e1, e2⟩ := three_cells (BX.out w7 q7.1).1
      have D11 := says11 (c := c1) (c' := c) (s := s) (k := k) q7.2.2.2.1 (BX.out w7 q7.1).2.2.1 (BX.out w7 q7.1).2.2.2.2.1 (BX.out w7 q7.1).2.2.2.2.2.1 (BX.out w7 q7.1).2.2.2.2.2.2
      go_upto_region 10 with (go_at_call 11; (with_reducible refine D11.mono ?_); rintro e w8 ⟨rfl, hb⟩; have HT8 := hid (HT7.out.step hb); clear hb D11)
      clear d0 d1 d2 e0 e1 e2 q7
      have q8 := IN.out w8 HT8.out
      obtain ⟨d0, d1, d2⟩ := three_cells q8.2.1
      obtain ⟨e0, e1, e2⟩ := three_cells (BX.out w8 q8.1).1
      have D12 := same11 (c := c1) (c' := c) (s := s) (k := k) q8.2.2.2.1 (BX.out w8 q8.1).2.2.1 (by have := HN.out; omega)
      go_upto_region 11 with (go_at_call 12; (with_reducible refine D12.mono ?_); rintro e w9 ⟨rfl, hb⟩; have HT9 := hid (HT8.out.step hb); clear hb D12)
      clear d0 d1 d2 e0 e1 e2 q8
      have q9 := IN.out w9 HT9.out
      obtain ⟨d0, d1, d2⟩ := three_cells q9.2.1
      have D13 := kept13 (s := s) (k := k) q9.2.2.1 HN.out
      go_upto_region 12 with (go_at_call 13; (with_reducible refine D13.mono ?_); rintro e w10 ⟨rfl, hb⟩; have HT10 := hid (HT9.out.step hb); clear hb D13)
      clear d0 d1 d2 q9
      have q10 := IN.out w10 HT10.out
      obtain ⟨d0, d1, d2⟩ := three_cells q10.2.1
      have D14 := turned14 (s := s) (k := k) q10.2.2.1 HN.out q10.2.2.2.2
      have HK10 := hid q10.1
      have HI10 := hid q10.2.1
      clear q10
      go_upto_region 15 with (go_at_call 14; (with_reducible refine D14.mono ?_); rintro e w11 ⟨rfl, ⟨l2, hpi⟩, hb, hsz, h24⟩; have HPI := hid hpi; have HS11 : Hid (SY B U w11) := ⟨HK10.out.be.trans (Joins.below_le hb hB0), Nat.le_trans HK10.out.sz hsz⟩; have HI11 := hid (h24 _ _ _ HI10.out); clear hpi hb hsz h24 D14)
      clear d0 d1 d2 HK10 HI10
      go_upto_region 16 with fail
      obtain ⟨V12, hV12⟩ : ∃ V12, V12 = w11.alloc (.cells #[.slice none 0 0, .int .i64 0, .int .i64 0] 24) := ⟨_, rfl⟩
      rw [← hV12]
      have hb12 : Below w11.heap.size w11 V12 := by rw [hV12]; exact Joins.below_alloc1 w11 _
      have gq : V12.heap[w11.heap.size]? = some (.cells #[.slice none 0 0, .int .i64 0, .int .i64 0] 24 (0, 0)) := by rw [hV12]; exact heap_alloc_new w11 _
      have hqs : V12.heap.size = w11.heap.size + 1 := by rw [hV12]; simp
      have hil : bi < w11.heap.size := (Array.getElem?_eq_some_iff.1 HI11.out).1
      have hin12 := (hb12.block bi hil).trans HI11.out
      obtain ⟨d0, d1, d2⟩ := three_cells hin12
      have HB12 := hid hb12
      have HGQ := hid gq
      have HPI12 := hid (HPI.out.kept hb12 hb12.size)
      have HIN12 := hid hin12
      have D10 := lent10 (c := c1) (s := s) (k := k) HPI12.out HN.out
      obtain ⟨bq, hbq⟩ : ∃ bq, bq = w11.heap.size := ⟨_, rfl⟩
      have HBQ := hid hbq
      rw [← hbq] at HGQ hqs hil ⊢
      clear hV12 hb12 gq hin12 hbq
      go_upto_region 17 with (go_at_call 10; (with_reducible refine D10.mono ?_); rintro e w13 ⟨ad2, c2, MS2, rfl, hpl, hb⟩; have hgq := (hb.block bq (by omega)).trans HGQ.out; have fq0 := Joins.unfrozen_of_block hgq 0; have fq1 := Joins.unfrozen_of_block hgq 1; have fq2 := Joins.unfrozen_of_block hgq 2; obtain ⟨x0, x1, x2⟩ := three_cells hgq; have HQ13 := hid hgq; have HPL13 := hid hpl; have HB13 := hid hb; clear hb D10 hpl hgq)
      obtain ⟨E, hE⟩ : ∃ E, E = ((w13.setCell ⟨bq, 0, none⟩ (.slice ad2 n c2)).setCell ⟨bq, 1, none⟩ (.int .i64 s)).setCell ⟨bq, 2, none⟩ (.int .i64 k) := ⟨_, rfl⟩
      rw [← hE]
      obtain ⟨r1, r2, r3, r4⟩ := box3 (a1 := .slice ad2 n c2) (a2 := .int .i64 s) (a3 := .int .i64 k) HQ13.out
      rw [← hE] at r1 r2 r3 r4
      clear hE fq0 fq1 fq2 x0 x1 x2 d0 d1 d2
      have hbE : Below w11.heap.size w11 E := by
        have h1 := HB12.out.trans (Joins.below_le HB13.out HB12.out.size)
        have h2 := HBQ.out
        rw [h2] at r4
        exact h1.trans r4
      have hSE : SY B U E := HS11.out.step hbE
      have hpE : PL E V12.heap.size ad2 n c2 l2 MS2 := HPL13.out.hi (fun b hb => r2 b (by omega))
      have hiE : E.heap[bi]? = some (.cells #[.slice ad1 n c1, .int .i64 s, .int .i64 k] 24 (0, 0)) := (hbE.block bi (by have := HBQ.out; omega)).trans HI11.out
      have hpi := HPI.out.kept hbE hbE.size
      obtain ⟨d0, d1, d2⟩ := three_cells hiE
      obtain ⟨e0, e1, e2⟩ := three_cells r1
      have D11 := says11 (c := c1) (c' := c2) (s := s) (k := k) hpi hpE.pi (BX.out E hSE).2.2.2.2.1 (BX.out E hSE).2.2.2.2.2.1 (BX.out E hSE).2.2.2.2.2.2
      have HSE := hid hSE
      clear hbE hSE hpE hiE hpi r1 r2 r3 r4
      go_wp2_with (go_at_call 11; (with_reducible refine D11.mono ?_); rintro e w14 ⟨rfl, hb⟩; have HB14 := hid hb; clear hb D11)
      all_goals go_ret
      all_goals exact ⟨rfl, FIN.out _ (HSE.out.step HB14.out)⟩
end Go.Proofs.YteanndophopplaaDoor
namespace Go.Proofs.YteanndophopplaaDoor
open Go.ChangeShapes Go.WideShapes Go.ChangeAt Go.RowKit
set_option linter.unusedVariables false
set_option linter.unusedSimpArgs false
theorem ownG : ownKnob Tryd.prog.godebug = none := by kernel_rfl
theorem bytesA49 : Tryd.prog.bytesOf 49 = 56 := by kernel_rfl
theorem prog_len {H : Type} {enc : TypeId × Value → H} {W : World} {d : DataW H} {p : List MemPlace} {ad : Option Addr} {n c : Nat} {s k : Int} (h0 : DataW.Trod enc Tryd.prog W 0 (fun _ => true) true 24 (pv ad n c s k) d p) (hsz : ∀ n ∈ d.weights Tryd.prog 24, n ≤ reachBytes) : n * 56 ≤ 140737488351232 := by
  obtain ⟨fuel, hf⟩ := h0
  obtain ⟨xs, m, hfu, hd, hl, hxl, hfs⟩ := DataW.trod_struct Tryd.underlying24 hf
  simp only [List.size_toArray, List.length_cons, List.length_nil] at hxl
  match xs, hxl with
  | [y0, y1, y2], _ =>
  have g0 := hfs 0 _ rfl
  simp [cellsA22] at g0
  have hd1 : d = .agg ([y0, y1, y2].map (·.1)) := congrArg Prod.fst hd
  have hw0 : ∀ n ∈ y0.1.weights Tryd.prog 22, n ≤ reachBytes := fun n hn => hsz n (by
    rw [hd1]
    simp only [DataW.weights, Tryd.underlying24]
    exact DataW.weights_mem_each (j := 0) (by simp) (by simp) n hn)
  rcases DataW.trod_slice Tryd.underlying22 g0 with ⟨e, _⟩ | ⟨a, len, cap, elems, rest, n', hn', e, hx0, hb, hlc, hcm, hel, hx, _, _⟩
  · simp [Value.cells] at e
    omega
  · have hs := hw0 _ (by rw [hx0]; simp only [DataW.weights, Tryd.underlying22]; exact List.mem_cons_self)
    rw [bytesA49, reach_eq] at hs
    simp [Value.cells] at e
    simp at hs
    omega
theorem gs_of_laid {W : World} (h : laidMetH Tryd.prog Rows.codePrintsRow.laid W) : G8 W ∧ G10 W ∧ 2 ≤ W.heap.size := by
  have h' : laidMet Tryd.prog Rows.codePrintsRow.laid W := h
  obtain ⟨ps, ⟨g1, t1, cs1, fuel1, p1, q1, hg1, ht1, hvar1, hd1, hrest1, _⟩, _⟩ := h'
  obtain ⟨g2, t2, cs2, fuel2, p2, q2, hg2, ht2, hvar2, hd2, hrest2, _⟩ := hrest1
  obtain ⟨g3, t3, cs3, fuel3, p3, q3, hg3, ht3, hvar3, hd3, hrest3, _⟩ := hrest2
  obtain ⟨g4, t4, cs4, fuel4, p4, q4, hg4, ht4, hvar4, hd4, _, _⟩ := hrest3
  obtain rfl : g4 = 0 := Option.some.inj (hg4.symm.trans (by kernel_rfl))
  obtain rfl : t4 = 92 := Option.some.inj (ht4.symm.trans (by kernel_rfl))
  obtain rfl : g3 = 1 := Option.some.inj (hg3.symm.trans (by kernel_rfl))
  obtain rfl : t3 = 122 := Option.some.inj (ht3.symm.trans (by kernel_rfl))
  have hc : G8 W := fun i hi => by
    rw [World.var?_cell hg4 hvar4 i, ← Array.getElem?_toList, words_all hd4 i hi]
  have hcs := Lib.cells_of_tab (k := .u64) (zs := Lib.pow10Tab) (n := 20) (e := 114) Tryd.underlying122 Tryd.underlying114 (by kernel_rfl) (by kernel_rfl) hd3
  have hd : G10 W := fun i hi => by
    rw [World.var?_cell hg3 hvar3 i, ← Array.getElem?_toList, hcs]
    have h20 : i < Lib.pow10Tab.length := by rw [Lib.pow10Tab_length]; exact hi
    have h2 := Lib.pow10Tab_at i hi
    simp only [List.getD_eq_getElem?_getD, List.getElem?_eq_getElem h20, Option.getD_some] at h2
    rw [List.getElem?_map, List.getElem?_eq_getElem h20, Option.map_some, h2]
  exact ⟨hc, hd, by have := lt_of_cellA (hd 0 (by omega)); exact this⟩
set_option maxRecDepth 100000 in
theorem printsContract (H : Type) (enc : TypeId × Value → H) (W : World) (base : Nat) (args : Array Value) (ds gs : List (DataW H)) (before : List MemPlace)
    (hval : ∀ (j : Nat) t v, Tryd.f3.params[j]? = some t → args[j]? = some v → Value.okWide Tryd.prog W .any base t v)
    (hW : DataW.Whole enc Tryd.prog Tryd.f3.params.toList Rows.codePrintsSpec.vars false W args.toList ds gs before)
    (hsz0 : (DataW.weightsEach Tryd.prog (Tryd.f3.params.toList ++ Rows.codePrintsSpec.plain.varTypes Tryd.prog) (ds ++ gs)).all (· ≤ reachBytes) = true)
    (hL : laidMetH Tryd.prog Rows.codePrintsRow.laid W) :
    Calls Tryd.prog 3 args W fun e W' => ∃ v, e = .returned v ∧ Rows.codePrintsSpec.post enc Tryd.prog Tryd.f3 false true false false W args v W' := by
  have hW' := hW
  obtain ⟨p, q, hA0, hV, rfl, hfz, hnd⟩ := hW
  have hA : DataW.TrodAll enc Tryd.prog W 0 (fun _ => true) true Tryd.f3.params.toList args.toList ds p := hA0
  have hsz : ∀ n ∈ DataW.weightsEach Tryd.prog (Tryd.f3.params.toList ++ Rows.codePrintsSpec.plain.varTypes Tryd.prog) (ds ++ gs), n ≤ reachBytes := fun n hn => by simpa using List.all_eq_true.1 hsz0 n hn
  rw [Tryd.params3] at hA hval hsz
  obtain ⟨v0, vs0, d0, ds0, p0, q0, hargs, rfl, rfl, h0, r0⟩ := trodAll_cons hA
  obtain ⟨v1, vs1, d1, ds1, p1, q1, rfl, rfl, rfl, h1, r1⟩ := trodAll_cons r0
  obtain ⟨rfl, rfl, rfl⟩ := trodAll_nil r1
  obtain rfl : args = #[v0, v1] := by cases args; simp_all
  obtain ⟨rfl, rfl⟩ := trodVars_none hV
  have hlt0 : ∀ x ∈ p0, x.block < W.heap.size := fun x hx => by have := hW'.lt x (by simp [hx]); simpa using this
  have hlt1 : ∀ x ∈ p1, x.block < W.heap.size := fun x hx => by have := hW'.lt x (by simp [hx]); simpa using this
  obtain ⟨ad, n, c, s, k, l, rfl, hP⟩ := prog_argW (hval 0 24 v0 rfl rfl) h0 (fun n hn => hsz n (DataW.weights_mem_each (j := 0) (by simp) (by simp) n hn))
  obtain ⟨ad', n', c', s', k', l', rfl, hP'⟩ := prog_argW (hval 1 24 v1 rfl rfl) h1 (fun n hn => hsz n (DataW.weights_mem_each (j := 1) (by simp) (by simp) n hn))
  obtain ⟨hG8, hG, h2⟩ := gs_of_laid hL
  have hn := prog_len h0 (fun n hn => hsz n (DataW.weights_mem_each (j := 0) (by simp) (by simp) n hn))
  have hn' := prog_len h1 (fun n hn => hsz n (DataW.weights_mem_each (j := 1) (by simp) (by simp) n hn))
  refine (prints3 hP hP' hn hn' hG8 hG h2).mono fun e W' ⟨he, hb⟩ => ?_
  subst he
  exact ⟨_, rfl, _, _, _, [], p0 ++ (p1 ++ []), [], hW', trodAll_cons_mk (shut_bool Tryd.underlying4 _) trodAll_mk0,
    trodAll_cons_mk (Below.trod laidOut (by kernel_rfl) (of_decide_eq_true (by kernel_rfl)) h0 hb hlt0) (trodAll_cons_mk (Below.trod laidOut (by kernel_rfl) (of_decide_eq_true (by kernel_rfl)) h1 hb hlt1) trodAll_mk0), rfl, hb.frame _, fun h => by cases h⟩
abbrev printsArgs : Array Value := #[.agg #[.slice none 0 0, .int .i64 0, .int .i64 0], .agg #[.slice none 0 0, .int .i64 0, .int .i64 0]]
theorem printsLaid (os : Os) : laidMet Tryd.prog Rows.codePrintsRow.laid ((fixWorld (World.holding Tryd.prog os ⟨#[], #[], []⟩)).forCall (fun _ _ => 0) ⟨#[], printsArgs, []⟩).memory :=
  laidMet_of_run' 8 (by kernel_rfl) (by kernel_rfl)
theorem printsReads (os : Os) {H : Type} (enc : TypeId × Value → H) : ∃ places, DataW.whole enc Tryd.prog ((fixWorld (World.holding Tryd.prog os ⟨#[], #[], []⟩)).forCall (fun _ _ => 0) ⟨#[], printsArgs, []⟩).memory Tryd.f3.params.toList Rows.codePrintsSpec.vars false printsArgs.toList 8 = some ([.agg [.nil, .lit (.int .i64 0), .lit (.int .i64 0)], .agg [.nil, .lit (.int .i64 0), .lit (.int .i64 0)]], [], places) :=
  ⟨[], by kernel_rfl⟩
set_option maxRecDepth 100000 in
theorem printsLifted (os : Os) (started : os.Started) (H : Type) (enc : TypeId × Value → H) (F : Stop.Interp) :
    ReturnsInHanded {} Tryd.checked os 3 .any ((OpenSpec.ofChange Rows.codePrintsSpec).preRow enc Tryd.prog Tryd.f3 Rows.codePrintsRow.domain false Rows.codePrintsRow.laid) (((OpenSpec.ofChange Rows.codePrintsSpec).at F).post enc Tryd.prog Tryd.f3 false true false false) := by
  obtain ⟨places, hx⟩ := printsReads os enc
  refine returnsInHanded_of_row (C := Tryd.checked) (s := OpenSpec.ofChange Rows.codePrintsSpec) ownG started (by kernel_rfl) Tryd.func3
    (witness_row_at (enc := enc) (C := Tryd.checked) false (fixWorld (World.holding Tryd.prog os ⟨#[], #[], []⟩)) printsArgs rfl (by kernel_rfl) (by kernel_rfl) (by kernel_rfl)
      (OpenSpec.preRow_of_cond 8 hx (by kernel_rfl) (fun k hk => by cases hk) (by kernel_rfl) (printsLaid os))) ?_
  intro W base args ds gs before hval hW _ _ hsz hL _ _
  exact printsContract H enc W base args ds gs before hval hW hsz hL
theorem printsSaid : Rows.CodePrintsSaid :=
  OpenClaim.holds_of_cond 3 Tryd.f3 rfl rfl rfl rfl rfl rfl rfl ⟨rfl, rfl, rfl, rfl, rfl⟩ rfl rfl rfl rfl rfl (by kernel_rfl) Tryd.func3 (by kernel_rfl)
    (of_decide_eq_true (by kernel_rfl)) (by unfold Func.isWrapper; first | (rw [if_pos (by decide +kernel)]; kernel_rfl) | (rw [if_neg (by decide +kernel)]; exact ⟨rfl, rfl⟩))
    (fun os started H enc _ F => by rw [OpenClaim.pre_eq_preRow]; exact printsLifted os started H enc F)
theorem printsPlain (f : FuncId) (fn : Func) (hf : Tryd.pinned.checked.prog.funcNamed Tryd.f3.name = some f) (hfn : Tryd.pinned.checked.prog.funcs[f]? = some fn) :
    true = Tryd.pinned.checked.prog.looks [] ∧ ∀ (j : Nat) t, fn.params[j]? = some t → Tryd.pinned.checked.prog.wantsStandIn t = false := by
  obtain rfl : f = 3 := Option.some.inj ((show Tryd.prog.funcNamed Tryd.f3.name = some 3 by kernel_rfl).symm.trans hf) |>.symm
  obtain rfl : fn = Tryd.f3 := (Option.some.inj (Tryd.func3.symm.trans hfn)).symm
  refine ⟨by kernel_rfl, fun j t ht => ?_⟩
  rw [Tryd.params3] at ht
  have hm : t = 24 := by
    rcases j with _ | _ | j
    · exact (by simpa using ht.symm)
    · exact (by simpa using ht.symm)
    · simp at ht
  subst hm
  exact (show Tryd.prog.wantsStandIn 24 = false by kernel_rfl)
theorem codePrints_holds : Rows.CodePrintsCardSaid :=
  Claim7.holds_tied_plain_at .later [] _ _ _ _ printsSaid (fun _ h => by cases h) (by kernel_rfl) (fun _ h => by cases h) codePrints_row_tie rfl ⟨rfl, rfl⟩ (by kernel_rfl) rfl printsPlain (by kernel_rfl)
end Go.Proofs.YteanndophopplaaDoor
