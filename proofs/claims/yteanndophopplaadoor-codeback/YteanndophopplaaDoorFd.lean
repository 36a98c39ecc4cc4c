/- HELPERS: a program's bytes. -/
import Derived.Test.YteanndophopplaaDoorFc
import Derived.Test.YteanndophopplaaDoorEc
import Derived.Test.YteanndophopplaaDoorSd
import Derived.Deep.RegionLaw
namespace Go.Proofs.YteanndophopplaaDoor
open Go.RowKit
set_option linter.unusedVariables false
set_option linter.unusedSimpArgs false
theorem en62 : Enters 62 := enter_of Tryd.func62 (by kernel_rfl) rfl
theorem len7 : LenE put7 := fun n => by have := put7_len n; omega
theorem WBR.keepT {T base wb b : Nat} {w w1 : World} {xs : List Nat} {v : Value} {F : List Nat} {c : Array Value} {t : TypeId} {fr : Nat × Nat} (h : WBR T base wb w xs v) (hc : Chg w w1 (WF wb v) F) (hb : w.heap[b]? = some (.cells c t fr)) (ht : t ≠ 5) (hne : b ≠ wb) : w1.heap[b]? = some (.cells c t fr) := by
  refine (hc.block b (Array.getElem?_eq_some_iff.1 hb).1 (fun hk => ?_)).trans hb
  rcases List.mem_cons.1 hk with e | hk
  · exact hne e
  · simp at hk
    exact h.own.ne hb ht hk
theorem WBR.below {T base wb : Nat} {w w1 : World} {xs : List Nat} {v v' : Value} (h : WBR T base wb w xs v) (hb : base ≤ wb) (hc : Chg w w1 (WF wb v) (WF wb v')) : Below base w w1 :=
  hc.below h.bs (fun k hk => by
    rcases List.mem_cons.1 hk with rfl | hk
    · exact hb
    · simp at hk
      rcases h.own with h | ⟨g, cs, fr, rfl, hg, _⟩
      · exact (h.lt k hk).1
      · simp [Value.ownBlock] at hk; omega)
def preB (l : List In) (s k : Int) (i : Nat) : List Nat := headB ++ (put7 k.toNat ++ (put7 s.toNat ++ (put7 l.length ++ ((l.take i).flatMap fun I => I.op.toNat :: I.nums.flatMap put7))))
theorem pre_all (l : List In) (s k : Int) : preB l s k l.length = coreB l s k := by simp [preB, coreB, bodyB]
theorem pre_snoc (l : List In) (s k : Int) (i : Nat) (hi : i < l.length) : preB l s k (i + 1) = (preB l s k i ++ [l[i].op.toNat]) ++ sumE put7 l[i].nums := by
  unfold preB
  rw [List.take_succ_eq_append_getElem hi, List.flatMap_append]
  simp [sumE]
theorem pre_le (l : List In) (s k : Int) (i : Nat) : (preB l s k i).length ≤ (coreB l s k).length := by
  have h : coreB l s k = preB l s k i ++ ((l.drop i).flatMap fun I => I.op.toNat :: I.nums.flatMap put7) := by
    unfold coreB bodyB preB
    simp only [List.append_assoc]
    rw [← List.flatMap_append, List.take_append_drop]
  rw [h, List.length_append]; omega
theorem nums_len {E : Nat → List Nat} (hE : LenE E) {n k : Int} {I : In} (hF : Fit n k I) (hn : n ≤ 20000) (hk : k ≤ 1002) : (sumE E I.nums).length ≤ 11142000000 := by
  cases hF with
  | rune x R h1 h2 h3 h4 =>
    obtain ⟨r5, r6⟩ := right_ok h4
    have e : sumE E (In.nums ⟨1, x, 0, 0, R⟩) = E x.toNat ++ (E R.length ++ sumE E (rnums R)) := by simp [In.nums, sumE]
    rw [e, List.length_append, List.length_append]
    have a := hE x.toNat; have b := hE R.length; have c := rn_len E hE R r6
    have d : R.length * 2228226 ≤ 5000 * 2228226 := Nat.mul_le_mul_right _ r5
    omega
  | alt x y h1 h2 h3 h4 =>
    have e : sumE E (In.nums ⟨2, x, y, 0, []⟩) = E x.toNat ++ E y.toNat := by simp [In.nums, sumE]
    rw [e, List.length_append]; have a := hE x.toNat; have b := hE y.toNat; omega
  | cap x y h1 h2 h3 h4 =>
    have e : sumE E (In.nums ⟨3, x, 0, y, []⟩) = E y.toNat ++ E x.toNat := by simp [In.nums, sumE]
    rw [e, List.length_append]; have a := hE x.toNat; have b := hE y.toNat; omega
  | assert x y h1 h2 h3 h4 =>
    have e : sumE E (In.nums ⟨4, x, 0, y, []⟩) = E y.toNat ++ E x.toNat := by simp [In.nums, sumE]
    rw [e, List.length_append]; have a := hE x.toNat; have b := hE y.toNat; omega
  | mtch y h1 h2 =>
    have e : sumE E (In.nums ⟨5, 0, 0, y, []⟩) = E y.toNat := by simp [In.nums, sumE]
    rw [e]; have b := hE y.toNat; omega
  | fail => have e : sumE E (In.nums ⟨6, 0, 0, 0, []⟩) = [] := by simp [In.nums, sumE]
            rw [e]; simp
  | nop y h1 h2 =>
    have e : sumE E (In.nums ⟨7, y, 0, 0, []⟩) = E y.toNat := by simp [In.nums, sumE]
    rw [e]; have b := hE y.toNat; omega
theorem ba_own {w : World} {base n c : Nat} {a : Option Addr} {xs : List Nat} (h : w.ownsRow base 5 1 (.slice a n c) xs.length (U8 xs)) : BA w w.heap.size a xs := by
  rcases h.2 with ⟨e, h0⟩ | ⟨b, cap, cur, e, _⟩
  · exact .inl (List.length_eq_zero_iff.1 h0)
  · simp only [Value.slice.injEq] at e
    obtain ⟨rfl, rfl, rfl⟩ := e
    refine .inr ⟨b, 0, rfl, (h.lt b rfl).2, fun k hk => ?_⟩
    rw [Nat.zero_add, h.cellAt k (by omega)]
    simp [U8, List.getElem?_eq_getElem hk]
theorem pre_zero (l : List In) (s k : Int) : preB l s k 0 = ((headB ++ put7 k.toNat) ++ put7 s.toNat) ++ put7 l.length := by simp [preB]
theorem start_w {w W1 W2 : World} {base : Nat} {c : Array Value} (hb : base = w.heap.size) (h1 : W1 = w.alloc (.cells c 24)) (h2 : W2 = (W1.alloc (.cells #[.int .u8 72, .int .u8 82, .int .u8 80, .int .u8 71] 5 (4, 5))).alloc (.cells #[.slice (some ⟨base + 1, 0, none⟩) 4 4] 95)) :
    WBR 95 base (base + 2) W2 headB (.slice (some ⟨base + 1, 0, none⟩) 4 4) ∧ W2.heap[base]? = some (.cells c 24 (0, 0)) ∧ Below base w W2 := by
  have s1 : W1.heap.size = base + 1 := by rw [h1, hb]; simp
  have s2 : (W1.alloc (.cells #[.int .u8 72, .int .u8 82, .int .u8 80, .int .u8 71] 5 (4, 5))).heap.size = base + 2 := by simp [s1]
  have g0 : W1.heap[base]? = some (.cells c 24 (0, 0)) := by rw [h1, hb]; exact heap_alloc_new w _
  have g1 := heap_alloc_new W1 (.cells #[.int .u8 72, .int .u8 82, .int .u8 80, .int .u8 71] 5 (4, 5))
  rw [s1] at g1
  have g2 := heap_alloc_new (W1.alloc (.cells #[.int .u8 72, .int .u8 82, .int .u8 80, .int .u8 71] 5 (4, 5))) (.cells #[.slice (some ⟨base + 1, 0, none⟩) 4 4] 95)
  rw [s2] at g2
  rw [h2]
  refine ⟨⟨g2, .inr ⟨base + 1, _, (4, 5), rfl, by omega, (heap_alloc_old _ _ (by omega)).trans g1, rfl⟩, by simp; omega⟩, (heap_alloc_old _ _ (by omega)).trans ((heap_alloc_old _ _ (by omega)).trans g0), ?_⟩
  subst hb
  rw [h1]
  exact Joins.below_alloc3 w _ _ _
set_option maxRecDepth 100000 in
set_option maxHeartbeats 4000000 in
theorem bytesOf39 {w : World} {ad : Option Addr} {n c : Nat} {l : List In} {s k : Int} (h : PI w w.heap.size ad n l) (hm : mayB l s k = true) :
    Calls Tryd.prog 39 #[pv ad n c s k] w fun e w' => ∃ v zs, e = .returned v ∧ w'.ownsRow w.heap.size 5 1 v zs.length (U8 zs) ∧ Below w.heap.size w w' ∧ (zs = fullB l s k ∨ 8388608 < zs.length ∧ 8388608 < (fullB l s k).length) := by
  obtain ⟨h1, h2, h3, h4, h5, h6⟩ := may_fit hm
  obtain ⟨ks, hks⟩ : ∃ ks : Nat, k = (ks : Int) := ⟨k.toNat, by omega⟩
  obtain ⟨ss, hss⟩ : ∃ ss : Nat, s = (ss : Int) := ⟨s.toNat, by omega⟩
  subst hks hss
  obtain ⟨base, hbase⟩ : ∃ base, base = w.heap.size := ⟨_, rfl⟩
  have hcv := Lib.run_convert_bytes_const (P := Tryd.prog) (w.alloc (.cells #[.slice ad n c, .int .i64 (ss : Int), .int .i64 (ks : Int)] 24)) 36 5 #[.int .u8 72, .int .u8 82, .int .u8 80, .int .u8 71] 4 4 Tryd.underlying36 Tryd.underlying5
  rw [show (w.alloc (.cells #[.slice ad n c, .int .i64 (ss : Int), .int .i64 (ks : Int)] 24)).heap.size = w.heap.size + 1 by simp] at hcv
  go_enter Tryd.func39, Tryd.ntmps39
  go_upto_region 2 with fail
  rw [← hbase]
  obtain ⟨W1, hW1⟩ : ∃ W1, W1 = w.alloc (.cells #[.slice ad n c, .int .i64 (ss : Int), .int .i64 (ks : Int)] 24) := ⟨_, rfl⟩
  rw [← hW1]
  obtain ⟨W2, hW2⟩ : ∃ W2, W2 = (W1.alloc (.cells #[.int .u8 72, .int .u8 82, .int .u8 80, .int .u8 71] 5 (4, 5))).alloc (.cells #[.slice (some ⟨base + 1, 0, none⟩) 4 4] 95) := ⟨_, rfl⟩
  rw [← hW2]
  obtain ⟨hS, hp, hB⟩ := start_w hbase hW1 hW2
  have HB2 := hid hB
  have HBS := hid hbase
  rw [← hbase] at h
  have HPI := hid h
  have HL := hid h.len
  have hnl : n ≤ 20000 := by rw [h.len]; exact h1
  have hss : ss ≤ 20000 := by omega
  have HF := hid h6
  have HM := hid hm
  obtain ⟨c0, c1, c2⟩ := three_cells hp
  have C1 := number62R (k := ks) hS (by simp; omega)
  have HS := hid hS
  have HP := hid hp
  clear hW1 hW2 hbase hcv h hS hp hB h6 hm h1
  have hl1 := put7_len ks
  have hl2 := put7_len ss
  have hl3 := put7_len n
  have C2 : ∀ w1 v1, WB 95 base (base + 2) w1 (headB ++ put7 ks) v1 → _ := fun w1 v1 h => number62 base (base + 2) w1 w1 _ v1 ss (Below.refl _ _) h (by simp; omega)
  have C3 : ∀ w1 v1, WB 95 base (base + 2) w1 ((headB ++ put7 ks) ++ put7 ss) v1 → _ := fun w1 v1 h => number62 base (base + 2) w1 w1 _ v1 n (Below.refl _ _) h (by simp; omega)
  go_wp2_with (go_at_call 62; (with_reducible refine C1.mono ?_); rintro e w1 ⟨rfl, v1, hA1, hX1⟩; have hp1 := HS.out.keepT hX1 HP.out (by decide) (by omega); obtain ⟨d0, d1, d2⟩ := three_cells hp1; have HB3 := hid (HB2.out.trans (HS.out.below (by omega) hX1)); have D2 := C2 w1 v1 hA1; have HA1 := hid hA1; clear hA1 hX1 C1)
  have HP1 := hid hp1
  clear hp1 c0 c1 c2 HP HS HB2
  go_wp2_with (go_at_call 62; (with_reducible refine D2.mono ?_); rintro e w2 ⟨rfl, v2, hA2, hX2⟩; have hp2 := HA1.out.r.keepT hX2 HP1.out (by decide) (by omega); obtain ⟨f0, f1, f2⟩ := three_cells hp2; have HB4 := hid (HB3.out.trans (HA1.out.r.below (by omega) hX2)); have D3 := C3 w2 v2 hA2; have HA2 := hid hA2; clear hA2 hX2 D2)
  have HP2 := hid hp2
  clear hp2 d0 d1 d2 HP1 HA1 HB3
  go_wp2_with (go_at_call 62; (with_reducible refine D3.mono ?_); rintro e w3 ⟨rfl, v3, hA3, hX3⟩; have hp3 := HA2.out.r.keepT hX3 HP2.out (by decide) (by omega); obtain ⟨g0, g1, g2⟩ := three_cells hp3; have HB5 := hid (HB4.out.trans (HA2.out.r.below (by omega) hX3)); have HA3 := hid hA3; clear hA3 hX3 D3 hp3)
  have HPZ : Hid (((headB ++ put7 ks) ++ put7 ss) ++ put7 n = preB l (ss : Int) (ks : Int) 0) := by show _ = _; rw [pre_zero, HL.out]; rfl
  go_loopw [23] (fun y wq => ∃ (i : Nat) (z : Value), y = .int .i64 (i : Int) ∧ i ≤ n ∧ Hid (WB 95 base (base + 2) wq (preB l (ss : Int) (ks : Int) i) z) ∧ Hid (Below base w wq) ∧ Hid ((preB l (ss : Int) (ks : Int) i).length ≤ 12000000000)) (fun y _ => n - (intOf y).toNat)
  case atStart => exact ⟨0, v3, rfl, by omega, by rw [← HPZ.out]; exact HA3.out, HB5.out, by show _ ≤ _; rw [← HPZ.out]; simp; omega⟩
  case round =>
    clear HPZ HA3 HA2 HB5 HB4 HP2 f0 f1 f2 g0 g1 g2
    obtain ⟨i, z, rfl, hi, HW, HB, HLN⟩ := hrel
    obtain ⟨xs, hxs⟩ : ∃ xs, preB l (ss : Int) (ks : Int) i = xs := ⟨_, rfl⟩
    rw [hxs] at HW HLN
    have HXS := hid hxs
    clear hxs
    obtain ⟨za, zc, rfl, -, -⟩ := row_shape HW.out.own
    obtain ⟨xn, hxn⟩ : ∃ xn, xs.length = xn := ⟨_, rfl⟩
    rw [hxn] at HW HLN
    have k0 : wr.cell? ⟨base + 2, 0, none⟩ = some (.slice za xn zc) := Joins.cell_of_block HW.out.box 0
    have HXN := hid hxn
    have hlt : base + 2 < wr.heap.size := (Array.getElem?_eq_some_iff.1 HW.out.box).1
    have hxl := HLN.out
    have hbs := HW.out.bs
    clear hxn
    by_cases hil : i < n
    · have b1 : decide ((i : Int) < (n : Int)) = true := by simp; omega
      have b2 : (i : Int) < (n : Int) := by omega
      have ad1 : IntKind.i64.wrap ((i : Int) + 1) = (i : Int) + 1 := by simp [IntKind.wrap, IntKind.bits, IntKind.signed]; omega
      have hlt2 : i < l.length := by have := HL.out; omega
      obtain ⟨b, o, ND, rfl, hb, hcs⟩ := HPI.out.mem (by omega)
      obtain ⟨m0, m1, m2, m3, m4⟩ := (hcs i hlt2).1.kept (HB.out.block b hb)
      have hIM : IM wr base (ND i) l[i] := (hcs i hlt2).2.kept HB.out (Nat.le_refl _)
      have hFit := HF.out _ (List.getElem_mem hlt2)
      have HSN := hid (pre_snoc l (ss : Int) (ks : Int) i hlt2)
      have HPL := hid (pre_le l (ss : Int) (ks : Int) i)
      obtain ⟨I, hI⟩ : ∃ I, I = l[i] := ⟨_, rfl⟩
      rw [← hI] at hIM hFit HSN
      obtain ⟨⟨op, x, y, a, r1, r2, r3⟩, hM⟩ : ∃ M, M = ND i := ⟨_, rfl⟩
      rw [← hM] at m0 m1 m2 m3 m4 hIM
      simp only at m0 m1 m2 m3 m4
      obtain ⟨q, hq, hq7⟩ : ∃ q : Nat, op = (q : Int) ∧ q ≤ 7 := by
        have e : op = I.op := hIM.op
        refine ⟨op.toNat, ?_, ?_⟩ <;> rw [e] <;> cases hFit <;> simp
      subst hq
      have HIM := hid hIM
      have HFit := hid hFit
      have HOP : Hid (I.op.toNat = q) := by show _ = _; rw [← hIM.op]; simp
      clear hI hM hcs hIM hFit
      have hWV := HW.out.alloc (.cells #[.int .i64 (q : Int), .int .i64 x, .int .i64 y, .int .i64 a, .slice r1 r2 r3] 49)
      have HWV := hid hWV
      have HNB := hid (heap_alloc_new wr (.cells #[.int .i64 (q : Int), .int .i64 x, .int .i64 y, .int .i64 a, .slice r1 r2 r3] 49))
      clear hWV
      have HBV : Hid (Below base w (wr.alloc (.cells #[.int .i64 (q : Int), .int .i64 x, .int .i64 y, .int .i64 a, .slice r1 r2 r3] 49))) := HB.out.alloc hbs _
      by_cases hbig : 8388608 < xn
      · have b3 : decide ((xn : Int) > 8388608) = true := by simp; omega
        have b4 : decide ((8388608 : Int) < (xn : Int)) = true := by simp; omega
        go_wp2
        all_goals go_ret
        all_goals refine ⟨_, xs, rfl, ?_, by rw [← HBS.out]; exact HBV.out, .inr ⟨by rw [HXN.out]; exact hbig, ?_⟩⟩
        · rw [← HBS.out]; exact HWV.out.own
        · have h1 := HPL.out
          rw [HXS.out, HXN.out] at h1
          simp only [fullB, List.length_append]
          omega
      · have b3 : decide ((xn : Int) > 8388608) = false := by simp; omega
        have b4 : decide ((8388608 : Int) < (xn : Int)) = false := by simp; omega
        have b5 : (q : Int) % 256 = (q : Int) := by omega
        have hx0 : xs.length ≤ 1099511627776 := by rw [HXN.out]; omega
        have HX0 := hid hx0
        clear hx0
        have C6 : ∀ V2 v', WB 95 base (base + 2) V2 (xs ++ [q]) v' → Below base (wr.alloc (.cells #[.int .i64 (q : Int), .int .i64 x, .int .i64 y, .int .i64 a, .slice r1 r2 r3] 49)) V2 → _ := fun V2 v' hV hb2 => fields61 (f := 62) (number62 base (base + 2) V2) en62 len7 (by omega) (N := ⟨(q : Int), x, y, a, r1, r2, r3⟩) (Below.refl _ _) hV (HIM.out.kept (((Below.refl base wr).alloc hbs _).trans hb2) (Nat.le_refl _)) HFit.out (by have := HL.out; omega) h5 (by rw [List.length_append, HXN.out]; simp; omega)
        go_wp2_with (first | (at_builtin; refine wpList_append_oneR rfl (.tmp 34) (.tmp 38) rfl base _ q 1 xs rfl (.inl HWV.out.own) _ (by simp) rfl HX0.out (by simp; omega) ?_; intro v' w1 ho1 hm1; obtain ⟨va, vc, rfl, _, _⟩ := row_shape ho1.out; obtain ⟨c1, f1⟩ := HWV.out.r.box1 (by decide) hm1.out; obtain ⟨hW1, hC1⟩ := HWV.out.r.put (by decide) hm1.out (ys := xs ++ [q]) ho1.out (by rw [List.length_append]; rfl); obtain ⟨e0, e1, e2, e3, e4⟩ := five (HWV.out.r.keepT hC1 HNB.out (by decide) (by omega)); have HB1 := hid (HBV.out.trans (HWV.out.below (by omega) hC1)); have HW1 := hid hW1; have C61 := C6 _ _ hW1 (HWV.out.below (by omega) hC1); clear hW1 hC1 ho1 hm1) | (go_at_call 61; (with_reducible refine C61.mono ?_); rintro e w4 ⟨rfl, v4, hA4, hX4⟩; have HB4 := hid (HB1.out.trans (HW1.out.below (by omega) hX4)); have HA4 := hid hA4; clear hA4 hX4 C61))
        have hnl4 := nums_len len7 HFit.out (by have := HL.out; omega) h5
        refine ⟨⟨i + 1, v4, by push_cast; rfl, by omega, ?_, HB4.out, ?_⟩, by simp [intOf]; omega⟩
        · rw [HSN.out, HXS.out, HOP.out]; exact HA4.out
        · show _ ≤ _
          rw [HSN.out, HXS.out, List.length_append, List.length_append, HXN.out]
          simp
          omega
    · have b1 : decide ((i : Int) < (n : Int)) = false := by simp; omega
      have hin : i = n := by omega
      subst hin
      have HC : Hid (xs = coreB l (ss : Int) (ks : Int)) := by show _ = _; rw [← HXS.out, HL.out, pre_all]
      have hlt8 : ∀ y ∈ xs, y < 256 := by rw [HC.out]; exact core_lt HM.out
      have C63 := sum63 (n := xn) (c := zc) (ba_own HW.out.own) HXN.out.symm (by omega) hlt8
      obtain ⟨sm, hsm⟩ : ∃ sm, crcSum xs = sm := ⟨_, rfl⟩
      rw [hsm] at C63
      have HSM := hid hsm
      clear hsm hlt8
      have HOW := hid HW.out.own
      have HBX := hid HW.out.box
      go_wp2_with (go_at_call 63; (with_reducible refine C63.mono ?_); rintro e w5 ⟨rfl, hb5⟩; have HB5 := hid hb5; have k5 := Joins.cell_of_block ((hb5.block _ hlt).trans HBX.out) 0; simp at k5; clear hb5 C63)
      obtain ⟨W7, hW7⟩ : ∃ W7, W7 = w5.alloc (.cells #[.int .u8 ((sm : Int) % 256), .int .u8 ((sm : Int) / 256 % 256), .int .u8 ((sm : Int) / 65536 % 256), .int .u8 ((sm : Int) / 16777216 % 256)] 96) := ⟨_, rfl⟩
      rw [← hW7]
      have g7 := heap_alloc_new w5 (.cells #[.int .u8 ((sm : Int) % 256), .int .u8 ((sm : Int) / 256 % 256), .int .u8 ((sm : Int) / 65536 % 256), .int .u8 ((sm : Int) / 16777216 % 256)] 96)
      have hb7 : Below wr.heap.size wr W7 := by rw [hW7]; exact HB5.out.alloc HB5.out.size _
      rw [← hW7] at g7
      have HR7 : Hid (W7.drew.ownsRow base 5 1 (.slice za xn zc) xn (U8 xs)) := by have e := row_kept (w' := W7.drew) HOW.out (fun b hb => hb7.block b (HOW.out.lt b hb).2); rw [HXN.out] at e; exact e
      have k7 : W7.cell? ⟨base + 2, 0, none⟩ = some (.slice za xn zc) := Joins.cell_of_block ((hb7.block _ hlt).trans HBX.out) 0
      have HG7 := hid (lit_cells g7)
      have HB7 := hid hb7
      have hs7 : base ≤ W7.drew.heap.size := by have := hb7.size; show base ≤ W7.heap.size; omega
      obtain ⟨i0, hi0, hz0, hz1, hz2⟩ := info_parts info5
      clear hb7 g7 hW7 k5
      go_region_law (refine step_append_moveN rfl (.tmp 49) (.tmp 50) 36 rfl base 5 i0 (.int .u8 0) 1 1 Tryd.underlying36 hi0 hz0 hz1 hz2 rfl (by decide) _ xn (U8 xs) rfl HR7.out ⟨w5.heap.size, 0, none⟩ 4 4 _ rfl rfl (by decide) HG7.out (by intro u hu; simp at hu; rcases hu with rfl | rfl | rfl | rfl <;> rfl) (by unfold maxLen; omega) (by omega) hs7 ?_; intro v9 w9 ho9 hm9; obtain ⟨va, vc, rfl, _, _⟩ := row_shape ho9; have HO9 := hid ho9; have HM9 := hid hm9; clear ho9 hm9)
      have HBE : Hid (Below base w w9) := by
        have hf := HM9.out.frm
        have h7 := HB7.out
        have hB := HB.out
        refine ⟨hf.os.trans (h7.os.trans hB.os), hf.tape.trans (h7.tape.trans hB.tape), hf.output.trans (h7.output.trans hB.output), Nat.le_trans hB.size (Nat.le_trans h7.size hf.size), fun k hk => ?_⟩
        have hsz := h7.size
        exact (hf.block k (show k < W7.heap.size by omega) (fun e => by have := (HR7.out.lt k e).1; omega)).trans ((h7.block k (by omega)).trans (hB.block k hk))
      all_goals go_wp2
      all_goals go_ret
      all_goals refine ⟨_, xs ++ sum4 sm, rfl, ?_, by rw [← HBS.out]; exact HBE.out, .inl ?_⟩
      · rw [← HBS.out]
        have e : (xs ++ sum4 sm).length = xn + 4 := by rw [List.length_append, HXN.out]; rfl
        have e2 : U8 (xs ++ sum4 sm) = U8 xs ++ [.int .u8 ((sm : Int) % 256), .int .u8 ((sm : Int) / 256 % 256), .int .u8 ((sm : Int) / 65536 % 256), .int .u8 ((sm : Int) / 16777216 % 256)] := by simp [U8, sum4]
        rw [e, e2]
        exact HO9.out
      · rw [← HSM.out, HC.out]; rfl
end Go.Proofs.YteanndophopplaaDoor
