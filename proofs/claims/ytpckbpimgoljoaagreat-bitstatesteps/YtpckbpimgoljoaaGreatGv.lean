/- HELPERS: the law BitstateSteps walked, where Compile answers a program. -/
import Derived.Test.YtpckbpimgoljoaaGreatGu
namespace Go.Proofs.YtpckbpimgoljoaaGreat
open Go.RowKit Go.Lk
set_option linter.unusedVariables false
set_option linter.unusedSimpArgs false
set_option maxRecDepth 100000 in
set_option maxHeartbeats 32000000 in
theorem steps3_yes {w : World} {N : Nv} {t : Tn} {pa tad : Option Addr} {pn pc tn tc : Nat} {ps pk a : Int} {anch : Bool} {pl : List In} {tx : List Int} (h : TI w w.heap.size N t) (hsm : t.small = true) (hP : PI w w.heap.size pa pn pl) (hT : TextAt w.heap.size w tad tn tx) (hE : errC t = 0) :
    Calls Tryz.prog 3 #[N.v, kv pa pn pc ps pk tad tn tc a anch] w fun e w' => e = .returned (.bool true) ∧ Below w.heap.size w w' := by
  obtain ⟨U, hU⟩ : ∃ U, U = (w.alloc (.cells #[.int .i64 N.k, .slice N.r1 N.r2 N.r3, .int .i64 N.a2, .slice N.s1 N.s2 N.s3, .int .i64 N.a4, .int .i64 N.a5, .bool N.a6, .int .i64 N.a7, .string N.a8] 25)).alloc (.cells #[.slice pa pn pc, .int .i64 ps, .int .i64 pk, .slice tad tn tc, .int .i64 a, .bool anch] 31) := ⟨_, rfl⟩
  have hbU : Below w.heap.size w U := by rw [hU]; exact below_two' w _ _
  have hX : BNo U w.heap.size N := by rw [hU]; exact (heap_alloc_old _ _ (by simp)).trans (heap_alloc_new w _)
  have hY : BK U (w.heap.size + 1) pa pn pc ps pk tad tn tc a anch := by rw [hU]; exact two_new w _ _ _
  have hyU : w.heap.size + 1 < U.heap.size := (Array.getElem?_eq_some_iff.1 hY).1
  have tiw : ∀ (W : World), Below w.heap.size w W → TI W W.heap.size N t := fun W hW => (h.kept fun b hb => hW.block b hb).le hW.size
  have HD := deep10 (tiw _ hbU)
  have TIW := hid tiw
  have HPW : Hid (∀ W, Below w.heap.size w W → PI W W.heap.size pa pn pl) := fun W h => hP.kept h h.size
  have HTW : Hid (∀ W, Below w.heap.size w W → TextAt W.heap.size W tad tn tx) := fun W h => (hT.below h).mono h.size
  have htl : tn = tx.length := hT.1
  have HTL := hid htl
  have HB0 := hid hbU
  obtain ⟨x, hx⟩ : ∃ x, x = w.heap.size := ⟨_, rfl⟩
  obtain ⟨y, hy⟩ : ∃ y, y = w.heap.size + 1 := ⟨_, rfl⟩
  have hxy : x + 1 = y := by omega
  have hK0 : ∀ W, Below U.heap.size U W → BNo W x N ∧ BK W y pa pn pc ps pk tad tn tc a anch := fun W h => by rw [hx, hy]; exact ⟨(h.block _ (by omega)).trans hX, (h.block _ hyU).trans hY⟩
  have HK0 := hid hK0
  have hyU' : y < U.heap.size := by omega
  clear hbU hX hY tiw h hP hT htl hK0 hyU
  have HEH := hid hE
  clear hE
  go_enter Tryz.func3, Tryz.ntmps3
  go_upto_region 1 with fail
  rw [← hU, ← hx]
  have HXE := hid hx
  have HYE := hid hy
  clear hU hx hy
  obtain ⟨c0, c1, c2, c3, c4, c5, c6, c7, c8⟩ := nine' (HK0.out U (Below.refl _ _)).1
  by_cases hdp : 4194304 < t.nodes
  · rw [decide_eq_true hdp] at HD
    go_wp2_with (first | (go_at_call 4; (with_reducible refine HD.mono ?_); rintro e U1 ⟨rfl, hb⟩; have HB1 := hid hb; clear hb HD))
    all_goals go_ret
    all_goals exact ⟨rfl, HB0.out.trans (Joins.below_le HB1.out HB0.out.size)⟩
  rw [decide_eq_false hdp] at HD
  go_upto_region 4 with (go_at_call 4; (with_reducible refine HD.mono ?_); rintro e U1 ⟨rfl, hb⟩; have HB1 := hid hb; clear hb HD)
  clear c0 c1 c2 c3 c4 c5 c6 c7 c8
  have HW1 := hid (HB0.out.trans (Joins.below_le HB1.out HB0.out.size))
  have HH := heavy8 (TIW.out _ HW1.out) hsm
  obtain ⟨c0, c1, c2, c3, c4, c5, c6, c7, c8⟩ := nine' (HK0.out U1 HB1.out).1
  go_upto_region 5 with (go_at_call 5; (with_reducible refine HH.mono ?_); rintro e U2 ⟨hv, rfl, hb⟩; have HB2 := hid (HB1.out.trans (Joins.below_le hb HB1.out.size)); clear hb HH)
  clear c0 c1 c2 c3 c4 c5 c6 c7 c8
  by_cases hvt : hv = true
  · subst hvt
    go_wp2
    all_goals go_ret
    all_goals exact ⟨rfl, HB0.out.trans (Joins.below_le HB2.out HB0.out.size)⟩
  have hvf : hv = false := by simpa using hvt
  subst hvf
  have HA := awake5 U2
  go_upto_region 8 with (go_at_call 6; (with_reducible refine HA.mono ?_); rintro e U3 ⟨rfl, hb⟩; have HB3 := hid (HB2.out.trans (Joins.below_le hb HB2.out.size)); clear hb HA)
  obtain ⟨k0, k1, k2, k3, k4, k5⟩ := six_cells (HK0.out U3 HB3.out).2
  obtain ⟨U4, hU4⟩ : ∃ U4, U4 = U3.alloc (.cells #[.slice pa pn pc, .int .i64 ps, .int .i64 pk] 28) := ⟨_, rfl⟩
  obtain ⟨z, hz⟩ : ∃ z, z = U3.heap.size := ⟨_, rfl⟩
  have hb34 : Below U3.heap.size U3 U4 := by rw [hU4]; exact Joins.below_alloc1 U3 _
  have hZ4 : U4.heap[z]? = some (.cells #[.slice pa pn pc, .int .i64 ps, .int .i64 pk] 28 (0, 0)) := by rw [hU4, hz]; exact heap_alloc_new U3 _
  have hyz : y < z := by have := HB3.out.size; omega
  have HU3 : Hid (U3.heap.size = z) := hz.symm
  go_upto_region 10 with fail
  rw [← hU4, ← hz]
  have hz4 : z < U4.heap.size := (Array.getElem?_eq_some_iff.1 hZ4).1
  have HB4 : Hid (Below U.heap.size U U4) := HB3.out.trans (Joins.below_le hb34 HB3.out.size)
  have HW4 := hid (HB0.out.trans (Joins.below_le HB4.out HB0.out.size))
  have HZ4 := hid hZ4
  clear k0 k1 k2 k3 k4 k5 hU4 hz hb34 hZ4
  have HC := compileT (TIW.out _ HW4.out)
  obtain ⟨E, hEE⟩ : ∃ E, E = errC t := ⟨_, rfl⟩
  unfold CPost at HC
  rw [← hEE] at HC
  have hE0 : E = 0 := hEE ▸ HEH.out
  clear hEE
  obtain ⟨c0, c1, c2, c3, c4, c5, c6, c7, c8⟩ := nine' (HK0.out U4 HB4.out).1
  go_upto_region 11 with (go_at_call 7; (with_reducible refine HC.mono ?_); rintro e W5 ⟨ad, n, c, s, k, rfl, hb, hp⟩; have HB5 := hid hb; have HP5 := hid hp; clear hb hp HC)
  clear c0 c1 c2 c3 c4 c5 c6 c7 c8
  obtain ⟨U5, hU5⟩ : ∃ U5, U5 = W5.alloc (.cells #[.slice ad n c, .int .i64 s, .int .i64 k] 28) := ⟨_, rfl⟩
  obtain ⟨z2, hz2⟩ : ∃ z2, z2 = W5.heap.size := ⟨_, rfl⟩
  rw [← hU5, ← hz2]
  have hb5 : Below W5.heap.size W5 U5 := by rw [hU5]; exact Joins.below_alloc1 W5 _
  have hV5 : U5.heap[z2]? = some (.cells #[.slice ad n c, .int .i64 s, .int .i64 k] 28 (0, 0)) := by rw [hU5, hz2]; exact heap_alloc_new W5 _
  have hb45 : Below U4.heap.size U4 U5 := HB5.out.trans (Joins.below_le hb5 HB5.out.size)
  have HZ5 := hid ((hb45.block z hz4).trans HZ4.out)
  have HU5 : Hid (Below U.heap.size U U5) := HB4.out.trans (Joins.below_le hb45 HB4.out.size)
  have HV5 := hid hV5
  have hz5 : z < U5.heap.size := (Array.getElem?_eq_some_iff.1 HZ5.out).1
  subst hE0
  obtain ⟨es, ek, hpi⟩ := HP5.out rfl
  subst es
  have HEK := hid ek
  have hW5 : W5.heap.size ≤ U5.heap.size := hb5.size
  have hU45 : U4.heap.size ≤ W5.heap.size := HB5.out.size
  have hzz : z < z2 := by omega
  have hPK : ∀ W, (∀ b, U4.heap.size ≤ b → b < U5.heap.size → W.heap[b]? = U5.heap[b]?) → U5.heap.size ≤ W.heap.size → PI W W.heap.size ad n (progT t) := fun W h hs => hpi W (fun b h1 h2 => (h b h1 (by omega)).trans (hb5.block b h2)) (by omega)
  have HPK := hid hPK
  obtain ⟨q0, q1, q2⟩ := three_cells3 HV5.out
  have u0 := Joins.unfrozen_of_block HZ5.out 0
  have u1 := Joins.unfrozen_of_block HZ5.out 1
  have u2 := Joins.unfrozen_of_block HZ5.out 2
  have k0 := Joins.cell_of_block HZ5.out 0
  have k1 := Joins.cell_of_block HZ5.out 1
  have k2 := Joins.cell_of_block HZ5.out 2
  have hzn : z ≠ z2 := by omega
  clear hU5 hz2 hb5 hV5 hb45 HP5 HB5 hpi hPK ek
  go_upto_region 13 with fail
  clear q0 q1 q2 u0 u1 u2 k0 k1 k2
  obtain ⟨U6, hU6⟩ : ∃ U6, U6 = ((U5.setCell ⟨z, 0, none⟩ (.slice ad n c)).setCell ⟨z, 1, none⟩ (.int .i64 0)).setCell ⟨z, 2, none⟩ (.int .i64 k) := ⟨_, rfl⟩
  rw [← hU6]
  have hZ6 : U6.heap[z]? = some (.cells #[.slice ad n c, .int .i64 0, .int .i64 k] 28 (0, 0)) := by rw [hU6]; exact Joins.block_setCell (i := 2) (Joins.block_setCell (i := 1) (Joins.block_setCell (i := 0) HZ5.out _) _) _
  have hS6 : U6.heap.size = U5.heap.size := by rw [hU6]; simp [World.setCell]
  have hO6 : ∀ b, b ≠ z → U6.heap[b]? = U5.heap[b]? := fun b hb => by rw [hU6]; exact (Below.heap_setCell _ _ _ _ hb).trans ((Below.heap_setCell _ _ _ _ hb).trans (Below.heap_setCell _ _ _ _ hb))
  have hUz : U.heap.size ≤ z := by have := HB3.out.size; have := HU3.out; omega
  have HU6 : Hid (Below U.heap.size U U6) := by rw [hU6]; exact ((HU5.out.setCell (by show _ ≤ z; omega) _).setCell (by show _ ≤ z; omega) _).setCell (by show _ ≤ z; omega) _
  have HZ6 := hid hZ6
  have hz6 : z < U6.heap.size := by omega
  have HPW6 : Hid (∀ W, Below U6.heap.size U6 W → PI W W.heap.size ad n (progT t)) := fun W h => HPK.out W (fun b h1 h2 => (h.block b (by omega)).trans (hO6 b (by omega))) (by have := h.size; omega)
  have HFN : Hid (t.fine = true) := errC_fine HEH.out
  clear hU6 hZ6 hS6 hO6 HPK HZ5 HV5
  go_upto_region 14 with fail
  have HCX : Hid (∀ W, Below U6.heap.size U6 W → Below w.heap.size w W ∧ (W.cell? ⟨y, 3, none⟩ = some (.slice tad tn tc) ∧ W.cell? ⟨y, 4, none⟩ = some (.int .i64 a)) ∧ (W.cell? ⟨z, 0, none⟩ = some (.slice ad n c) ∧ W.cell? ⟨z, 1, none⟩ = some (.int .i64 0) ∧ W.cell? ⟨z, 2, none⟩ = some (.int .i64 k))) := fun W h => by
    have hW := HU6.out.trans (Joins.below_le h HU6.out.size)
    have h6 := six_cells (HK0.out W hW).2
    exact ⟨HB0.out.trans (Joins.below_le hW HB0.out.size), ⟨h6.2.2.2.1, h6.2.2.2.2.1⟩, three_cells3 ((h.block z hz6).trans HZ6.out)⟩
  have HRN : Hid (∀ W (q : Int) (an : Bool) r m', Below U6.heap.size U6 W → errB (progT t) 0 k tx.length q = 0 → BitA (progT t) tx 0 k q an r m' → Calls Tryz.prog 8 #[pv ad n c 0 k, .slice tad tn tc, .int .i64 q, .bool an] W (FT r.isSome (whF r) (capsF r) m'.length W)) := fun W q an r m' h he hd => run8S (HPW6.out W h) (HTW.out W (HCX.out W h).1) he hd
  have HRE : Hid (∀ W, Below U6.heap.size U6 W → errB (progT t) 0 k tx.length a ≠ 0 → Calls Tryz.prog 8 #[pv ad n c 0 k, .slice tad tn tc, .int .i64 a, .bool false] W (FE (errB (progT t) 0 k tx.length a) W)) := fun W h he => run8E (HPW6.out W h) (HTW.out W (HCX.out W h).1) he
  have hln : n = (progT t).length := (HPW6.out U6 (Below.refl _ _)).len
  have HLN := hid hln
  clear hln HU5 HU6 HZ6 HZ4 HB4 HB3 HB2 HB1 HW1 HW4 hz4 HEH TIW HPW HPW6 HTW hyz hxy hyU' hsm hdp hvt HU3 hzn hzz hW5 hU45 hUz HEK
  obtain ⟨_, ⟨y3, y4⟩, ⟨z0, z1, z2'⟩⟩ := HCX.out U6 (Below.refl _ _)
  by_cases he : errB (progT t) (0 : Int) k tx.length a ≠ 0
  · have HR := HRE.out U6 (Below.refl _ _) he
    generalize errB (progT t) (0 : Int) k tx.length a = F at he HR
    have g1 : (F != 0) = true := by simp [he]
    have g1' : decide (F ≠ 0) = true := by simp [he]
    have g1n : (F == 0) = false := by simp [he]
    go_wp2_with (go_at_call 8; (with_reducible refine HR.mono ?_); rintro e W6 ⟨hb, rfl⟩; have HB6 := hid hb; clear hb HR)
    all_goals go_ret
    all_goals exact ⟨rfl, (HCX.out _ (HB6.out.trans (Joins.below_le (Joins.below_alloc1 W6 _) HB6.out.size))).1⟩
  have he : errB (progT t) (0 : Int) k tx.length a = 0 := by simpa using he
  have hR := errB_R he
  obtain ⟨r, m', hd, _⟩ := bit_ex (tx := tx) false hR
  obtain ⟨r1, m1, hd1, _⟩ := bit_ex (tx := tx) true hR
  obtain ⟨s1, s2, s3, s4, s5⟩ := bit_steps hR hd hd1
  have hle := errB_le he
  obtain ⟨h41, hmay, ha0, haT⟩ := errR_ok hR
  obtain ⟨A, rfl⟩ := Int.eq_ofNat_of_zero_le ha0
  have hfirst := bit_first hR hd
  have HCAPS := hid (bit_caps hR hd)
  have HKK := hid (may_ok hmay)
  have HR1 := HRN.out U6 (A : Int) false r m' (Below.refl _ _) he hd
  have HR2 : ∀ W, Below U6.heap.size U6 W → Calls Tryz.prog 8 #[pv ad n c 0 k, .slice tad tn tc, .int .i64 (A : Int), .bool true] W (FT r1.isSome (whF r1) (capsF r1) m1.length W) := fun W h => HRN.out W _ _ _ _ h he hd1
  have HEB := hid he
  clear hd hd1 he hR hmay ha0
  generalize hst : m'.length = st at HR1 s1 s3 s4
  generalize hst1 : m1.length = st1 at HR2 s2 s3
  clear hst hst1
  generalize hokf : r.isSome = okf at HR1 s5
  generalize hokg : r1.isSome = okg at HR2 s5
  generalize hwf : whF r = wf at HR1
  generalize hcf : capsF r = cf at HR1
  generalize whF r1 = wg at HR2
  generalize capsF r1 = cg at HR2
  have HR2 := hid HR2
  clear hokg
  have hAt : A ≤ tn := by have := HTL.out; omega
  have htn : tn ≤ 4194304 := by have := HTL.out; omega
  rw [← HTL.out, Int.toNat_natCast, ← HLN.out] at s4 hle
  have e1 : IntKind.i64.wrap ((tn : Int) - (A : Int)) = ((tn - A : Nat) : Int) := by rw [wrap_ok _ (by omega) (by omega)]; omega
  have e2 : IntKind.i64.wrap (((tn - A : Nat) : Int) + 1) = ((tn - A + 1 : Nat) : Int) := by rw [wrap_ok _ (by omega) (by omega)]; omega
  have e3 : IntKind.i64.wrap ((n : Int) * ((tn - A + 1 : Nat) : Int)) = ((n * (tn - A + 1) : Nat) : Int) := by
    rw [← Int.natCast_mul]
    exact wrap_ok _ (by omega) (by omega)
  generalize hpr : n * (tn - A + 1) = pr at e3 s4 hle
  generalize hd1 : tn - A + 1 = dd at e2 e3
  generalize hd0 : tn - A = d0 at e1 e2
  have b1 : decide ((st : Int) < 1) = false := by simp; omega
  have b2 : decide ((st1 : Int) < 1) = false := by simp; omega
  have b3 : decide ((st : Int) > (pr : Int)) = false := by simp; omega
  have b3' : decide ((pr : Int) < (st : Int)) = false := by simp; omega
  have b3n : decide (pr < st) = false := by simp; omega
  have b3m : ¬ pr < st := by omega
  have b4 : decide ((st1 : Int) > (st : Int)) = false := by simp; omega
  have b4' : decide ((st : Int) < (st1 : Int)) = false := by simp; omega
  have b4n : decide (st < st1) = false := by simp; omega
  have b4m : ¬ st < st1 := by omega
  clear hpr hd1 hd0 s1 s2 s3 s4 hle
  have HFIRST := hid hfirst
  clear hfirst
  go_upto_region 15 with (go_at_call 8; (with_reducible refine HR1.mono ?_); rintro e W6 ⟨f1, fn, fc, rfl, hi, hb⟩; have HI6 := hid hi; have HB6 := hid hb; clear hb hi HR1)
  clear y3 y4 z0 z1 z2'
  obtain ⟨V, hV⟩ : ∃ V, V = W6.alloc (.cells #[.bool okf, .slice f1 fn fc, .int .i64 wf, .int .i64 (st : Int)] 38) := ⟨_, rfl⟩
  obtain ⟨v, hv⟩ : ∃ v, v = W6.heap.size := ⟨_, rfl⟩
  rw [← hV, ← hv]
  have hbV : Below W6.heap.size W6 V := by rw [hV]; exact Joins.below_alloc1 W6 _
  have hVV : V.heap[v]? = some (.cells #[.bool okf, .slice f1 fn fc, .int .i64 wf, .int .i64 (st : Int)] 38 (0, 0)) := by rw [hV, hv]; exact heap_alloc_new W6 _
  have hvV : v < V.heap.size := (Array.getElem?_eq_some_iff.1 hVV).1
  have hUV : Below U6.heap.size U6 V := HB6.out.trans (Joins.below_le hbV HB6.out.size)
  have hIV := HI6.out.below hbV
  have HKV : Hid (∀ W, Below V.heap.size V W → Below U6.heap.size U6 W ∧ (W.cell? ⟨v, 0, none⟩ = some (.bool okf) ∧ W.cell? ⟨v, 1, none⟩ = some (.slice f1 fn fc) ∧ W.cell? ⟨v, 2, none⟩ = some (.int .i64 wf) ∧ W.cell? ⟨v, 3, none⟩ = some (.int .i64 (st : Int))) ∧ IR W (.slice f1 fn fc) cf) := fun W h => ⟨hUV.trans (Joins.below_le h hUV.size), four_cells ((h.block v hvV).trans hVV), hIV.below h⟩
  obtain ⟨_, ⟨y3, y4⟩, ⟨z0, z1, z2'⟩⟩ := HCX.out V hUV
  have HR3 := HR2.out V hUV
  clear hV hv hbV hVV hvV hUV hIV HI6 HB6 HR2
  go_upto_region 18 with (go_at_call 8; (with_reducible refine HR3.mono ?_); rintro e W7 ⟨q1, qn, qc, rfl, hi, hb⟩; have HB7 := hid hb; clear hb hi HR3)
  clear y3 y4 z0 z1 z2'
  obtain ⟨V2, hV2⟩ : ∃ V2, V2 = W7.alloc (.cells #[.bool okg, .slice q1 qn qc, .int .i64 wg, .int .i64 (st1 : Int)] 38) := ⟨_, rfl⟩
  obtain ⟨v2, hv2⟩ : ∃ v2, v2 = W7.heap.size := ⟨_, rfl⟩
  rw [← hV2, ← hv2]
  have hbV : Below W7.heap.size W7 V2 := by rw [hV2]; exact Joins.below_alloc1 W7 _
  have hVV : V2.heap[v2]? = some (.cells #[.bool okg, .slice q1 qn qc, .int .i64 wg, .int .i64 (st1 : Int)] 38 (0, 0)) := by rw [hV2, hv2]; exact heap_alloc_new W7 _
  have HV2 : Hid (Below V.heap.size V V2) := HB7.out.trans (Joins.below_le hbV HB7.out.size)
  obtain ⟨g0, g1, g2, g3⟩ := four_cells hVV
  obtain ⟨hUV, ⟨v0, v1, v2c, v3⟩, _⟩ := HKV.out V2 HV2.out
  obtain ⟨_, ⟨y3, y4⟩, ⟨z0, z1, z2'⟩⟩ := HCX.out V2 hUV
  clear hV2 hv2 hbV hVV hUV HB7
  rcases HFIRST.out with ⟨hn, hall⟩ | ⟨zz, j, hsome, hj1, hj2, hbefore, hat, m2, hdf⟩
  · have hokf0 : okf = false := by rw [← hokf, hn]; rfl
    have hokg0 : okg = false := by cases okg with | false => rfl | true => have := s5 rfl; rw [hokf0] at this; cases this
    subst hokf0 hokg0
    have HALL := hid hall
    clear hn hall hokf hwf hcf s5 HFIRST HCAPS
    go_wp2_with fail
    clear y3 y4 z0 z1 z2' g0 g1 g2 g3 v0 v1 v2c v3
    go_loopw [17] (fun v wq => ∃ i : Nat, v = .int .i64 (i : Int) ∧ A ≤ i ∧ i ≤ tn + 1 ∧ Hid (Below V2.heap.size V2 wq)) (fun v _ => tn + 1 - (intOf v).toNat)
    case atStart => exact ⟨A, rfl, Nat.le_refl _, by omega, Below.refl _ _⟩
    case round =>
      obtain ⟨i, rfl, hAi, hi, HBQ⟩ := hrel
      have hVQ := HV2.out.trans (Joins.below_le HBQ.out HV2.out.size)
      obtain ⟨hUQ, ⟨v0, v1, v2c, v3⟩, _⟩ := HKV.out wr hVQ
      obtain ⟨_, ⟨y3, y4⟩, ⟨z0, z1, z2'⟩⟩ := HCX.out wr hUQ
      by_cases hit : i ≤ tn
      · have g1 : decide ((i : Int) ≤ (tn : Int)) = true := by simp; omega
        have a1 : IntKind.i64.wrap ((i : Int) + 1) = (i : Int) + 1 := by rw [wrap_ok _ (by omega) (by omega)]
        have hei : errB (progT t) (0 : Int) k tx.length (i : Int) = 0 := errB_on HEB.out (by omega) (by have := HTL.out; omega)
        obtain ⟨ri, mi, hdi, _⟩ := bit_ex (tx := tx) true (errB_R hei)
        have hri := HALL.out i ri mi (by rw [Int.toNat_natCast]; exact hAi) (by have := HTL.out; omega) hdi
        subst hri
        have HRI : Calls Tryz.prog 8 #[pv ad n c 0 k, .slice tad tn tc, .int .i64 (i : Int), .bool true] wr (FT false 0 [] mi.length wr) := HRN.out wr (i : Int) true none mi hUQ hei hdi
        generalize mi.length = sti at HRI
        clear hei hdi hUQ
        go_upto_region 27 with (go_at_call 8; (with_reducible refine HRI.mono ?_); rintro e W8 ⟨q1, qn, qc, rfl, hi8, hb⟩; have hb8 := HBQ.out.trans (Joins.below_le hb HBQ.out.size); have HB8 := hid hb8; clear hb hb8 hi8 HRI)
        clear y3 y4 z0 z1 z2' v0 v1 v2c v3
        obtain ⟨V3, hV3⟩ : ∃ V3, V3 = W8.alloc (.cells #[.bool false, .slice q1 qn qc, .int .i64 0, .int .i64 (sti : Int)] 38) := ⟨_, rfl⟩
        obtain ⟨v8, hv8⟩ : ∃ v8, v8 = W8.heap.size := ⟨_, rfl⟩
        rw [← hV3, ← hv8]
        have hbV : Below W8.heap.size W8 V3 := by rw [hV3]; exact Joins.below_alloc1 W8 _
        have hVV : V3.heap[v8]? = some (.cells #[.bool false, .slice q1 qn qc, .int .i64 0, .int .i64 (sti : Int)] 38 (0, 0)) := by rw [hV3, hv8]; exact heap_alloc_new W8 _
        have HBV3 : Hid (Below V2.heap.size V2 V3) := HB8.out.trans (Joins.below_le hbV HB8.out.size)
        have k0 : V3.cell? ⟨v8, 0, none⟩ = some (.bool false) := (four_cells hVV).1
        have hVQ3 := HV2.out.trans (Joins.below_le HBV3.out HV2.out.size)
        obtain ⟨hUQ, ⟨v0, v1, v2c, v3⟩, _⟩ := HKV.out V3 hVQ3
        clear hV3 hv8 hbV hVV hVQ3 hUQ HB8 hVQ
        go_wp2
        refine ⟨⟨i + 1, by push_cast; rfl, by omega, by omega, HBV3.out⟩, by simp [intOf]; omega⟩
      · have g1 : decide ((i : Int) ≤ (tn : Int)) = false := by simp; omega
        clear hUQ
        go_wp2
        all_goals go_ret
        all_goals exact ⟨rfl, (HCX.out _ (HKV.out _ hVQ).1).1⟩
  · have hokf1 : okf = true := by rw [← hokf, hsome]; rfl
    subst hokf1
    obtain ⟨zw, zc⟩ := zz
    have hcf2 : cf = zc := by rw [← hcf, hsome]; rfl
    have hwf2 : wf = zw := by rw [← hwf, hsome]; rfl
    subst hcf2 hwf2
    have hlc := HCAPS.out _ hsome
    have hk2 := HKK.out
    have hc0 : cf[0]? = some (j : Int) := prog_begin HFN.out (by simp; omega) hdf
    have hlen : 0 < cf.length := by cases cf with | nil => simp at hc0 | cons a b => simp
    have hlen2 : cf.length ≤ 100000 := by have h1 : cf.length = k.toNat := hlc; omega
    have hcd : cf.getD 0 0 = (j : Int) := by rw [List.getD_eq_getElem?_getD, hc0]; rfl
    obtain ⟨fb, fo, hf1, hfn⟩ : ∃ fb fo, f1 = some ⟨fb, fo, none⟩ ∧ fn = cf.length := by
      obtain ⟨_, _, e, h⟩ := (HKV.out V2 HV2.out).2.2
      cases e
      rcases h with h | ⟨b, o, e, _⟩
      · omega
      · exact ⟨b, o, e, rfl⟩
    subst hf1
    have HFL := hid hfn
    clear hfn
    have HF0 : Hid (∀ W, Below V.heap.size V W → W.cell? ⟨fb, fo, none⟩ = some (.int .i64 (j : Int))) := fun W h => by
      obtain ⟨_, _, e, h⟩ := (HKV.out W h).2.2
      cases e
      rcases h with h | ⟨b, o, e, _, h⟩
      · omega
      · cases e
        have := h 0 hlen
        rw [hcd] at this
        exact this
    have HBEF := hid hbefore
    have HAT := hid hat
    have hjT : j ≤ tn := by have := HTL.out; omega
    have hAj : A ≤ j := by rw [Int.toNat_natCast] at hj1; exact hj1
    clear hsome hj1 hj2 hbefore hat hdf hokf hwf hcf s5 HFIRST HCAPS hlc hk2 hc0 hcd
    cases okg
    all_goals go_wp2_with fail
    all_goals clear y3 y4 z0 z1 z2' g0 g1 g2 g3 v0 v1 v2c v3
    all_goals go_loopw [17] (fun v wq => ∃ i : Nat, v = .int .i64 (i : Int) ∧ A ≤ i ∧ i ≤ j ∧ Hid (Below V2.heap.size V2 wq)) (fun v _ => tn + 1 - (intOf v).toNat)
    all_goals first
      | exact ⟨A, rfl, Nat.le_refl _, hAj, Below.refl _ _⟩
      | skip
    all_goals
      obtain ⟨i, rfl, hAi, hi, HBQ⟩ := hrel
      have hVQ := HV2.out.trans (Joins.below_le HBQ.out HV2.out.size)
      obtain ⟨hUQ, ⟨v0, v1, v2c, v3⟩, _⟩ := HKV.out wr hVQ
      obtain ⟨_, ⟨y3, y4⟩, ⟨z0, z1, z2'⟩⟩ := HCX.out wr hUQ
      have hit : i ≤ tn := by omega
      have g1 : decide ((i : Int) ≤ (tn : Int)) = true := by simp; omega
      have a1 : IntKind.i64.wrap ((i : Int) + 1) = (i : Int) + 1 := by rw [wrap_ok _ (by omega) (by omega)]
      have hei : errB (progT t) (0 : Int) k tx.length (i : Int) = 0 := errB_on HEB.out (by omega) (by have := HTL.out; omega)
      obtain ⟨ri, mi, hdi, _⟩ := bit_ex (tx := tx) true (errB_R hei)
      by_cases hij : i < j
      · have hri := HBEF.out i ri mi (by rw [Int.toNat_natCast]; exact hAi) hij hdi
        subst hri
        have HRI : Calls Tryz.prog 8 #[pv ad n c 0 k, .slice tad tn tc, .int .i64 (i : Int), .bool true] wr (FT false 0 [] mi.length wr) := HRN.out wr (i : Int) true none mi hUQ hei hdi
        generalize mi.length = sti at HRI
        clear hei hdi hUQ
        go_upto_region 27 with (go_at_call 8; (with_reducible refine HRI.mono ?_); rintro e W8 ⟨q1, qn, qc, rfl, hi8, hb⟩; have hb8 := HBQ.out.trans (Joins.below_le hb HBQ.out.size); have HB8 := hid hb8; clear hb hb8 hi8 HRI)
        clear y3 y4 z0 z1 z2' v0 v1 v2c v3
        obtain ⟨V3, hV3⟩ : ∃ V3, V3 = W8.alloc (.cells #[.bool false, .slice q1 qn qc, .int .i64 0, .int .i64 (sti : Int)] 38) := ⟨_, rfl⟩
        obtain ⟨v8, hv8⟩ : ∃ v8, v8 = W8.heap.size := ⟨_, rfl⟩
        rw [← hV3, ← hv8]
        have hbV : Below W8.heap.size W8 V3 := by rw [hV3]; exact Joins.below_alloc1 W8 _
        have hVV : V3.heap[v8]? = some (.cells #[.bool false, .slice q1 qn qc, .int .i64 0, .int .i64 (sti : Int)] 38 (0, 0)) := by rw [hV3, hv8]; exact heap_alloc_new W8 _
        have HBV3 : Hid (Below V2.heap.size V2 V3) := HB8.out.trans (Joins.below_le hbV HB8.out.size)
        have k0 : V3.cell? ⟨v8, 0, none⟩ = some (.bool false) := (four_cells hVV).1
        have hVQ3 := HV2.out.trans (Joins.below_le HBV3.out HV2.out.size)
        obtain ⟨hUQ, ⟨v0, v1, v2c, v3⟩, _⟩ := HKV.out V3 hVQ3
        have k1 := HF0.out V3 hVQ3
        have d1 : ((i : Int) == (j : Int)) = false := by simp; omega
        have d2 : decide ((i : Int) = (j : Int)) = false := by simp; omega
        have d3 : decide (i = j) = false := by simp; omega
        have d4 : ¬ i = j := by omega
        have d6 : 0 < fn := by have := HFL.out; omega
        have d5 : decide ((0 : Int) < (fn : Int)) = true := by simp; omega
        clear hV3 hv8 hbV hVV hVQ3 hUQ HB8 hVQ
        go_wp2
        refine ⟨⟨i + 1, by push_cast; rfl, by omega, by omega, HBV3.out⟩, by simp [intOf]; omega⟩
      · have eij : i = j := by omega
        subst eij
        have hri := HAT.out ri mi hdi
        subst hri
        have HRI : Calls Tryz.prog 8 #[pv ad n c 0 k, .slice tad tn tc, .int .i64 (i : Int), .bool true] wr (FT true wf cf mi.length wr) := HRN.out wr (i : Int) true _ mi hUQ hei hdi
        generalize mi.length = sti at HRI
        clear hei hdi hUQ
        go_upto_region 27 with (go_at_call 8; (with_reducible refine HRI.mono ?_); rintro e W8 ⟨q1, qn, qc, rfl, hi8, hb⟩; have hb8 := HBQ.out.trans (Joins.below_le hb HBQ.out.size); have HB8 := hid hb8; have HI8 := hid hi8; clear hb hb8 hi8 HRI)
        clear y3 y4 z0 z1 z2' v0 v1 v2c v3
        obtain ⟨V3, hV3⟩ : ∃ V3, V3 = W8.alloc (.cells #[.bool true, .slice q1 qn qc, .int .i64 wf, .int .i64 (sti : Int)] 38) := ⟨_, rfl⟩
        obtain ⟨v8, hv8⟩ : ∃ v8, v8 = W8.heap.size := ⟨_, rfl⟩
        rw [← hV3, ← hv8]
        have hbV : Below W8.heap.size W8 V3 := by rw [hV3]; exact Joins.below_alloc1 W8 _
        have hVV : V3.heap[v8]? = some (.cells #[.bool true, .slice q1 qn qc, .int .i64 wf, .int .i64 (sti : Int)] 38 (0, 0)) := by rw [hV3, hv8]; exact heap_alloc_new W8 _
        have HBV3 : Hid (Below V2.heap.size V2 V3) := HB8.out.trans (Joins.below_le hbV HB8.out.size)
        obtain ⟨k0, k1, k2, k3⟩ := four_cells hVV
        have hVQ3 := HV2.out.trans (Joins.below_le HBV3.out HV2.out.size)
        obtain ⟨hUQ, ⟨v0, v1, v2c, v3⟩, hIF⟩ := HKV.out V3 hVQ3
        have k4 := HF0.out V3 hVQ3
        have d1 : ((i : Int) == (i : Int)) = true := by simp
        have d6 : 0 < fn := by have := HFL.out; omega
        have d5 : decide ((0 : Int) < (fn : Int)) = true := by simp; omega
        have HSF := find15 (ok := true) (wh := wf) (st := (sti : Int)) (st2 := (st : Int)) (HI8.out.below hbV) hIF hlen2
        have HWF := hid (HCX.out V3 hUQ).1
        clear hV3 hv8 hbV hVV hVQ3 hUQ HB8 hVQ HI8 hIF
        go_wp2_with (go_at_call 9; (with_reducible refine HSF.mono ?_); rintro e W9 ⟨rfl, hb9⟩; have HB9 := hid hb9; clear hb9 HSF)
        all_goals go_ret
        all_goals exact ⟨rfl, HWF.out.trans (Joins.below_le HB9.out HWF.out.size)⟩
end Go.Proofs.YtpckbpimgoljoaaGreat
