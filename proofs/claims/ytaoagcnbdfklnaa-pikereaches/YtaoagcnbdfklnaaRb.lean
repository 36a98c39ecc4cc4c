/- HELPERS: the law PikeSteps. -/
import Derived.Test.YtaoagcnbdfklnaaRa
namespace Go.Proofs.Ytaoagcnbdfklnaa
open Go.RowKit Go.Lk
set_option linter.unusedVariables false
set_option linter.unusedSimpArgs false
theorem cell_blk {w : World} {b o : Nat} {v : Value} (h : w.cell? ⟨b, o, none⟩ = some v) : w.heap[b]? = some (w.heap[b]'(lt_of_cell h)) := Array.getElem?_eq_getElem _
theorem RunA.ok {l : List In} {tx : List Int} {s k a : Int} {anch : Bool} {w w' : World} {e : Ending} (h : RunA l tx s k a anch w e w') (he : errR l s k tx.length a = 0) : FR k.toNat (lockRun (prOf l tx s.toNat k.toNat) tx.length a.toNat anch) w e w' := by
  rcases h with ⟨_, h2⟩ | ⟨h1, _⟩
  · exact h2
  · exact absurd he h1
theorem RunA.err {l : List In} {tx : List Int} {s k a E : Int} {anch : Bool} {w w' : World} {e : Ending} (h : RunA l tx s k a anch w e w') (hE : errR l s k tx.length a = E) (he : E ≠ 0) : FE E w e w' := by
  rcases h with ⟨h1, _⟩ | ⟨_, h2⟩
  · exact absurd (hE.symm.trans h1) he
  · rw [hE] at h2; exact h2
set_option maxRecDepth 100000 in
set_option maxHeartbeats 8000000 in
theorem steps5_no {w : World} {ad tad : Option Addr} {n c tn tc : Nat} {s k a : Int} {anch : Bool} {l : List In} {tx : List Int} (hP : PI w w.heap.size ad n l) (hT : TextAt w.heap.size w tad tn tx) (hm : mayQ l s k tn a = false) :
    Calls Try.prog 5 #[pv ad n c s k, av tad tn tc a anch] w fun e w' => e = .returned (.bool true) ∧ Below w.heap.size w w' := by
  obtain ⟨U, hU⟩ : ∃ U, U = (w.alloc (.cells #[.slice ad n c, .int .i64 s, .int .i64 k] 27)).alloc (.cells #[.slice tad tn tc, .int .i64 a, .bool anch] 30) := ⟨_, rfl⟩
  have hb : Below w.heap.size w U := by rw [hU]; exact below_two' w _ _
  have hX : U.heap[w.heap.size]? = some (.cells #[.slice ad n c, .int .i64 s, .int .i64 k] 27 (0, 0)) := by rw [hU]; exact (heap_alloc_old _ _ (by simp)).trans (heap_alloc_new w _)
  have hY : U.heap[w.heap.size + 1]? = some (.cells #[.slice tad tn tc, .int .i64 a, .bool anch] 30 (0, 0)) := by rw [hU]; exact two_new w _ _ _
  obtain ⟨x, hx⟩ : ∃ x, x = w.heap.size := ⟨_, rfl⟩
  obtain ⟨y, hy⟩ : ∃ y, y = w.heap.size + 1 := ⟨_, rfl⟩
  have hyU : w.heap.size + 1 < U.heap.size := (Array.getElem?_eq_some_iff.1 hY).1
  have hPU := hP.kept hb hb.size
  have hTU : TextAt U.heap.size U tad tn tx := (hT.below hb).mono hb.size
  have htl : tn = tx.length := hT.1
  rw [← hx] at hX hb
  rw [← hy] at hY hyU
  have HB := hid hb
  have HX := hid hX
  have HY := hid hY
  have HXE := hid hx
  have hxU : x < U.heap.size := by omega
  have HPU := hid hPU
  have HTU := hid hTU
  have HTL := hid htl
  have HAW := awake7 U
  have HCX : Hid (∀ W, Below U.heap.size U W → (W.cell? ⟨x, 0, none⟩ = some (.slice ad n c) ∧ W.cell? ⟨x, 1, none⟩ = some (.int .i64 s) ∧ W.cell? ⟨x, 2, none⟩ = some (.int .i64 k)) ∧ (W.cell? ⟨y, 0, none⟩ = some (.slice tad tn tc) ∧ W.cell? ⟨y, 1, none⟩ = some (.int .i64 a) ∧ W.cell? ⟨y, 2, none⟩ = some (.bool anch))) := fun W h => ⟨three_cells ((h.block x hxU).trans hX), three_cells ((h.block y hyU).trans hY)⟩
  have HMY : Hid (∀ W, Below U.heap.size U W → Calls Try.prog 18 #[pv ad n c s k, av tad tn tc a anch] W fun e w' => e = .returned (.bool (mayQ l s k tn a)) ∧ Below U.heap.size U w') := fun W h => (may18 (hPU.kept h h.size)).mono fun e w' h2 => ⟨h2.1, h.trans (Joins.below_le h2.2 h.size)⟩
  have HRN : Hid (∀ W (a' : Int) (anch' : Bool), Below U.heap.size U W → Calls Try.prog 10 #[pv ad n c s k, .slice tad tn tc, .int .i64 a', .bool anch'] W (RunA l tx s k a' anch' W)) := fun W a' anch' h => run10 (hPU.kept h h.size) ((hTU.below h).mono h.size)
  clear hP hPU hb hX hY hT hTU htl
  have HMQ := hid hm
  have HER : Hid (errR l s k tx.length a ≠ 0) := fun e => by rw [errR_may, ← HTL.out, hm] at e; cases e
  clear hm
  generalize hE : errR l s k tx.length a = E at HER
  have HE := hid hE
  clear hE
  have b1 : (E != 0) = true := by simpa using HER.out
  go_enter Try.func5, Try.ntmps5
  go_upto_region 1 with fail
  rw [← hU, ← hy, ← hx]
  clear hU hx hy
  go_wp2_with (first | (go_at_call 7; (with_reducible refine HAW.mono ?_); rintro e w1 ⟨rfl, hb1⟩; have HB1 := hid hb1; obtain ⟨⟨p0, p1, p2⟩, ⟨q0, q1, q2⟩⟩ := HCX.out w1 hb1; have HM := HMY.out w1 hb1; clear hb1 HAW) | (go_at_call 18; (with_reducible refine HM.mono ?_); rintro e w2 ⟨he, hb2⟩; rw [HMQ.out] at he; subst he; have HB2 := hid hb2; clear p0 p1 p2 q0 q1 q2; obtain ⟨⟨p0, p1, p2⟩, ⟨q0, q1, q2⟩⟩ := HCX.out w2 hb2; have HR := HRN.out w2 a false hb2; clear hb2 HM) | (go_at_call 10; (with_reducible refine HR.mono ?_); rintro e w3 hra; have HFE := RunA.err hra HE.out HER.out; obtain ⟨hb3, rfl⟩ := HFE; have HB3 := hid hb3; have hc3 := HB2.out.trans (Joins.below_le hb3 HB2.out.size); clear p0 p1 p2 q0 q1 q2; obtain ⟨⟨p0, p1, p2⟩, ⟨q0, q1, q2⟩⟩ := HCX.out w3 hc3; clear hra hb3 hc3 HR))
  all_goals go_ret
  all_goals exact ⟨rfl, by rw [← HXE.out]; exact HB.out.trans (Joins.below_le ((HB2.out.trans (Joins.below_le HB3.out HB2.out.size)).alloc (HB2.out.trans (Joins.below_le HB3.out HB2.out.size)).size _) (by omega))⟩
set_option maxRecDepth 100000 in
set_option maxHeartbeats 8000000 in
theorem steps5_long {w : World} {ad tad : Option Addr} {n c tn tc : Nat} {s k a : Int} {anch : Bool} {l : List In} {tx : List Int} (hP : PI w w.heap.size ad n l) (hT : TextAt w.heap.size w tad tn tx) (hm : mayQ l s k tn a = true) (hl : 200 < tn) :
    Calls Try.prog 5 #[pv ad n c s k, av tad tn tc a anch] w fun e w' => e = .returned (.bool true) ∧ Below w.heap.size w w' := by
  obtain ⟨U, hU⟩ : ∃ U, U = (w.alloc (.cells #[.slice ad n c, .int .i64 s, .int .i64 k] 27)).alloc (.cells #[.slice tad tn tc, .int .i64 a, .bool anch] 30) := ⟨_, rfl⟩
  have hb : Below w.heap.size w U := by rw [hU]; exact below_two' w _ _
  have hX : U.heap[w.heap.size]? = some (.cells #[.slice ad n c, .int .i64 s, .int .i64 k] 27 (0, 0)) := by rw [hU]; exact (heap_alloc_old _ _ (by simp)).trans (heap_alloc_new w _)
  have hY : U.heap[w.heap.size + 1]? = some (.cells #[.slice tad tn tc, .int .i64 a, .bool anch] 30 (0, 0)) := by rw [hU]; exact two_new w _ _ _
  obtain ⟨x, hx⟩ : ∃ x, x = w.heap.size := ⟨_, rfl⟩
  obtain ⟨y, hy⟩ : ∃ y, y = w.heap.size + 1 := ⟨_, rfl⟩
  have hyU : w.heap.size + 1 < U.heap.size := (Array.getElem?_eq_some_iff.1 hY).1
  have hPU := hP.kept hb hb.size
  have hTU : TextAt U.heap.size U tad tn tx := (hT.below hb).mono hb.size
  have htl : tn = tx.length := hT.1
  rw [← hx] at hX hb
  rw [← hy] at hY hyU
  have HB := hid hb
  have HX := hid hX
  have HY := hid hY
  have HXE := hid hx
  have hxU : x < U.heap.size := by omega
  have HPU := hid hPU
  have HTU := hid hTU
  have HTL := hid htl
  have HAW := awake7 U
  have HCX : Hid (∀ W, Below U.heap.size U W → (W.cell? ⟨x, 0, none⟩ = some (.slice ad n c) ∧ W.cell? ⟨x, 1, none⟩ = some (.int .i64 s) ∧ W.cell? ⟨x, 2, none⟩ = some (.int .i64 k)) ∧ (W.cell? ⟨y, 0, none⟩ = some (.slice tad tn tc) ∧ W.cell? ⟨y, 1, none⟩ = some (.int .i64 a) ∧ W.cell? ⟨y, 2, none⟩ = some (.bool anch))) := fun W h => ⟨three_cells ((h.block x hxU).trans hX), three_cells ((h.block y hyU).trans hY)⟩
  have HMY : Hid (∀ W, Below U.heap.size U W → Calls Try.prog 18 #[pv ad n c s k, av tad tn tc a anch] W fun e w' => e = .returned (.bool (mayQ l s k tn a)) ∧ Below U.heap.size U w') := fun W h => (may18 (hPU.kept h h.size)).mono fun e w' h2 => ⟨h2.1, h.trans (Joins.below_le h2.2 h.size)⟩
  have HRN : Hid (∀ W (a' : Int) (anch' : Bool), Below U.heap.size U W → Calls Try.prog 10 #[pv ad n c s k, .slice tad tn tc, .int .i64 a', .bool anch'] W (RunA l tx s k a' anch' W)) := fun W a' anch' h => run10 (hPU.kept h h.size) ((hTU.below h).mono h.size)
  clear hP hPU hb hX hY hT hTU htl
  have HMQ := hid hm
  have HER : Hid (errR l s k tx.length a = 0) := by show _ = _; rw [errR_may, ← HTL.out]; exact hm
  clear hm
  generalize hr : lockRun (prOf l tx s.toNat k.toNat) tx.length a.toNat false = rf
  have HRF := hid hr
  clear hr
  have b1 : decide ((tn : Int) > 200) = true := by simp; omega
  have b1' : decide ((200 : Int) < (tn : Int)) = true := by simp; omega
  go_enter Try.func5, Try.ntmps5
  go_upto_region 1 with fail
  rw [← hU, ← hy, ← hx]
  clear hU hx hy
  go_wp2_with (first | (go_at_call 7; (with_reducible refine HAW.mono ?_); rintro e w1 ⟨rfl, hb1⟩; have HB1 := hid hb1; obtain ⟨⟨p0, p1, p2⟩, ⟨q0, q1, q2⟩⟩ := HCX.out w1 hb1; have HM := HMY.out w1 hb1; clear hb1 HAW) | (go_at_call 18; (with_reducible refine HM.mono ?_); rintro e w2 ⟨he, hb2⟩; rw [HMQ.out] at he; subst he; have HB2 := hid hb2; clear p0 p1 p2 q0 q1 q2; obtain ⟨⟨p0, p1, p2⟩, ⟨q0, q1, q2⟩⟩ := HCX.out w2 hb2; have HR := HRN.out w2 a false hb2; clear hb2 HM) | (go_at_call 10; (with_reducible refine HR.mono ?_); rintro e w3 hra; have HFR := RunA.ok hra HER.out; rw [HRF.out] at HFR; obtain ⟨c1, c2, c3, wh, rfl, hfv, hb3⟩ := HFR.cells; have HFV := hid hfv; have HB3 := hid hb3; have hc3 := HB2.out.trans (Joins.below_le hb3 HB2.out.size); have HC3 := hid hc3; clear p0 p1 p2 q0 q1 q2; obtain ⟨⟨p0, p1, p2⟩, ⟨q0, q1, q2⟩⟩ := HCX.out w3 hc3; have hy3 : y < w3.heap.size := (by have := hc3.size; omega); have hx3 : x < w3.heap.size := (by have := hc3.size; omega); clear hra HFR hb3 hc3 hfv HR))
  all_goals go_ret
  all_goals exact ⟨rfl, by rw [← HXE.out]; exact HB.out.trans (Joins.below_le (HC3.out.alloc HC3.out.size _) (by omega))⟩
theorem mayQ_parts {l : List In} {s k a : Int} {n : Nat} (h : mayQ l s k n a = true) : ∃ S K A : Nat, s = S ∧ k = K ∧ a = A ∧ A ≤ n ∧ mayB l (S : Int) (K : Int) = true := by
  simp only [mayQ, Bool.and_eq_true, decide_eq_true_eq] at h
  obtain ⟨⟨⟨hm, h1⟩, h2⟩, h3⟩ := h
  have hmo := may_ok hm
  obtain ⟨S, rfl⟩ := Int.eq_ofNat_of_zero_le hmo.2.1
  obtain ⟨K, rfl⟩ := Int.eq_ofNat_of_zero_le (show 0 ≤ k by omega)
  obtain ⟨A, rfl⟩ := Int.eq_ofNat_of_zero_le h2
  exact ⟨S, K, A, rfl, rfl, rfl, by omega, hm⟩
theorem errR_ok {l : List In} {S K i n : Nat} (h : mayB l (S : Int) (K : Int) = true) (hn : n ≤ 4194304) (hi : i ≤ n) : errR l (S : Int) (K : Int) n (i : Int) = 0 := by
  rw [errR_may]
  simp [mayQ, h, hn]
  omega
set_option maxRecDepth 100000 in
set_option maxHeartbeats 8000000 in
theorem steps5_loop {w : World} {ad tad : Option Addr} {n c tn tc S K A : Nat} {anch : Bool} {l : List In} {tx : List Int} (hP : PI w w.heap.size ad n l) (hT : TextAt w.heap.size w tad tn tx) (hmay : mayB l (S : Int) (K : Int) = true) (hA : A ≤ tn) (hl : tn ≤ 200) :
    Calls Try.prog 5 #[pv ad n c (S : Int) (K : Int), av tad tn tc (A : Int) anch] w fun e w' => e = .returned (.bool true) ∧ Below w.heap.size w w' := by
  obtain ⟨s, hs⟩ : ∃ s : Int, s = S := ⟨_, rfl⟩
  obtain ⟨k, hk⟩ : ∃ k : Int, k = K := ⟨_, rfl⟩
  obtain ⟨a, ha⟩ : ∃ a : Int, a = A := ⟨_, rfl⟩
  have hm : mayQ l s k tn a = true := by rw [hs, hk, ha]; simp [mayQ, hmay]; omega
  rw [← hs, ← hk, ← ha]
  have hln := hP.len
  obtain ⟨U, hU⟩ : ∃ U, U = (w.alloc (.cells #[.slice ad n c, .int .i64 s, .int .i64 k] 27)).alloc (.cells #[.slice tad tn tc, .int .i64 a, .bool anch] 30) := ⟨_, rfl⟩
  have hb : Below w.heap.size w U := by rw [hU]; exact below_two' w _ _
  have hX : U.heap[w.heap.size]? = some (.cells #[.slice ad n c, .int .i64 s, .int .i64 k] 27 (0, 0)) := by rw [hU]; exact (heap_alloc_old _ _ (by simp)).trans (heap_alloc_new w _)
  have hY : U.heap[w.heap.size + 1]? = some (.cells #[.slice tad tn tc, .int .i64 a, .bool anch] 30 (0, 0)) := by rw [hU]; exact two_new w _ _ _
  obtain ⟨x, hx⟩ : ∃ x, x = w.heap.size := ⟨_, rfl⟩
  obtain ⟨y, hy⟩ : ∃ y, y = w.heap.size + 1 := ⟨_, rfl⟩
  have hyU : w.heap.size + 1 < U.heap.size := (Array.getElem?_eq_some_iff.1 hY).1
  have hPU := hP.kept hb hb.size
  have hTU : TextAt U.heap.size U tad tn tx := (hT.below hb).mono hb.size
  have htl : tn = tx.length := hT.1
  rw [← hx] at hX hb
  rw [← hy] at hY hyU
  have HB := hid hb
  have HX := hid hX
  have HY := hid hY
  have HXE := hid hx
  have hxU : x < U.heap.size := by omega
  have HPU := hid hPU
  have HTU := hid hTU
  have HTL := hid htl
  have HAW := awake7 U
  have HCX : Hid (∀ W, Below U.heap.size U W → (W.cell? ⟨x, 0, none⟩ = some (.slice ad n c) ∧ W.cell? ⟨x, 1, none⟩ = some (.int .i64 s) ∧ W.cell? ⟨x, 2, none⟩ = some (.int .i64 k)) ∧ (W.cell? ⟨y, 0, none⟩ = some (.slice tad tn tc) ∧ W.cell? ⟨y, 1, none⟩ = some (.int .i64 a) ∧ W.cell? ⟨y, 2, none⟩ = some (.bool anch))) := fun W h => ⟨three_cells ((h.block x hxU).trans hX), three_cells ((h.block y hyU).trans hY)⟩
  have HMY : Hid (∀ W, Below U.heap.size U W → Calls Try.prog 18 #[pv ad n c s k, av tad tn tc a anch] W fun e w' => e = .returned (.bool (mayQ l s k tn a)) ∧ Below U.heap.size U w') := fun W h => (may18 (hPU.kept h h.size)).mono fun e w' h2 => ⟨h2.1, h.trans (Joins.below_le h2.2 h.size)⟩
  have HRN : Hid (∀ W (a' : Int) (anch' : Bool), Below U.heap.size U W → Calls Try.prog 10 #[pv ad n c s k, .slice tad tn tc, .int .i64 a', .bool anch'] W (RunA l tx s k a' anch' W)) := fun W a' anch' h => run10 (hPU.kept h h.size) ((hTU.below h).mono h.size)
  clear hP hPU hb hX hY hT hTU htl
  have HMQ := hid hm
  have HER : Hid (errR l s k tx.length a = 0) := by show _ = _; rw [errR_may, ← HTL.out]; exact hm
  clear hm
  generalize hr : lockRun (prOf l tx s.toNat k.toNat) tx.length a.toNat false = rf
  have HRF := hid hr
  clear hr
  subst hs hk ha
  have HMB := hid hmay
  have HLN := hid hln
  have hPok := pr_ok (tx := tx) hmay
  have HPOK := hid hPok
  have hrf : lockRun (prOf l tx S K) tx.length A false = rf := HRF.out
  have HRF2 := hid hrf
  have hst := lockRun_steps (P := prOf l tx S K) hPok tx.length A false
  rw [hrf] at hst
  have HST := hid hst
  have hl20 : l.length ≤ 20000 := (may_ok hmay).1
  have HSTI : Hid (∀ i, (lockRun (prOf l tx S K) tx.length i true).2 ≥ 1 ∧ (lockRun (prOf l tx S K) tx.length i true).2 ≤ l.length * (tx.length - i + 1)) := fun i => ⟨(lockRun_steps (P := prOf l tx S K) hPok tx.length i true).1, (lockRun_steps (P := prOf l tx S K) hPok tx.length i true).2.1⟩
  have hn20 : n ≤ 20000 := by omega
  have hmul : ∀ j, n * (tn - j + 1) ≤ 20000 * 201 := fun j => Nat.mul_le_mul hn20 (by omega)
  have hst1 : 1 ≤ rf.2 := hst.1
  have hst2 : rf.2 ≤ n * (tn - A + 1) := by have := hst.2.1; rw [hln, HTL.out]; exact this
  have HMUL := hid hmul
  have hmA := hmul A
  clear hmay hln hPok hrf hst hl20 hmul
  have b1 : decide ((tn : Int) > 200) = false := by simp; omega
  have b1' : decide ((200 : Int) < (tn : Int)) = false := by simp; omega
  have e1 : IntKind.i64.wrap ((tn : Int) - (A : Int)) = ((tn - A : Nat) : Int) := by rw [wrap_ok _ (by omega) (by omega)]; omega
  have e2 : IntKind.i64.wrap (((tn - A : Nat) : Int) + 1) = ((tn - A + 1 : Nat) : Int) := by rw [wrap_ok _ (by omega) (by omega)]; omega
  have e3 : IntKind.i64.wrap ((n : Int) * ((tn - A + 1 : Nat) : Int)) = ((n * (tn - A + 1) : Nat) : Int) := by
    rw [← Int.natCast_mul]
    exact wrap_ok _ (by omega) (by omega)
  generalize hpr : n * (tn - A + 1) = pr at e3 hst2 hmA
  generalize hd1 : tn - A + 1 = dd at e2 e3
  generalize hd0 : tn - A = d0 at e1 e2
  have b4 : decide ((rf.2 : Int) < 1) = false := by simp; omega
  have b5 : decide ((rf.2 : Int) > (pr : Int)) = false := by simp; omega
  have b5' : decide ((pr : Int) < (rf.2 : Int)) = false := by simp; omega
  have b5n : decide (pr < rf.2) = false := by simp; omega
  have b5m : ¬ pr < rf.2 := by omega
  clear hpr hd1 hd0 hst1 hst2 hmA
  go_enter Try.func5, Try.ntmps5
  go_upto_region 1 with fail
  rw [← hU, ← hy, ← hx]
  clear hU hx hy
  go_upto_region 7 with (first | (go_at_call 7; (with_reducible refine HAW.mono ?_); rintro e w1 ⟨rfl, hb1⟩; have HB1 := hid hb1; obtain ⟨⟨p0, p1, p2⟩, ⟨q0, q1, q2⟩⟩ := HCX.out w1 hb1; have HM := HMY.out w1 hb1; clear hb1 HAW) | (go_at_call 18; (with_reducible refine HM.mono ?_); rintro e w2 ⟨he, hb2⟩; rw [HMQ.out] at he; subst he; have HB2 := hid hb2; clear p0 p1 p2 q0 q1 q2; obtain ⟨⟨p0, p1, p2⟩, ⟨q0, q1, q2⟩⟩ := HCX.out w2 hb2; have HR := HRN.out w2 (A : Int) false hb2; clear hb2 HM) | (go_at_call 10; (with_reducible refine HR.mono ?_); rintro e w3 hra; have HFR := RunA.ok hra HER.out; rw [HRF.out] at HFR; obtain ⟨c1, c2, c3, wh, rfl, hfv, hb3⟩ := HFR.cells; have HFV := hid hfv; have HB3 := hid hb3; have hc3 := HB2.out.trans (Joins.below_le hb3 HB2.out.size); have HC3 := hid hc3; clear p0 p1 p2 q0 q1 q2; obtain ⟨⟨p0, p1, p2⟩, ⟨q0, q1, q2⟩⟩ := HCX.out w3 hc3; have hy3 : y < w3.heap.size := (by have := hc3.size; omega); have hx3 : x < w3.heap.size := (by have := hc3.size; omega); clear hra HFR hb3 hc3 hfv HR))
  clear HMY
  obtain ⟨V, hV⟩ : ∃ V, V = w3.alloc (.cells #[.bool rf.1.isSome, .slice c1 c2 c3, .int .i64 wh, .int .i64 (rf.2 : Int)] 33) := ⟨_, rfl⟩
  have hbV : Below w3.heap.size w3 V := by rw [hV]; exact Joins.below_alloc1 w3 _
  have hZ : V.heap[w3.heap.size]? = some (.cells #[.bool rf.1.isSome, .slice c1 c2 c3, .int .i64 wh, .int .i64 (rf.2 : Int)] 33 (0, 0)) := by rw [hV]; exact heap_alloc_new w3 _
  have hzV : w3.heap.size < V.heap.size := (Array.getElem?_eq_some_iff.1 hZ).1
  have HVV : Hid (Below U.heap.size U V) := HC3.out.trans (Joins.below_le hbV HC3.out.size)
  obtain ⟨z, hz⟩ : ∃ z, z = w3.heap.size := ⟨_, rfl⟩
  have HFVV : Hid (FV V w2.heap.size K c1 c2 c3 wh rf.1) := HFV.out.kept hbV
  have HKV : Hid (∀ W, Below V.heap.size V W → Below U.heap.size U W ∧ (W.cell? ⟨z, 0, none⟩ = some (.bool rf.1.isSome) ∧ W.cell? ⟨z, 1, none⟩ = some (.slice c1 c2 c3) ∧ W.cell? ⟨z, 2, none⟩ = some (.int .i64 wh) ∧ W.cell? ⟨z, 3, none⟩ = some (.int .i64 (rf.2 : Int))) ∧ FV W w2.heap.size K c1 c2 c3 wh rf.1) := fun W h => by
    have hZW : W.heap[z]? = some (.cells #[.bool rf.1.isSome, .slice c1 c2 c3, .int .i64 wh, .int .i64 (rf.2 : Int)] 33 (0, 0)) := by rw [hz]; exact (h.block _ hzV).trans hZ
    exact ⟨HVV.out.trans (Joins.below_le h HVV.out.size), ⟨Joins.cell_of_block hZW 0, Joins.cell_of_block hZW 1, Joins.cell_of_block hZW 2, Joins.cell_of_block hZW 3⟩, HFVV.out.kept h⟩
  rw [← hV, ← hz]
  clear hV hbV hZ hzV hz p0 p1 p2 q0 q1 q2 hy3 hx3 HFV HB3 HC3
  obtain ⟨hUV, ⟨z0, z1, z2, z3⟩, _⟩ := HKV.out V (Below.refl _ _)
  obtain ⟨⟨p0, p1, p2⟩, ⟨q0, q1, q2⟩⟩ := HCX.out V hUV
  clear hUV
  go_wp2_with fail
  clear p0 p1 p2 q0 q1 q2 z0 z1 z2 z3
  go_loopw [10] (fun v wq => ∃ i : Nat, v = .int .i64 (i : Int) ∧ A ≤ i ∧ i ≤ tn + 1 ∧ Hid (Below V.heap.size V wq) ∧ Hid (∀ j, A ≤ j → j < i → (lockRun (prOf l tx S K) tx.length j true).1 = none)) (fun v _ => tn + 1 - (intOf v).toNat)
  case atStart => exact ⟨A, rfl, Nat.le_refl _, by omega, Below.refl _ _, fun j h1 h2 => by omega⟩
  case round =>
    obtain ⟨i, rfl, hAi, hi, HBQ, HNO⟩ := hrel
    obtain ⟨hUQ, ⟨z0, z1, z2, z3⟩, _⟩ := HKV.out wr HBQ.out
    obtain ⟨⟨p0, p1, p2⟩, ⟨q0, q1, q2⟩⟩ := HCX.out wr hUQ
    by_cases hit : i ≤ tn
    · have g1 : decide ((i : Int) ≤ (tn : Int)) = true := by simp; omega
      have a1 : IntKind.i64.wrap ((i : Int) + 1) = (i : Int) + 1 := by rw [wrap_ok _ (by omega) (by omega)]
      have HER2 : Hid (errR l (S : Int) (K : Int) tx.length (i : Int) = 0) := errR_ok HMB.out (by have := HTL.out; omega) (by have := HTL.out; omega)
      have HRI := HRN.out wr (i : Int) true hUQ
      have hsi := HSTI.out i
      generalize hrg : lockRun (prOf l tx S K) tx.length i true = rg at hsi
      have HRG := hid hrg
      have hg2 : rg.2 ≤ n * (tn - i + 1) := by have := hsi.2; rw [HLN.out, HTL.out]; exact this
      have hg1 : 1 ≤ rg.2 := hsi.1
      have hmi := HMUL.out i
      have f1 : IntKind.i64.wrap ((tn : Int) - (i : Int)) = ((tn - i : Nat) : Int) := by rw [wrap_ok _ (by omega) (by omega)]; omega
      have f2 : IntKind.i64.wrap (((tn - i : Nat) : Int) + 1) = ((tn - i + 1 : Nat) : Int) := by rw [wrap_ok _ (by omega) (by omega)]; omega
      have f3 : IntKind.i64.wrap ((n : Int) * ((tn - i + 1 : Nat) : Int)) = ((n * (tn - i + 1) : Nat) : Int) := by
        rw [← Int.natCast_mul]
        exact wrap_ok _ (by omega) (by omega)
      generalize hpr : n * (tn - i + 1) = pr2 at f3 hg2 hmi
      generalize hd1 : tn - i + 1 = dd2 at f2 f3
      generalize hd0 : tn - i = d02 at f1 f2
      have b6 : decide ((rg.2 : Int) < 1) = false := by simp; omega
      have b7 : decide ((rg.2 : Int) > (pr2 : Int)) = false := by simp; omega
      have b7' : decide ((pr2 : Int) < (rg.2 : Int)) = false := by simp; omega
      have b7n : decide (pr2 < rg.2) = false := by simp; omega
      have b7m : ¬ pr2 < rg.2 := by omega
      clear hpr hd1 hd0 hg2 hg1 hmi hsi hUQ hrg
      go_upto_region 15 with (go_at_call 10; (with_reducible refine HRI.mono ?_); rintro e w5 hra; have HFR := RunA.ok hra HER2.out; have HFR : FR K rg wr e w5 := (by have h9 := HFR; rw [show (((i : Nat) : Int)).toNat = i from rfl, show ((S : Int)).toNat = S from rfl, show ((K : Int)).toNat = K from rfl, HRG.out] at h9; exact h9); obtain ⟨g1', g2', g3', wg, rfl, hfv, hb5⟩ := HFR.cells; have HFV5 := hid hfv; have hb5' := HBQ.out.trans (Joins.below_le hb5 HBQ.out.size); have HB5 := hid hb5'; clear p0 p1 p2 q0 q1 q2 z0 z1 z2 z3; obtain ⟨hUQ, ⟨z0, z1, z2, z3⟩, hff⟩ := HKV.out w5 hb5'; obtain ⟨⟨p0, p1, p2⟩, ⟨q0, q1, q2⟩⟩ := HCX.out w5 hUQ; have hz5 : z < w5.heap.size := (Array.getElem?_eq_some_iff.1 (cell_blk z0)).1; have hx5 : x < w5.heap.size := (by have := hUQ.size; omega); have hy5 : y < w5.heap.size := (by have := hUQ.size; omega); clear hra hb5 hb5' hfv HRI hff)
      obtain ⟨V5, hV5⟩ : ∃ V5, V5 = w5.alloc (.cells #[.bool rg.1.isSome, .slice g1' g2' g3', .int .i64 wg, .int .i64 (rg.2 : Int)] 33) := ⟨_, rfl⟩
      have hbV5 : Below w5.heap.size w5 V5 := by rw [hV5]; exact Joins.below_alloc1 w5 _
      have hZ5 : V5.heap[w5.heap.size]? = some (.cells #[.bool rg.1.isSome, .slice g1' g2' g3', .int .i64 wg, .int .i64 (rg.2 : Int)] 33 (0, 0)) := by rw [hV5]; exact heap_alloc_new w5 _
      have HBV5 : Hid (Below V.heap.size V V5) := HB5.out.trans (Joins.below_le hbV5 HB5.out.size)
      have HFG : Hid (FV V5 wr.heap.size K g1' g2' g3' wg rg.1) := HFV5.out.kept hbV5
      clear p0 p1 p2 q0 q1 q2 z0 z1 z2 z3
      obtain ⟨hUQ5, ⟨z0, z1, z2, z3⟩, hff⟩ := HKV.out V5 HBV5.out
      have HFF := hid hff
      have k0 := Joins.cell_of_block hZ5 0
      have k1 := Joins.cell_of_block hZ5 1
      have k2 := Joins.cell_of_block hZ5 2
      obtain ⟨zz, hzz⟩ : ∃ zz, zz = w5.heap.size := ⟨_, rfl⟩
      rw [← hV5, ← hzz]
      rw [← hzz] at k0 k1 k2
      have HUQ5 := hid hUQ5
      clear hV5 hbV5 hZ5 hff hzz hUQ5 hz5 hx5 hy5 HFV5 b6 b7 b7' b7n b7m f1 f2 f3
      cases hsome : rg.1.isSome
      · rw [hsome] at k0
        have HN : Hid (rg.1 = none) := by cases h9 : rg.1 with | none => rfl | some y => rw [h9] at hsome; cases hsome
        clear hsome
        go_wp2
        refine ⟨⟨i + 1, by push_cast; rfl, by omega, by omega, HBV5.out, fun j h1 h2 => ?_⟩, by simp [intOf]; omega⟩
        by_cases ej : j = i
        · subst ej; rw [HRG.out]; exact HN.out
        · exact HNO.out j h1 (by omega)
      · rw [hsome] at k0
        have heq : rf.1 = rg.1 := by
          have h1 := lock_least (P := prOf l tx S K) HPOK.out (act_end l tx) (a := A) (b := i) hAi (by have := HTL.out; omega) (fun j h2 h3 => HNO.out j h2 h3) (by rw [HRG.out]; exact hsome)
          rw [HRF2.out, HRG.out] at h1
          exact h1
        rw [heq, hsome] at z0
        have hi1 := HFF.out.ints
        have hi2 := HFG.out.ints
        rw [heq] at hi1
        have hlc : (capsOf rg.1).length ≤ 140737488351232 := by
          have h8 := (lockRun_steps (P := prOf l tx S K) HPOK.out tx.length i true).2.2
          rw [HRG.out] at h8
          cases h9 : rg.1 with
          | none => simp [capsOf]
          | some y => simp only [capsOf]; rw [h8 y h9]; have := (may_ok HMB.out).2.2.2.2.1; show K ≤ _; omega
        have HSM := same14 (capsOf rg.1) (capsOf rg.1) (.slice c1 c2 c3) (.slice g1' g2' g3') V5 hi1.1 hi2.1 hlc hlc
        rw [show decide (capsOf rg.1 = capsOf rg.1) = true by simp] at HSM
        have hw : wh = wg := hi1.2.1.trans hi2.2.1.symm
        have bw : (wh == wg) = true := by simpa using hw
        have HW := hid hw
        clear hi1 hi2 hlc heq hsome hw
        go_wp2_with (go_at_call 14; (with_reducible refine HSM.mono ?_); rintro e w6 ⟨rfl, qq, hw6⟩; subst hw6; clear HSM)
        all_goals go_ret
        all_goals refine ⟨ret_bool (by first | rfl | (simp [HW.out]; done)), by rw [← HXE.out]; exact HB.out.trans (Joins.below_le (below_drewN' HUQ5.out _) (by omega))⟩
    · have g1 : decide ((i : Int) ≤ (tn : Int)) = false := by simp; omega
      have hnone : rf.1 = none := by
        cases hc : rf.1 with
        | none => rfl
        | some y =>
          exfalso
          have h1 : (lockRun (prOf l tx S K) tx.length A false).1.isSome = true := by rw [HRF2.out, hc]; rfl
          obtain ⟨b, h2, h3, _, h4⟩ := (lock_reach HPOK.out (act_end l tx) (by have := HTL.out; omega)).1 h1
          have h5 := (lock_reach HPOK.out (anch := true) (a := b) (act_end l tx) h3).2 ⟨b, Nat.le_refl _, h3, .inl rfl, h4⟩
          rw [HNO.out b h2 (by have := HTL.out; omega)] at h5
          cases h5
      rw [hnone] at z0
      have HZN := hid hnone
      clear hnone hUQ
      go_wp2
      all_goals go_ret
      all_goals exact ⟨rfl, by rw [← HXE.out]; exact HB.out.trans (Joins.below_le ((HKV.out _ HBQ.out).1) (by omega))⟩
end Go.Proofs.Ytaoagcnbdfklnaa
