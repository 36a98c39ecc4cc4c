/- PROVED: the law PikeReaches of layer 11 answers true for every program and every text, place and flag, and they read afterwards as they read before: where Run may be asked (of a text of at most 200 runes) it answers with no error, and finds something just if an OpMatch can be come to at all, by whatever way, from Start at a place at which a thread begins; where it finds nothing there are no captures and no pattern.
   CONDITIONS: none but the form's own (each slice and string at most 2^47 - 4096 bytes). -/
import Derived.Test.YtaoagcnbdfklnaaRows
import Derived.Test.YtaoagcnbdfklnaaPr
import Derived.Test.YtaoagcnbdfklnaaRb
import Derived.Test.YtaoagcnbdfklnaaRd
namespace Go.Proofs.Ytaoagcnbdfklnaa
open Go.RowKit Go.Lk
set_option linter.unusedVariables false
set_option linter.unusedSimpArgs false
set_option maxRecDepth 100000 in
set_option maxHeartbeats 8000000 in
theorem reaches6_no {w : World} {ad tad : Option Addr} {n c tn tc : Nat} {s k a : Int} {anch : Bool} {l : List In} {tx : List Int} (hP : PI w w.heap.size ad n l) (hT : TextAt w.heap.size w tad tn tx) (hm : mayQ l s k tn a = false) :
    Calls Try.prog 6 #[pv ad n c s k, av tad tn tc a anch] w fun e w' => e = .returned (.bool true) ∧ Below w.heap.size w w' := by
  obtain ⟨U, hU⟩ : ∃ U, U = (w.alloc (.cells #[.slice ad n c, .int .i64 s, .int .i64 k] 27)).alloc (.cells #[.slice tad tn tc, .int .i64 a, .bool anch] 30) := ⟨_, rfl⟩
  have hb : Below w.heap.size w U := by rw [hU]; exact below_two' w _ _
  have hX : U.heap[w.heap.size]? = some (.cells #[.slice ad n c, .int .i64 s, .int .i64 k] 27 (0, 0)) := by rw [hU]; exact (heap_alloc_old _ _ (by simp)).trans (heap_alloc_new w _)
  have hY : U.heap[w.heap.size + 1]? = some (.cells #[.slice tad tn tc, .int .i64 a, .bool anch] 30 (0, 0)) := by rw [hU]; exact two_new w _ _ _
  obtain ⟨x, hx⟩ : ∃ x, x = w.heap.size := ⟨_, rfl⟩
  obtain ⟨y, hy⟩ : ∃ y, y = w.heap.size + 1 := ⟨_, rfl⟩
  have hyU : w.heap.size + 1 < U.heap.size := (Array.getElem?_eq_some_iff.1 hY).1
  have hPU := hP.kept hb hb.size
  have hTU : TextAt U.heap.size U tad tn tx := (hT.below hb).mono hb.size
  have htl : tn = tx.length := hT.1
  rw [← hx] at hX hb
  rw [← hy] at hY hyU
  have HB := hid hb
  have HX := hid hX
  have HY := hid hY
  have HXE := hid hx
  have hxU : x < U.heap.size := by omega
  have HPU := hid hPU
  have HTU := hid hTU
  have HTL := hid htl
  have HAW := awake7 U
  have HCX : Hid (∀ W, Below U.heap.size U W → (W.cell? ⟨x, 0, none⟩ = some (.slice ad n c) ∧ W.cell? ⟨x, 1, none⟩ = some (.int .i64 s) ∧ W.cell? ⟨x, 2, none⟩ = some (.int .i64 k)) ∧ (W.cell? ⟨y, 0, none⟩ = some (.slice tad tn tc) ∧ W.cell? ⟨y, 1, none⟩ = some (.int .i64 a) ∧ W.cell? ⟨y, 2, none⟩ = some (.bool anch))) := fun W h => ⟨three_cells ((h.block x hxU).trans hX), three_cells ((h.block y hyU).trans hY)⟩
  have HMY : Hid (∀ W, Below U.heap.size U W → Calls Try.prog 18 #[pv ad n c s k, av tad tn tc a anch] W fun e w' => e = .returned (.bool (mayQ l s k tn a)) ∧ Below U.heap.size U w') := fun W h => (may18 (hPU.kept h h.size)).mono fun e w' h2 => ⟨h2.1, h.trans (Joins.below_le h2.2 h.size)⟩
  have HRN : Hid (∀ W (a' : Int) (anch' : Bool), Below U.heap.size U W → Calls Try.prog 10 #[pv ad n c s k, .slice tad tn tc, .int .i64 a', .bool anch'] W (RunA l tx s k a' anch' W)) := fun W a' anch' h => run10 (hPU.kept h h.size) ((hTU.below h).mono h.size)
  clear hP hPU hb hX hY hT hTU htl
  have HMQ := hid hm
  clear hm
  go_enter Try.func6, Try.ntmps6
  go_upto_region 1 with fail
  rw [← hU, ← hy, ← hx]
  clear hU hx hy
  go_wp2_with (first | (go_at_call 7; (with_reducible refine HAW.mono ?_); rintro e w1 ⟨rfl, hb1⟩; have HB1 := hid hb1; obtain ⟨⟨p0, p1, p2⟩, ⟨q0, q1, q2⟩⟩ := HCX.out w1 hb1; have HM := HMY.out w1 hb1; clear hb1 HAW) | (go_at_call 18; (with_reducible refine HM.mono ?_); rintro e w2 ⟨he, hb2⟩; rw [HMQ.out] at he; subst he; have HB2 := hid hb2; clear p0 p1 p2 q0 q1 q2; obtain ⟨⟨p0, p1, p2⟩, ⟨q0, q1, q2⟩⟩ := HCX.out w2 hb2; clear hb2 HM))
  all_goals go_ret
  all_goals exact ⟨rfl, by rw [← HXE.out]; exact HB.out.trans (Joins.below_le (HB2.out) (by omega))⟩
set_option maxRecDepth 100000 in
set_option maxHeartbeats 8000000 in
theorem reaches6_long {w : World} {ad tad : Option Addr} {n c tn tc : Nat} {s k a : Int} {anch : Bool} {l : List In} {tx : List Int} (hP : PI w w.heap.size ad n l) (hT : TextAt w.heap.size w tad tn tx) (hm : mayQ l s k tn a = true) (hl : 200 < tn) :
    Calls Try.prog 6 #[pv ad n c s k, av tad tn tc a anch] w fun e w' => e = .returned (.bool true) ∧ Below w.heap.size w w' := by
  obtain ⟨U, hU⟩ : ∃ U, U = (w.alloc (.cells #[.slice ad n c, .int .i64 s, .int .i64 k] 27)).alloc (.cells #[.slice tad tn tc, .int .i64 a, .bool anch] 30) := ⟨_, rfl⟩
  have hb : Below w.heap.size w U := by rw [hU]; exact below_two' w _ _
  have hX : U.heap[w.heap.size]? = some (.cells #[.slice ad n c, .int .i64 s, .int .i64 k] 27 (0, 0)) := by rw [hU]; exact (heap_alloc_old _ _ (by simp)).trans (heap_alloc_new w _)
  have hY : U.heap[w.heap.size + 1]? = some (.cells #[.slice tad tn tc, .int .i64 a, .bool anch] 30 (0, 0)) := by rw [hU]; exact two_new w _ _ _
  obtain ⟨x, hx⟩ : ∃ x, x = w.heap.size := ⟨_, rfl⟩
  obtain ⟨y, hy⟩ : ∃ y, y = w.heap.size + 1 := ⟨_, rfl⟩
  have hyU : w.heap.size + 1 < U.heap.size := (Array.getElem?_eq_some_iff.1 hY).1
  have hPU := hP.kept hb hb.size
  have hTU : TextAt U.heap.size U tad tn tx := (hT.below hb).mono hb.size
  have htl : tn = tx.length := hT.1
  rw [← hx] at hX hb
  rw [← hy] at hY hyU
  have HB := hid hb
  have HX := hid hX
  have HY := hid hY
  have HXE := hid hx
  have hxU : x < U.heap.size := by omega
  have HPU := hid hPU
  have HTU := hid hTU
  have HTL := hid htl
  have HAW := awake7 U
  have HCX : Hid (∀ W, Below U.heap.size U W → (W.cell? ⟨x, 0, none⟩ = some (.slice ad n c) ∧ W.cell? ⟨x, 1, none⟩ = some (.int .i64 s) ∧ W.cell? ⟨x, 2, none⟩ = some (.int .i64 k)) ∧ (W.cell? ⟨y, 0, none⟩ = some (.slice tad tn tc) ∧ W.cell? ⟨y, 1, none⟩ = some (.int .i64 a) ∧ W.cell? ⟨y, 2, none⟩ = some (.bool anch))) := fun W h => ⟨three_cells ((h.block x hxU).trans hX), three_cells ((h.block y hyU).trans hY)⟩
  have HMY : Hid (∀ W, Below U.heap.size U W → Calls Try.prog 18 #[pv ad n c s k, av tad tn tc a anch] W fun e w' => e = .returned (.bool (mayQ l s k tn a)) ∧ Below U.heap.size U w') := fun W h => (may18 (hPU.kept h h.size)).mono fun e w' h2 => ⟨h2.1, h.trans (Joins.below_le h2.2 h.size)⟩
  have HRN : Hid (∀ W (a' : Int) (anch' : Bool), Below U.heap.size U W → Calls Try.prog 10 #[pv ad n c s k, .slice tad tn tc, .int .i64 a', .bool anch'] W (RunA l tx s k a' anch' W)) := fun W a' anch' h => run10 (hPU.kept h h.size) ((hTU.below h).mono h.size)
  clear hP hPU hb hX hY hT hTU htl
  have HMQ := hid hm
  clear hm
  have b1 : decide ((tn : Int) > 200) = true := by simp; omega
  have b1' : decide ((200 : Int) < (tn : Int)) = true := by simp; omega
  go_enter Try.func6, Try.ntmps6
  go_upto_region 1 with fail
  rw [← hU, ← hy, ← hx]
  clear hU hx hy
  go_wp2_with (first | (go_at_call 7; (with_reducible refine HAW.mono ?_); rintro e w1 ⟨rfl, hb1⟩; have HB1 := hid hb1; obtain ⟨⟨p0, p1, p2⟩, ⟨q0, q1, q2⟩⟩ := HCX.out w1 hb1; have HM := HMY.out w1 hb1; clear hb1 HAW) | (go_at_call 18; (with_reducible refine HM.mono ?_); rintro e w2 ⟨he, hb2⟩; rw [HMQ.out] at he; subst he; have HB2 := hid hb2; clear p0 p1 p2 q0 q1 q2; obtain ⟨⟨p0, p1, p2⟩, ⟨q0, q1, q2⟩⟩ := HCX.out w2 hb2; clear hb2 HM))
  all_goals go_ret
  all_goals exact ⟨rfl, by rw [← HXE.out]; exact HB.out.trans (Joins.below_le (HB2.out) (by omega))⟩
set_option maxRecDepth 100000 in
set_option maxHeartbeats 8000000 in
theorem reaches6_loop {w : World} {ad tad : Option Addr} {n c tn tc S K A : Nat} {anch : Bool} {l : List In} {tx : List Int} (hP : PI w w.heap.size ad n l) (hT : TextAt w.heap.size w tad tn tx) (hmay : mayB l (S : Int) (K : Int) = true) (hA : A ≤ tn) (hl : tn ≤ 200) :
    Calls Try.prog 6 #[pv ad n c (S : Int) (K : Int), av tad tn tc (A : Int) anch] w fun e w' => e = .returned (.bool true) ∧ Below w.heap.size w w' := by
  obtain ⟨s, hs⟩ : ∃ s : Int, s = S := ⟨_, rfl⟩
  obtain ⟨k, hk⟩ : ∃ k : Int, k = K := ⟨_, rfl⟩
  obtain ⟨a, ha⟩ : ∃ a : Int, a = A := ⟨_, rfl⟩
  have hm : mayQ l s k tn a = true := by rw [hs, hk, ha]; simp [mayQ, hmay]; omega
  rw [← hs, ← hk, ← ha]
  obtain ⟨U, hU⟩ : ∃ U, U = (w.alloc (.cells #[.slice ad n c, .int .i64 s, .int .i64 k] 27)).alloc (.cells #[.slice tad tn tc, .int .i64 a, .bool anch] 30) := ⟨_, rfl⟩
  have hb : Below w.heap.size w U := by rw [hU]; exact below_two' w _ _
  have hX : U.heap[w.heap.size]? = some (.cells #[.slice ad n c, .int .i64 s, .int .i64 k] 27 (0, 0)) := by rw [hU]; exact (heap_alloc_old _ _ (by simp)).trans (heap_alloc_new w _)
  have hY : U.heap[w.heap.size + 1]? = some (.cells #[.slice tad tn tc, .int .i64 a, .bool anch] 30 (0, 0)) := by rw [hU]; exact two_new w _ _ _
  obtain ⟨x, hx⟩ : ∃ x, x = w.heap.size := ⟨_, rfl⟩
  obtain ⟨y, hy⟩ : ∃ y, y = w.heap.size + 1 := ⟨_, rfl⟩
  have hyU : w.heap.size + 1 < U.heap.size := (Array.getElem?_eq_some_iff.1 hY).1
  have hPU := hP.kept hb hb.size
  have hTU : TextAt U.heap.size U tad tn tx := (hT.below hb).mono hb.size
  have htl : tn = tx.length := hT.1
  rw [← hx] at hX hb
  rw [← hy] at hY hyU
  have HB := hid hb
  have HX := hid hX
  have HY := hid hY
  have HXE := hid hx
  have hxU : x < U.heap.size := by omega
  have HPU := hid hPU
  have HTU := hid hTU
  have HTL := hid htl
  have HAW := awake7 U
  have HCX : Hid (∀ W, Below U.heap.size U W → (W.cell? ⟨x, 0, none⟩ = some (.slice ad n c) ∧ W.cell? ⟨x, 1, none⟩ = some (.int .i64 s) ∧ W.cell? ⟨x, 2, none⟩ = some (.int .i64 k)) ∧ (W.cell? ⟨y, 0, none⟩ = some (.slice tad tn tc) ∧ W.cell? ⟨y, 1, none⟩ = some (.int .i64 a) ∧ W.cell? ⟨y, 2, none⟩ = some (.bool anch))) := fun W h => ⟨three_cells ((h.block x hxU).trans hX), three_cells ((h.block y hyU).trans hY)⟩
  have HMY : Hid (∀ W, Below U.heap.size U W → Calls Try.prog 18 #[pv ad n c s k, av tad tn tc a anch] W fun e w' => e = .returned (.bool (mayQ l s k tn a)) ∧ Below U.heap.size U w') := fun W h => (may18 (hPU.kept h h.size)).mono fun e w' h2 => ⟨h2.1, h.trans (Joins.below_le h2.2 h.size)⟩
  have HRN : Hid (∀ W (a' : Int) (anch' : Bool), Below U.heap.size U W → Calls Try.prog 10 #[pv ad n c s k, .slice tad tn tc, .int .i64 a', .bool anch'] W (RunA l tx s k a' anch' W)) := fun W a' anch' h => run10 (hPU.kept h h.size) ((hTU.below h).mono h.size)
  have HRC : Hid (∀ W (i : Nat), Below U.heap.size U W → i ≤ tn → Calls Try.prog 19 #[pv ad n c s k, .slice tad tn tc, .int .i64 (i : Int)] W fun e w' => ∃ bb, e = .returned (.bool bb) ∧ (bb = true ↔ Rch (act l tx) S i) ∧ Below W.heap.size W w') := fun W i h hi => by rw [hs, hk]; exact reach19 (hPU.kept h h.size) hmay ((hTU.below h).mono h.size) hl hi
  clear hP hPU hb hX hY hT hTU htl
  have HMQ := hid hm
  have HER : Hid (errR l s k tx.length a = 0) := by show _ = _; rw [errR_may, ← HTL.out]; exact hm
  clear hm
  generalize hr : lockRun (prOf l tx s.toNat k.toNat) tx.length a.toNat anch = rf
  have HRF := hid hr
  clear hr
  subst hs hk ha
  have HMB := hid hmay
  have hPok := pr_ok (tx := tx) hmay
  have hrf : lockRun (prOf l tx S K) tx.length A anch = rf := HRF.out
  have hrc := lock_reach (P := prOf l tx S K) hPok (a := A) (anch := anch) (act_end l tx) (show A ≤ tx.length by have := HTL.out; omega)
  rw [hrf] at hrc
  have HRCH : Hid (rf.1.isSome = true ↔ ∃ b, A ≤ b ∧ b ≤ tn ∧ (b = A ∨ anch = false) ∧ Rch (act l tx) S b) := by
    show _ ↔ _
    rw [hrc, ← HTL.out]
    rfl
  clear hmay hPok hrf hrc
  have b1 : decide ((tn : Int) > 200) = false := by simp; omega
  have b1' : decide ((200 : Int) < (tn : Int)) = false := by simp; omega
  go_enter Try.func6, Try.ntmps6
  go_upto_region 1 with fail
  rw [← hU, ← hy, ← hx]
  clear hU hx hy
  go_upto_region 6 with (first | (go_at_call 7; (with_reducible refine HAW.mono ?_); rintro e w1 ⟨rfl, hb1⟩; have HB1 := hid hb1; obtain ⟨⟨p0, p1, p2⟩, ⟨q0, q1, q2⟩⟩ := HCX.out w1 hb1; have HM := HMY.out w1 hb1; clear hb1 HAW) | (go_at_call 18; (with_reducible refine HM.mono ?_); rintro e w2 ⟨he, hb2⟩; rw [HMQ.out] at he; subst he; have HB2 := hid hb2; clear p0 p1 p2 q0 q1 q2; obtain ⟨⟨p0, p1, p2⟩, ⟨q0, q1, q2⟩⟩ := HCX.out w2 hb2; have HR := HRN.out w2 (A : Int) anch hb2; clear hb2 HM) | (go_at_call 10; (with_reducible refine HR.mono ?_); rintro e w3 hra; have HFR := RunA.ok hra HER.out; rw [HRF.out] at HFR; obtain ⟨c1, c2, c3, wh, rfl, hfv, hb3⟩ := HFR.cells; have HFV := hid hfv; have HB3 := hid hb3; have hc3 := HB2.out.trans (Joins.below_le hb3 HB2.out.size); have HC3 := hid hc3; clear p0 p1 p2 q0 q1 q2; obtain ⟨⟨p0, p1, p2⟩, ⟨q0, q1, q2⟩⟩ := HCX.out w3 hc3; have hy3 : y < w3.heap.size := (by have := hc3.size; omega); have hx3 : x < w3.heap.size := (by have := hc3.size; omega); clear hra HFR hb3 hc3 hfv HR))
  clear HMY
  obtain ⟨V, hV⟩ : ∃ V, V = w3.alloc (.cells #[.bool rf.1.isSome, .slice c1 c2 c3, .int .i64 wh, .int .i64 (rf.2 : Int)] 33) := ⟨_, rfl⟩
  have hbV : Below w3.heap.size w3 V := by rw [hV]; exact Joins.below_alloc1 w3 _
  have hZ : V.heap[w3.heap.size]? = some (.cells #[.bool rf.1.isSome, .slice c1 c2 c3, .int .i64 wh, .int .i64 (rf.2 : Int)] 33 (0, 0)) := by rw [hV]; exact heap_alloc_new w3 _
  have hzV : w3.heap.size < V.heap.size := (Array.getElem?_eq_some_iff.1 hZ).1
  have HVV : Hid (Below U.heap.size U V) := HC3.out.trans (Joins.below_le hbV HC3.out.size)
  obtain ⟨z, hz⟩ : ∃ z, z = w3.heap.size := ⟨_, rfl⟩
  have HKV : Hid (∀ W, Below V.heap.size V W → Below U.heap.size U W ∧ (W.cell? ⟨z, 0, none⟩ = some (.bool rf.1.isSome) ∧ W.cell? ⟨z, 1, none⟩ = some (.slice c1 c2 c3) ∧ W.cell? ⟨z, 2, none⟩ = some (.int .i64 wh) ∧ W.cell? ⟨z, 3, none⟩ = some (.int .i64 (rf.2 : Int)))) := fun W h => by
    have hZW : W.heap[z]? = some (.cells #[.bool rf.1.isSome, .slice c1 c2 c3, .int .i64 wh, .int .i64 (rf.2 : Int)] 33 (0, 0)) := by rw [hz]; exact (h.block _ hzV).trans hZ
    exact ⟨HVV.out.trans (Joins.below_le h HVV.out.size), ⟨Joins.cell_of_block hZW 0, Joins.cell_of_block hZW 1, Joins.cell_of_block hZW 2, Joins.cell_of_block hZW 3⟩⟩
  rw [← hV, ← hz]
  clear hV hbV hZ hzV hz p0 p1 p2 q0 q1 q2 hy3 hx3 HB3 HC3
  obtain ⟨hUV, ⟨z0, z1, z2, z3⟩⟩ := HKV.out V (Below.refl _ _)
  obtain ⟨⟨p0, p1, p2⟩, ⟨q0, q1, q2⟩⟩ := HCX.out V hUV
  clear hUV
  go_wp2_with fail
  clear p0 p1 p2 q0 q1 q2 z0 z1 z2 z3
  go_loopw [9, 10] (fun v9 v wq => ∃ (i : Nat) (th : Bool), v9 = .bool th ∧ v = .int .i64 (i : Int) ∧ A ≤ i ∧ i ≤ tn + 1 ∧ Hid (Below V.heap.size V wq) ∧ Hid (th = true → ∃ b, A ≤ b ∧ b ≤ tn ∧ (b = A ∨ anch = false) ∧ Rch (act l tx) S b) ∧ Hid (th = false → ∀ b, A ≤ b → b < i → (b = A ∨ anch = false) → ¬ Rch (act l tx) S b)) (fun _ v _ => tn + 1 - (intOf v).toNat)
  case atStart => exact ⟨A, false, rfl, rfl, Nat.le_refl _, by omega, Below.refl _ _, fun h => absurd h (by simp), fun _ b h1 h2 => by omega⟩
  case round =>
    obtain ⟨i, th, rfl, rfl, hAi, hi, HBQ, HT1, HT2⟩ := hrel
    obtain ⟨hUQ, ⟨z0, z1, z2, z3⟩⟩ := HKV.out wr HBQ.out
    obtain ⟨⟨p0, p1, p2⟩, ⟨q0, q1, q2⟩⟩ := HCX.out wr hUQ
    have HUQ := hid hUQ
    have hend : (th = true ∨ tn < i ∨ (i ≠ A ∧ anch = true)) → rf.1.isSome = th := fun h => by
      have h1 := HRCH.out
      cases th
      · cases hc : rf.1.isSome
        · rfl
        · exfalso
          obtain ⟨b, h2, h3, h4, h5⟩ := h1.1 hc
          rcases h with h | h | h
          · cases h
          · exact HT2.out rfl b h2 (by omega) h4 h5
          · rcases h4 with h4 | h4
            · exact HT2.out rfl b h2 (by omega) (.inl h4) h5
            · rw [h.2] at h4; cases h4
      · exact h1.2 (HT1.out rfl)
    have HEND := hid hend
    clear hend hUQ
    by_cases hstop : (th = true ∨ tn < i ∨ (i ≠ A ∧ anch = true))
    · have he := HEND.out hstop
      have HFIN : Hid (FV w3 w2.heap.size K c1 c2 c3 wh rf.1) := HFV.out
      rw [he] at z0
      have hcz : th = false → c2 = 0 ∧ wh = 0 := fun h => by
        rw [h] at he
        cases hc : rf.1 with
        | none => have h1 := HFIN.out; rw [hc] at h1; exact ⟨h1.2.1, h1.2.2.2⟩
        | some v => rw [hc] at he; cases he
      have HCZ := hid hcz
      clear hcz he
      cases th
      · obtain ⟨hc2, hwh⟩ := HCZ.out rfl
        subst hc2 hwh
        rcases hstop with h | h | ⟨h, h'⟩
        · cases h
        · have g1 : decide ((i : Int) ≤ (tn : Int)) = false := by simp; omega
          go_wp2
          all_goals go_ret
          all_goals exact ⟨rfl, by rw [← HXE.out]; exact HB.out.trans (Joins.below_le (HUQ.out) (by omega))⟩
        · subst h'
          have g3 : ((i : Int) == (A : Int)) = false := by simp; omega
          by_cases hit : i ≤ tn
          · have g1 : decide ((i : Int) ≤ (tn : Int)) = true := by simp; omega
            go_wp2
            all_goals go_ret
            all_goals exact ⟨rfl, by rw [← HXE.out]; exact HB.out.trans (Joins.below_le (HUQ.out) (by omega))⟩
          · have g1 : decide ((i : Int) ≤ (tn : Int)) = false := by simp; omega
            go_wp2
            all_goals go_ret
            all_goals exact ⟨rfl, by rw [← HXE.out]; exact HB.out.trans (Joins.below_le (HUQ.out) (by omega))⟩
      · clear hstop
        by_cases hit : i ≤ tn
        · have g1 : decide ((i : Int) ≤ (tn : Int)) = true := by simp; omega
          go_wp2
          all_goals go_ret
          all_goals exact ⟨rfl, by rw [← HXE.out]; exact HB.out.trans (Joins.below_le (HUQ.out) (by omega))⟩
        · have g1 : decide ((i : Int) ≤ (tn : Int)) = false := by simp; omega
          go_wp2
          all_goals go_ret
          all_goals exact ⟨rfl, by rw [← HXE.out]; exact HB.out.trans (Joins.below_le (HUQ.out) (by omega))⟩
    · have hth : th = false := by cases th; rfl; exact absurd (.inl rfl) hstop
      subst hth
      have hit : i ≤ tn := by
        rcases Nat.lt_or_ge tn i with h | h
        · exact absurd (.inr (.inl h)) hstop
        · exact h
      have g1 : decide ((i : Int) ≤ (tn : Int)) = true := by simp; omega
      have HB3' : Hid (i = A ∨ anch = false) := by
        show _ ∨ _
        by_cases h : i = A
        · exact .inl h
        · right
          cases anch
          · rfl
          · exact absurd (.inr (.inr ⟨h, rfl⟩)) hstop
      have a1 : IntKind.i64.wrap ((i : Int) + 1) = (i : Int) + 1 := by rw [wrap_ok _ (by omega) (by omega)]
      have HRI := HRC.out wr i HUQ.out hit
      clear hstop
      by_cases hia : i = A
      · have g3 : ((i : Int) == (A : Int)) = true := by simp; omega
        have HIA := hid hia
        clear hia
        go_wp2_with (go_at_call 19; (with_reducible refine HRI.mono ?_); rintro e w5 ⟨bb, rfl, hbb, hb5⟩; have HBB := hid hbb; have HB5 := hid (HBQ.out.trans (Joins.below_le hb5 HBQ.out.size)); clear hbb hb5 HRI)
        refine ⟨⟨i + 1, bb, rfl, by push_cast; rfl, by omega, by omega, HB5.out, fun h => ⟨i, hAi, hit, HB3'.out, HBB.out.1 h⟩, fun h b h1 h2 h3 => ?_⟩, by simp [intOf]; omega⟩
        by_cases eb : b = i
        · subst eb; exact fun h4 => by have := HBB.out.2 h4; rw [h] at this; cases this
        · exact HT2.out (by trivial) b h1 (by omega) h3
      · have g3 : ((i : Int) == (A : Int)) = false := by simp; omega
        have han : anch = false := HB3'.out.resolve_left hia
        subst han
        go_wp2_with (go_at_call 19; (with_reducible refine HRI.mono ?_); rintro e w5 ⟨bb, rfl, hbb, hb5⟩; have HBB := hid hbb; have HB5 := hid (HBQ.out.trans (Joins.below_le hb5 HBQ.out.size)); clear hbb hb5 HRI)
        refine ⟨⟨i + 1, bb, rfl, by push_cast; rfl, by omega, by omega, HB5.out, fun h => ⟨i, hAi, hit, HB3'.out, HBB.out.1 h⟩, fun h b h1 h2 h3 => ?_⟩, by simp [intOf]; omega⟩
        by_cases eb : b = i
        · subst eb; exact fun h4 => by have := HBB.out.2 h4; rw [h] at this; cases this
        · exact HT2.out (by trivial) b h1 (by omega) h3
end Go.Proofs.Ytaoagcnbdfklnaa
namespace Go.Proofs.Ytaoagcnbdfklnaa
open Go.ChangeShapes Go.WideShapes Go.ChangeAt Go.RowKit
set_option linter.unusedVariables false
set_option linter.unusedSimpArgs false
theorem reaches6 {w : World} {ad tad : Option Addr} {n c tn tc : Nat} {s k a : Int} {anch : Bool} {l : List In} {tx : List Int} (hP : PI w w.heap.size ad n l) (hT : TextAt w.heap.size w tad tn tx) :
    Calls Try.prog 6 #[pv ad n c s k, av tad tn tc a anch] w fun e w' => e = .returned (.bool true) ∧ Below w.heap.size w w' := by
  cases hm : mayQ l s k tn a
  · exact reaches6_no hP hT hm
  · by_cases hl : 200 < tn
    · exact reaches6_long hP hT hm hl
    · obtain ⟨S, K, A, rfl, rfl, rfl, hA, hmay⟩ := mayQ_parts hm
      exact reaches6_loop hP hT hmay hA (by omega)
set_option maxRecDepth 100000 in
theorem reachesLifted (os : Os) (started : os.Started) (H : Type) (enc : TypeId × Value → H) :
    ReturnsInHanded {} Try.checked os 6 .any (Rows.pikeReachesSpec.pre6 enc Try.prog Try.f6 Rows.pikeReachesRow.domain false) (Rows.pikeReachesSpec.post enc Try.prog Try.f6 false true false false) := by
  refine returnsInHanded_of_change_sized (C := Try.checked) ownB started (by kernel_rfl) Try.func6
    (ChangeSpec.witness6 (enc := enc) (C := Try.checked) false ⟨#[], #[.agg #[.slice none 0 0, .int .i64 0, .int .i64 0], .agg #[.slice none 0 0, .int .i64 0, .bool false]], []⟩ 8 (by kernel_rfl) (by kernel_rfl) (by kernel_rfl) (by kernel_rfl)) ?_
  intro W base args ds gs before hval0 hW hcnd0 hsz0 hholds
  have hval : ∀ (j : Nat) t v, Try.f6.params[j]? = some t → args[j]? = some v → Value.okWide Try.prog W .any base t v := hval0
  have hW' := hW
  obtain ⟨p, q, hA0, hV, rfl, hfz, hnd⟩ := hW
  have hA : DataW.TrodAll enc Try.prog W 0 (fun _ => true) true Try.f6.params.toList args.toList ds p := hA0
  have hsz : ∀ n ∈ DataW.weightsEach Try.prog (Try.f6.params.toList ++ Rows.pikeReachesSpec.plain.varTypes Try.prog) (ds ++ gs), n ≤ reachBytes := fun n hn => by simpa using List.all_eq_true.1 hsz0 n hn
  rw [Try.params6] at hA hval hsz
  obtain ⟨v0, vs0, d0, ds0, p0, q0, hargs, rfl, rfl, h0, r0⟩ := trodAll_cons hA
  obtain ⟨v1, vs1, d1, ds1, p1, q1, rfl, rfl, rfl, h1, r1⟩ := trodAll_cons r0
  obtain ⟨rfl, rfl, rfl⟩ := trodAll_nil r1
  obtain rfl : args = #[v0, v1] := by cases args; simp_all
  obtain ⟨rfl, rfl⟩ := trodVars_none hV
  have hlt0 : ∀ x ∈ p0, x.block < W.heap.size := fun x hx => by have := hW'.lt x (by simp [hx]); simpa using this
  have hlt1 : ∀ x ∈ p1, x.block < W.heap.size := fun x hx => by have := hW'.lt x (by simp [hx]); simpa using this
  obtain ⟨ad, n, c, s, k, l, rfl, _, _, hn, hP⟩ := prog_arg (hval 0 27 v0 rfl rfl) h0 (fun n hn => hsz n (DataW.weights_mem_each (j := 0) (by simp) (by simp) n hn))
  obtain ⟨tad, tn, tc, a, anch, tx, rfl, hT, htn⟩ := asked_arg (hval 1 30 v1 rfl rfl) h1 (fun n hn => hsz n (DataW.weights_mem_each (j := 1) (by simp) (by simp) n hn))
  clear hA0 hval0
  refine (reaches6 hP hT).mono fun e W' ⟨he, hb⟩ => ?_
  subst he
  exact ⟨_, rfl, _, _, _, [], p0 ++ (p1 ++ []), [], hW', trodAll_cons_mk (shut_bool Try.underlying4 _) trodAll_mk0, trodAll_cons_mk (Below.trod laidOut (by kernel_rfl) (of_decide_eq_true (by kernel_rfl)) h0 hb hlt0) (trodAll_cons_mk (Below.trod laidOut (by kernel_rfl) (of_decide_eq_true (by kernel_rfl)) h1 hb hlt1) trodAll_mk0), rfl, hb.frame _, fun h => by cases h⟩
theorem pikeReaches_holds : Rows.PikeReachesSaid :=
  OpenClaim.holds_of_wide 6 Try.f6 rfl rfl rfl rfl rfl rfl rfl ⟨rfl, rfl, rfl, rfl, rfl⟩ rfl rfl rfl rfl rfl (by kernel_rfl) Try.func6 (by kernel_rfl)
    (of_decide_eq_true (by kernel_rfl)) (by unfold Func.isWrapper; first | (rw [if_pos (by decide +kernel)]; kernel_rfl) | (rw [if_neg (by decide +kernel)]; exact ⟨rfl, rfl⟩))
    (fun os started H enc _ => reachesLifted os started H enc)
end Go.Proofs.Ytaoagcnbdfklnaa
