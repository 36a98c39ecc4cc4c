/- HELPERS: Xg3, Xg4, Xg5, Xg6, Xg7, Xk, Xs, Mu, To, Tp. -/
import Derived.Test.YtnpocciioedgpaaK09
/- HELPERS: the hunt: begin, kind 3. -/
namespace Go.Proofs.Ytnpocciioedgpaa
open Go.RowKit
set_option linter.unusedVariables false
set_option linter.unusedSimpArgs false
theorem en38 : ∀ (args : Array Value) (w : World), (callFunc 38 args).run Try.prog w = .ok (.enter 38 args) w := enter_of Try.func38 (by kernel_rfl) rfl
set_option maxRecDepth 100000 in
set_option maxHeartbeats 8000000 in
theorem begin_3 {C : HC} (hk : HCk C) {f : Nat} (hB : Hid (BeginC C f)) (hO : Hid (OnC C f)) (hD : Hid (DecideC C f)) (hf : f ≤ 10000) {W : World} {left : Int} {out : List (Int × List Int)} {lb : Nat} {R : List (Int × Int)} {a : Int} {s : List Lt} {mn mx : Int} {lz : Bool} {ix : Int} {nm : ByteArray} {B : Way} {up : Int} {nth : Nat} {p : Nat} {caps : List Int} {cv : Value} {was : List (Int × Int)} {KW : List Int} {wv : Value}
    (he : (⟨.mk lb 3 R a s mn mx lz ix nm, B, up, nth⟩ : Pl) ∈ C.L) (h : HIn C W left out p caps cv was KW wv (f + 1)) :
    Calls Try.prog 18 #[.pointer (some ⟨C.hb, 0, none⟩), .int .i64 (lb : Int), .int .i64 (p : Int), cv, wv] W (HPost C (f + 1) ((Lt.mk lb 3 R a s mn mx lz ix nm).fw B) p was caps left out W) := by
  have hF := node_fine (hk.fine _ he)
  have hlb := hk.num _ he
  have hnn := hk.nn
  have htn := hk.tn64
  have hp := h.p64
  simp only [Lt.lb] at hlb
  obtain ⟨-, -, -, -, -, -, k3, -, ku, -, -⟩ := h.hm.cells
  have u3 := ku 3
  obtain ⟨W1, hW1⟩ : ∃ W1, W1 = W.setCell ⟨C.hb, 3, none⟩ (.int .i64 (left - 1)) := ⟨_, rfl⟩
  obtain ⟨hm1, fr1⟩ := h.hm.dec
  rw [← hW1] at hm1 fr1
  obtain ⟨-, -, -, -, -, -, l3, -, -, -, -⟩ := hm1.cells
  have HHM := hid hm1
  have HF1 := hid fr1
  obtain ⟨key, hkey⟩ : ∃ key : Int, key = 2 * (100 * (lb : Int) + (p : Int)) + 1 := ⟨_, rfl⟩
  have hw1 := fr1.row h.wasr
  obtain ⟨wa, wc, ewv⟩ := hw1.form
  subst ewv
  have hDid := did35 KW wa KW.length wc key W1 _ (hw1.text (by have := h.sz; omega))
  have hAnd := and36 KW (.slice wa KW.length wc) key W1 hw1.src (by have := h.sz; omega)
  have hdec : decide (key ∈ KW) = decide ((kb lb, (p : Int)) ∈ was) := by
    rw [hkey]; exact decide_eq_decide.2 ((h.kr lb p (by omega)).1.symm)
  rw [hdec] at hDid
  have hr3 : -100000000000 ≤ left ∧ left ≤ 20000 := ⟨h.lo, by have := h.fuel; omega⟩
  have HH := hid h
  have hlb3 : (lb : Int) ≤ 300000 := by omega
  have hp64 : (p : Int) ≤ 64 := by omega
  have b1 : (lb : Int) < (C.n : Int) := by omega
  have HK : Hid (KR ((kb lb, (p : Int)) :: was) (KW ++ [key])) := by rw [hkey]; exact hid (h.kr.begun (by omega))
  have HKY := hid hkey
  have HW1 := hid hW1
  obtain ⟨d, hd⟩ : ∃ d, d = decide ((kb lb, (p : Int)) ∈ was) := ⟨_, rfl⟩
  rw [← hd] at hDid
  have HD := hid hd
  obtain ⟨was', hwas⟩ : ∃ was', was' = (kb lb, (p : Int)) :: was := ⟨_, rfl⟩
  rw [← hwas] at HK
  have HXX : Hid (0 < left → d = false → ∀ o, Hx C.tx C.E (.ifHolds a B) p was' (caps.set 0 C.frm) out o → Hx C.tx C.E ((Lt.mk lb 3 R a s mn mx lz ix nm).fw B) p was (caps.set 0 C.frm) out o) := fun _ hdf o hx => by
    simp only [Lt.fw]
    refine .once (by simp only [kb]; omega) (of_decide_eq_false (hd.symm.trans hdf)) ?_
    rw [← hwas]
    simpa using hx
  have HSK : Hid (d = true → Hx C.tx C.E ((Lt.mk lb 3 R a s mn mx lz ix nm).fw B) p was (caps.set 0 C.frm) out out) := fun hdt => by
    simp only [Lt.fw]
    exact .skip (by simp only [kb]; omega) (of_decide_eq_true (hd.symm.trans hdt))
  have HHK := hid hk
  have HHE := hid he
  have HFN := hid hF
  have HFF := hid hf
  clear hd hk hf he hF hlb hnn htn hp hm1 fr1 hw1 h hdec hW1 ku hkey hwas
  generalize (Lt.mk lb 3 R a s mn mx lz ix nm).fw B = WB at HXX HSK ⊢
  go_enter Try.func18, Try.ntmps18
  go_upto_region 2 with fail
  rw [← HW1.out, ← HKY.out]
  clear k3 u3
  go_upto_region 3 with (first | (go_at_call 35; (with_reducible refine hDid.mono ?_); rintro e w1 ⟨rfl, rfl⟩))
  by_cases hl : left - 1 < 0
  · go_wp2_with fail
    refine bodyPost_ret (results_none rfl _ _ _) rfl ?_
    exact stop_post HHM.out HF1.out (fun h => by omega)
  · have h0 : 0 < left := by omega
    cases d
    rotate_left
    · go_wp2_with fail
      refine bodyPost_ret (results_none rfl _ _ _) rfl ?_
      exact stop_post HHM.out HF1.out (fun h => HSK.out (by first | rfl | trivial))
    · have HXY := hid (HXX.out h0 rfl)
      clear HXX HSK HD
      go_upto_region 5 with (first | (go_at_call 36; (with_reducible refine hAnd.mono ?_); rintro e w2 ⟨v', rfl, ho, hb⟩; obtain ⟨hm2, fr2⟩ := HHM.out.below hb; have hrow := Rw.of ho (by omega); have hfr := HF1.out.trans fr2; have hin := HH.out.and h0 HK.out hm2 hfr hrow; clear ho hb hm2 fr2))
      clear l3 hAnd hDid
      obtain ⟨r1, r3, s1, s2, s3, sa, sc, hP, hRP, hRk, hR, ok⟩ := hin.hm.at HHE.out
      obtain ⟨-, -, -, k0, -, -, -, -, -, -, -⟩ := hin.hm.cells
      obtain ⟨V, hV⟩ : ∃ V, V = w2.alloc (.cells #[.int .i64 3, .slice r1 R.length r3, .int .i64 a, .slice s1 s2 s3, .int .i64 mn, .int .i64 mx, .bool lz, .int .i64 ix, .string nm, .slice sa s.length sc, .int .i64 up, .int .i64 (nth : Int)] 64) := ⟨_, rfl⟩
      obtain ⟨hmV, frV⟩ := hin.hm.copy (o := .cells #[.int .i64 3, .slice r1 R.length r3, .int .i64 a, .slice s1 s2 s3, .int .i64 mn, .int .i64 mx, .bool lz, .int .i64 ix, .string nm, .slice sa s.length sc, .int .i64 up, .int .i64 (nth : Int)] 64)
      have hY : V.heap[w2.heap.size]? = some (.cells #[.int .i64 3, .slice r1 R.length r3, .int .i64 a, .slice s1 s2 s3, .int .i64 mn, .int .i64 mx, .bool lz, .int .i64 ix, .string nm, .slice sa s.length sc, .int .i64 up, .int .i64 (nth : Int)] 64 (0, 0)) := by rw [hV]; exact heap_alloc_new w2 _
      rw [← hV] at hmV frV
      obtain ⟨y, hy⟩ : ∃ y, y = w2.heap.size := ⟨_, rfl⟩
      rw [← hy] at hY
      have HV := hid (hin.go (f' := f) hmV frV (Int.le_refl _) hin.fuel hin.lo)
      have HFV := hid (hfr.trans frV)
      have HYV := hid hV
      have HEY := hid hy
      have HY : Hid (∀ w', Fr C V w' → w'.heap[y]? = some (.cells #[.int .i64 3, .slice r1 R.length r3, .int .i64 a, .slice s1 s2 s3, .int .i64 mn, .int .i64 mx, .bool lz, .int .i64 ix, .string nm, .slice sa s.length sc, .int .i64 up, .int .i64 (nth : Int)] 64 (0, 0))) := fun w' fr => fr.box _ _ hY
      have HRV : Hid (∀ w', Fr C V w' → Rw w' (.slice sa s.length sc) (s.map fun t => (t.lb : Int))) := fun w' fr => fr.row (frV.row hR)
      have HRP : Hid (∀ w', Fr C V w' → RP w' (fun b => b < C.NB ∧ b ≠ C.hb) r1 R) := fun w' fr => hRP.kept (fun b hb => ((frV.trans fr).low b hb.1 hb.2)) (fun b hb => hb)
      have HRK := hid hRk
      have HOK := hid ok
      simp only [P12] at hP
      obtain ⟨p0, p1, p2, p3, p4, p5, p6, p7, p8, p9, p10, p11⟩ := hP
      clear hin hrow hfr hRP hRk hR ok hV hmV frV hY hy
      go_upto_region 6 with fail
      rw [← HYV.out, ← HEY.out]
      clear p0 p1 p2 p3 p4 p5 p6 p7 p8 p9 p10 p11 k0
      obtain ⟨y0, y1, y2, -, -, -, y7, y9⟩ := box12' (HY.out V (Fr.refl C V))
      obtain ⟨hmD, frD⟩ : HM C V.drew (left - 1) out ∧ Fr C V V.drew := HV.out.hm.below ⟨rfl, rfl, rfl, Nat.le_refl _, fun _ _ => rfl⟩
      have HVD := hid (HV.out.go (f' := f) hmD frD (Int.le_refl _) HV.out.fuel HV.out.lo)
      have HFD := hid (HFV.out.trans frD)
      have HC := Look.ref12 C.tx C.tad C.tn C.tc (p : Int) V.drew C.hb hmD.tx
      have hbit := held_bit (tx := C.tx) (HFN.out.ast rfl) (p := p) (by have := HV.out.p64; have := HHK.out.tnl; omega)
      obtain ⟨-, -, -, -, v1, -, -, -, -, -, -⟩ := HV.out.hm.cells
      obtain ⟨A, hA⟩ : ∃ A, A = Look.atN C.tx (p : Int) := ⟨_, rfl⟩
      rw [← hA] at HC hbit
      obtain ⟨A2, hA2⟩ : ∃ A2, A2 = bits .and .i64 A a := ⟨_, rfl⟩
      rw [← hA2] at hbit
      have hA2' := hA2.symm
      obtain ⟨hd, hhd⟩ : ∃ hd, hd = heldB C.tx a p := ⟨_, rfl⟩
      have hbit' : decide (0 < A2) = hd := by rw [hhd]; exact hbit
      have HHD := hid hhd
      clear hhd
      have HC2 := hO.out V.drew (left - 1) out _ p caps cv was' (KW ++ [key]) v' HHE.out HVD.out
      simp only [Lt.lb] at HC2
      clear hA hA2 hbit hmD frD
      go_upto_region 17 with fail
      refine wp_region_lexF [0, 1, 2, 3, 4, 6, 7, 8] [5, 9, 10] (fun W => W.cell? ⟨C.hb, 1, none⟩ = some (.slice C.tad C.tn C.tc) ∧ W.cell? ⟨y, 2, none⟩ = some (.int .i64 a)) (by kernel_rfl) (by kernel_rfl) rfl (by kernel_rfl) (by kernel_rfl) ⟨v1, y2⟩ ?_
      simp only [opsAt, opsNo, List.getElem?_toArray, List.getElem?_cons_zero, List.getElem?_cons_succ]
      iterate 8
        refine lex_cons ?_ rfl (fun W hW => ?_) (fun _ _ _ h => h) ?_
        rotate_left
        · obtain ⟨s0, s1'⟩ := hW
          go_simp <;> with_reducible rfl
        simp only [Act.put, List.setIfInBounds_toArray, List.set_cons_zero, List.set_cons_succ]
      refine lex_nil (tailK_cons fun K hK => ?_)
      refine step_call2 rfl 38 (.tmp 129) (.tmp 130) 29 3 rfl en38 ?_
      refine HC.mono ?_
      rintro e w3 ⟨rfl, hw⟩
      have hw' := hw.symm
      clear hw
      subst hw'
      refine ⟨_, rfl, hK.out _ _ (fun _ => ⟨v1, y2⟩) (tailK_cons fun K hK => ?_)⟩
      simp only [Act.put, List.setIfInBounds_toArray, List.set_cons_zero, List.set_cons_succ]
      go_simp
      try rw [hA2']
      refine hK.out _ _ (fun _ => ⟨v1, y2⟩) (tailK_cons fun K hK => ?_)
      simp only [Act.put, List.setIfInBounds_toArray, List.set_cons_zero, List.set_cons_succ]
      go_simp
      refine hK.out _ _ (fun _ => ⟨v1, y2⟩) (tailK_nil ?_)
      try simp only [Act.put, List.setIfInBounds_toArray, List.set_cons_zero, List.set_cons_succ]
      clear HC v1 y0 y1 y2 y7 y9 hA2'
      clear hbit'
      cases hd
      · go_wp2_with fail
        go_end0
        exact stop_post HVD.out.hm HFD.out (fun _ => HXY.out _ (.fails HHD.out.symm))
      · go_wp2_with (first | (go_at_call 37; (with_reducible refine HC2.mono ?_); rintro e w1 hp; have hq := hid (step_post (p := p) (was := was) (caps := caps) hp HFD.out h0 (fun o hx => HXY.out o (.holds HHD.out.symm hx))); obtain ⟨rfl, -⟩ := hp; clear HC2))
        go_end0
        exact hq.out
end Go.Proofs.Ytnpocciioedgpaa
/- HELPERS: the hunt: begin, kind 4. -/
namespace Go.Proofs.Ytnpocciioedgpaa
open Go.RowKit
set_option linter.unusedVariables false
set_option linter.unusedSimpArgs false
set_option maxRecDepth 100000 in
set_option maxHeartbeats 8000000 in
theorem begin_4 {C : HC} (hk : HCk C) {f : Nat} (hB : Hid (BeginC C f)) (hO : Hid (OnC C f)) (hD : Hid (DecideC C f)) (hf : f ≤ 10000) {W : World} {left : Int} {out : List (Int × List Int)} {lb : Nat} {R : List (Int × Int)} {a : Int} {s : List Lt} {mn mx : Int} {lz : Bool} {ix : Int} {nm : ByteArray} {B : Way} {up : Int} {nth : Nat} {p : Nat} {caps : List Int} {cv : Value} {was : List (Int × Int)} {KW : List Int} {wv : Value}
    (he : (⟨.mk lb 4 R a s mn mx lz ix nm, B, up, nth⟩ : Pl) ∈ C.L) (h : HIn C W left out p caps cv was KW wv (f + 1)) :
    Calls Try.prog 18 #[.pointer (some ⟨C.hb, 0, none⟩), .int .i64 (lb : Int), .int .i64 (p : Int), cv, wv] W (HPost C (f + 1) ((Lt.mk lb 4 R a s mn mx lz ix nm).fw B) p was caps left out W) := by
  have hF := node_fine (hk.fine _ he)
  have hlb := hk.num _ he
  have hnn := hk.nn
  have htn := hk.tn64
  have hp := h.p64
  simp only [Lt.lb] at hlb
  obtain ⟨-, -, -, -, -, -, k3, -, ku, -, -⟩ := h.hm.cells
  have u3 := ku 3
  obtain ⟨W1, hW1⟩ : ∃ W1, W1 = W.setCell ⟨C.hb, 3, none⟩ (.int .i64 (left - 1)) := ⟨_, rfl⟩
  obtain ⟨hm1, fr1⟩ := h.hm.dec
  rw [← hW1] at hm1 fr1
  obtain ⟨-, -, -, -, -, -, l3, -, -, -, -⟩ := hm1.cells
  have HHM := hid hm1
  have HF1 := hid fr1
  obtain ⟨key, hkey⟩ : ∃ key : Int, key = 2 * (100 * (lb : Int) + (p : Int)) + 1 := ⟨_, rfl⟩
  have hw1 := fr1.row h.wasr
  obtain ⟨wa, wc, ewv⟩ := hw1.form
  subst ewv
  have hDid := did35 KW wa KW.length wc key W1 _ (hw1.text (by have := h.sz; omega))
  have hAnd := and36 KW (.slice wa KW.length wc) key W1 hw1.src (by have := h.sz; omega)
  have hdec : decide (key ∈ KW) = decide ((kb lb, (p : Int)) ∈ was) := by
    rw [hkey]; exact decide_eq_decide.2 ((h.kr lb p (by omega)).1.symm)
  rw [hdec] at hDid
  have hr3 : -100000000000 ≤ left ∧ left ≤ 20000 := ⟨h.lo, by have := h.fuel; omega⟩
  have HH := hid h
  have hlb3 : (lb : Int) ≤ 300000 := by omega
  have hp64 : (p : Int) ≤ 64 := by omega
  have b1 : (lb : Int) < (C.n : Int) := by omega
  have HK : Hid (KR ((kb lb, (p : Int)) :: was) (KW ++ [key])) := by rw [hkey]; exact hid (h.kr.begun (by omega))
  have HKY := hid hkey
  have HW1 := hid hW1
  obtain ⟨d, hd⟩ : ∃ d, d = decide ((kb lb, (p : Int)) ∈ was) := ⟨_, rfl⟩
  rw [← hd] at hDid
  have HD := hid hd
  obtain ⟨was', hwas⟩ : ∃ was', was' = (kb lb, (p : Int)) :: was := ⟨_, rfl⟩
  rw [← hwas] at HK
  have HXX : Hid (0 < left → d = false → ∀ o, Hx C.tx C.E (fwC s B) p was' (caps.set 0 C.frm) out o → Hx C.tx C.E ((Lt.mk lb 4 R a s mn mx lz ix nm).fw B) p was (caps.set 0 C.frm) out o) := fun _ hdf o hx => by
    simp only [Lt.fw]
    refine .once (by simp only [kb]; omega) (of_decide_eq_false (hd.symm.trans hdf)) ?_
    rw [← hwas]
    simpa using hx
  have HSK : Hid (d = true → Hx C.tx C.E ((Lt.mk lb 4 R a s mn mx lz ix nm).fw B) p was (caps.set 0 C.frm) out out) := fun hdt => by
    simp only [Lt.fw]
    exact .skip (by simp only [kb]; omega) (of_decide_eq_true (hd.symm.trans hdt))
  have HHK := hid hk
  have HHE := hid he
  have HFN := hid hF
  have HFF := hid hf
  clear hd hk hf he hF hlb hnn htn hp hm1 fr1 hw1 h hdec hW1 ku hkey hwas
  generalize (Lt.mk lb 4 R a s mn mx lz ix nm).fw B = WB at HXX HSK ⊢
  go_enter Try.func18, Try.ntmps18
  go_upto_region 2 with fail
  rw [← HW1.out, ← HKY.out]
  clear k3 u3
  go_upto_region 3 with (first | (go_at_call 35; (with_reducible refine hDid.mono ?_); rintro e w1 ⟨rfl, rfl⟩))
  by_cases hl : left - 1 < 0
  · go_wp2_with fail
    refine bodyPost_ret (results_none rfl _ _ _) rfl ?_
    exact stop_post HHM.out HF1.out (fun h => by omega)
  · have h0 : 0 < left := by omega
    cases d
    rotate_left
    · go_wp2_with fail
      refine bodyPost_ret (results_none rfl _ _ _) rfl ?_
      exact stop_post HHM.out HF1.out (fun h => HSK.out (by first | rfl | trivial))
    · have HXY := hid (HXX.out h0 rfl)
      clear HXX HSK HD
      go_upto_region 5 with (first | (go_at_call 36; (with_reducible refine hAnd.mono ?_); rintro e w2 ⟨v', rfl, ho, hb⟩; obtain ⟨hm2, fr2⟩ := HHM.out.below hb; have hrow := Rw.of ho (by omega); have hfr := HF1.out.trans fr2; have hin := HH.out.and h0 HK.out hm2 hfr hrow; clear ho hb hm2 fr2))
      clear l3 hAnd hDid
      obtain ⟨r1, r3, s1, s2, s3, sa, sc, hP, hRP, hRk, hR, ok⟩ := hin.hm.at HHE.out
      obtain ⟨-, -, -, k0, -, -, -, -, -, -, -⟩ := hin.hm.cells
      obtain ⟨V, hV⟩ : ∃ V, V = w2.alloc (.cells #[.int .i64 4, .slice r1 R.length r3, .int .i64 a, .slice s1 s2 s3, .int .i64 mn, .int .i64 mx, .bool lz, .int .i64 ix, .string nm, .slice sa s.length sc, .int .i64 up, .int .i64 (nth : Int)] 64) := ⟨_, rfl⟩
      obtain ⟨hmV, frV⟩ := hin.hm.copy (o := .cells #[.int .i64 4, .slice r1 R.length r3, .int .i64 a, .slice s1 s2 s3, .int .i64 mn, .int .i64 mx, .bool lz, .int .i64 ix, .string nm, .slice sa s.length sc, .int .i64 up, .int .i64 (nth : Int)] 64)
      have hY : V.heap[w2.heap.size]? = some (.cells #[.int .i64 4, .slice r1 R.length r3, .int .i64 a, .slice s1 s2 s3, .int .i64 mn, .int .i64 mx, .bool lz, .int .i64 ix, .string nm, .slice sa s.length sc, .int .i64 up, .int .i64 (nth : Int)] 64 (0, 0)) := by rw [hV]; exact heap_alloc_new w2 _
      rw [← hV] at hmV frV
      obtain ⟨y, hy⟩ : ∃ y, y = w2.heap.size := ⟨_, rfl⟩
      rw [← hy] at hY
      have HV := hid (hin.go (f' := f) hmV frV (Int.le_refl _) hin.fuel hin.lo)
      have HFV := hid (hfr.trans frV)
      have HYV := hid hV
      have HEY := hid hy
      have HY : Hid (∀ w', Fr C V w' → w'.heap[y]? = some (.cells #[.int .i64 4, .slice r1 R.length r3, .int .i64 a, .slice s1 s2 s3, .int .i64 mn, .int .i64 mx, .bool lz, .int .i64 ix, .string nm, .slice sa s.length sc, .int .i64 up, .int .i64 (nth : Int)] 64 (0, 0))) := fun w' fr => fr.box _ _ hY
      have HRV : Hid (∀ w', Fr C V w' → Rw w' (.slice sa s.length sc) (s.map fun t => (t.lb : Int))) := fun w' fr => fr.row (frV.row hR)
      have HRP : Hid (∀ w', Fr C V w' → RP w' (fun b => b < C.NB ∧ b ≠ C.hb) r1 R) := fun w' fr => hRP.kept (fun b hb => ((frV.trans fr).low b hb.1 hb.2)) (fun b hb => hb)
      have HRK := hid hRk
      have HOK := hid ok
      simp only [P12] at hP
      obtain ⟨p0, p1, p2, p3, p4, p5, p6, p7, p8, p9, p10, p11⟩ := hP
      clear hin hrow hfr hRP hRk hR ok hV hmV frV hY hy
      go_upto_region 6 with fail
      rw [← HYV.out, ← HEY.out]
      clear p0 p1 p2 p3 p4 p5 p6 p7 p8 p9 p10 p11 k0
      obtain ⟨y0, y1, y2, -, -, -, y7, y9⟩ := box12' (HY.out V (Fr.refl C V))
      have hs0 : 0 < s.length := by have := HFN.out.two (.inl rfl); omega
      have HC := hB.out V (left - 1) out _ p caps cv was' (KW ++ [key]) v' (HHK.out.child _ HHE.out 0 (by simpa [Lt.sub] using hs0)) HV.out
      simp only [child, Lt.sub, subB, if_pos] at HC
      obtain ⟨g, hg, g0⟩ := sub_at (HRV.out V (Fr.refl C V)) hs0
      subst hg
      have HWW : Hid (fwC s B = (s[0]).fw (fwC (s.drop 1) B)) := hid (by have := fwC_next (B := B) hs0; simpa using this)
      rw [show 0 + 1 = 1 from rfl, ← HWW.out] at HC
      obtain ⟨x, hx⟩ : ∃ x : Nat, x = (s[0]).lb := ⟨_, rfl⟩
      rw [← hx] at HC g0
      clear hx
      obtain ⟨sl, hsl⟩ : ∃ sl, sl = s.length := ⟨_, rfl⟩
      rw [← hsl] at y9 hs0
      clear hsl
      have q1 : (0 : Int) < (sl : Int) := by omega
      go_wp2_with (first | (go_at_call 18; (with_reducible refine HC.mono ?_); rintro e w1 hp; have hq := hid (step_post hp HFV.out h0 HXY.out); obtain ⟨rfl, -⟩ := hp; clear HC))
      go_end0
      exact hq.out
end Go.Proofs.Ytnpocciioedgpaa
/- HELPERS: the hunt: begin, kind 5. -/
namespace Go.Proofs.Ytnpocciioedgpaa
open Go.RowKit
set_option linter.unusedVariables false
set_option linter.unusedSimpArgs false
theorem fwA_len : ∀ (s : List Lt) (B : Way), (fwA s B).length = s.length
  | [], _ => by simp [fwA]
  | t :: ts, B => by simp [fwA, fwA_len ts B]
theorem fwA_get : ∀ (s : List Lt) (B : Way) (i : Nat) (hi : i < s.length), (fwA s B)[i]'(by rw [fwA_len]; exact hi) = (s[i]).fw B
  | [], _, i, hi => by simp at hi
  | t :: ts, B, 0, hi => by simp [fwA]
  | t :: ts, B, i + 1, hi => by
    have := fwA_get ts B i (by simpa using hi)
    simpa [fwA] using this
/-- so many alternatives were tried -/
def AltI (C : HC) (f : Nat) (s : List Lt) (B : Way) (p : Nat) (was : List (Int × Int)) (caps : List Int) (left : Int) (out : List (Int × List Int)) (V W : World) (i : Nat) : Prop :=
  ∃ left' out', HM C W left' out' ∧ Fr C V W ∧ left' ≤ left ∧ LBv f - (i : Int) ≤ left' ∧ (0 ≤ left' → ∃ oo : Nat → List (Int × List Int), oo 0 = out ∧ oo i = out' ∧ ∀ j (hj : j < s.length), j < i → Hx C.tx C.E ((s[j]).fw B) p was (caps.set 0 C.frm) (oo j) (oo (j + 1)))
theorem AltI.next {C : HC} {f : Nat} {s : List Lt} {B : Way} {p : Nat} {was : List (Int × Int)} {caps : List Int} {left left' : Int} {out out' : List (Int × List Int)} {V W W' : World} {i : Nat} {e : Ending} (hi : i < s.length) (hf : Fr C V W) (hl : left' ≤ left) (hb : LBv f - (i : Int) ≤ left') (ho : 0 ≤ left' → ∃ oo : Nat → List (Int × List Int), oo 0 = out ∧ oo i = out' ∧ ∀ j (hj : j < s.length), j < i → Hx C.tx C.E ((s[j]).fw B) p was (caps.set 0 C.frm) (oo j) (oo (j + 1)))
    (h : HPost C f ((s[i]).fw B) p was caps left' out' W e W') : AltI C f s B p was caps left out V W' (i + 1) := by
  obtain ⟨h1, left2, out2, h2, h3, h4, h5, h6⟩ := h
  have hll : left2 < left' ∧ LBv f - ((i + 1 : Nat) : Int) ≤ left2 := by
    simp only [LBv] at hb h4 ⊢
    by_cases hz : left' ≤ 0
    · have := h3 hz
      omega
    · have := h4 (by omega)
      omega
  refine ⟨left2, out2, h2, hf.trans h6, by omega, hll.2, fun hz => ?_⟩
  obtain ⟨oo, o1, o2, o3⟩ := ho (by omega)
  refine ⟨fun n => if n = i + 1 then out2 else oo n, by simp [o1], by simp, fun j hj hji => ?_⟩
  by_cases hje : j = i
  · subst hje
    have := h5 hz
    rw [← o2] at this
    simpa using this
  · have := o3 j hj (by omega)
    simpa [show j ≠ i + 1 by omega, hje] using this
set_option maxRecDepth 100000 in
set_option maxHeartbeats 8000000 in
theorem begin_5 {C : HC} (hk : HCk C) {f : Nat} (hB : Hid (BeginC C f)) (hO : Hid (OnC C f)) (hD : Hid (DecideC C f)) (hf : f ≤ 10000) {W : World} {left : Int} {out : List (Int × List Int)} {lb : Nat} {R : List (Int × Int)} {a : Int} {s : List Lt} {mn mx : Int} {lz : Bool} {ix : Int} {nm : ByteArray} {B : Way} {up : Int} {nth : Nat} {p : Nat} {caps : List Int} {cv : Value} {was : List (Int × Int)} {KW : List Int} {wv : Value}
    (he : (⟨.mk lb 5 R a s mn mx lz ix nm, B, up, nth⟩ : Pl) ∈ C.L) (h : HIn C W left out p caps cv was KW wv (f + 1)) :
    Calls Try.prog 18 #[.pointer (some ⟨C.hb, 0, none⟩), .int .i64 (lb : Int), .int .i64 (p : Int), cv, wv] W (HPost C (f + 1) ((Lt.mk lb 5 R a s mn mx lz ix nm).fw B) p was caps left out W) := by
  have hF := node_fine (hk.fine _ he)
  have hlb := hk.num _ he
  have hnn := hk.nn
  have htn := hk.tn64
  have hp := h.p64
  simp only [Lt.lb] at hlb
  obtain ⟨-, -, -, -, -, -, k3, -, ku, -, -⟩ := h.hm.cells
  have u3 := ku 3
  obtain ⟨W1, hW1⟩ : ∃ W1, W1 = W.setCell ⟨C.hb, 3, none⟩ (.int .i64 (left - 1)) := ⟨_, rfl⟩
  obtain ⟨hm1, fr1⟩ := h.hm.dec
  rw [← hW1] at hm1 fr1
  obtain ⟨-, -, -, -, -, -, l3, -, -, -, -⟩ := hm1.cells
  have HHM := hid hm1
  have HF1 := hid fr1
  obtain ⟨key, hkey⟩ : ∃ key : Int, key = 2 * (100 * (lb : Int) + (p : Int)) + 1 := ⟨_, rfl⟩
  have hw1 := fr1.row h.wasr
  obtain ⟨wa, wc, ewv⟩ := hw1.form
  subst ewv
  have hDid := did35 KW wa KW.length wc key W1 _ (hw1.text (by have := h.sz; omega))
  have hAnd := and36 KW (.slice wa KW.length wc) key W1 hw1.src (by have := h.sz; omega)
  have hdec : decide (key ∈ KW) = decide ((kb lb, (p : Int)) ∈ was) := by
    rw [hkey]; exact decide_eq_decide.2 ((h.kr lb p (by omega)).1.symm)
  rw [hdec] at hDid
  have hr3 : -100000000000 ≤ left ∧ left ≤ 20000 := ⟨h.lo, by have := h.fuel; omega⟩
  have HH := hid h
  have hlb3 : (lb : Int) ≤ 300000 := by omega
  have hp64 : (p : Int) ≤ 64 := by omega
  have b1 : (lb : Int) < (C.n : Int) := by omega
  have HK : Hid (KR ((kb lb, (p : Int)) :: was) (KW ++ [key])) := by rw [hkey]; exact hid (h.kr.begun (by omega))
  have HKY := hid hkey
  have HW1 := hid hW1
  obtain ⟨d, hd⟩ : ∃ d, d = decide ((kb lb, (p : Int)) ∈ was) := ⟨_, rfl⟩
  rw [← hd] at hDid
  have HD := hid hd
  obtain ⟨was', hwas⟩ : ∃ was', was' = (kb lb, (p : Int)) :: was := ⟨_, rfl⟩
  rw [← hwas] at HK
  have HXX : Hid (0 < left → d = false → ∀ o, Hx C.tx C.E (.inOrder (fwA s B)) p was' (caps.set 0 C.frm) out o → Hx C.tx C.E ((Lt.mk lb 5 R a s mn mx lz ix nm).fw B) p was (caps.set 0 C.frm) out o) := fun _ hdf o hx => by
    simp only [Lt.fw]
    refine .once (by simp only [kb]; omega) (of_decide_eq_false (hd.symm.trans hdf)) ?_
    rw [← hwas]
    simpa using hx
  have HSK : Hid (d = true → Hx C.tx C.E ((Lt.mk lb 5 R a s mn mx lz ix nm).fw B) p was (caps.set 0 C.frm) out out) := fun hdt => by
    simp only [Lt.fw]
    exact .skip (by simp only [kb]; omega) (of_decide_eq_true (hd.symm.trans hdt))
  have HHK := hid hk
  have HHE := hid he
  have HFN := hid hF
  have HFF := hid hf
  clear hd hk hf he hF hlb hnn htn hp hm1 fr1 hw1 h hdec hW1 ku hkey hwas
  generalize (Lt.mk lb 5 R a s mn mx lz ix nm).fw B = WB at HXX HSK ⊢
  go_enter Try.func18, Try.ntmps18
  go_upto_region 2 with fail
  rw [← HW1.out, ← HKY.out]
  clear k3 u3
  go_upto_region 3 with (first | (go_at_call 35; (with_reducible refine hDid.mono ?_); rintro e w1 ⟨rfl, rfl⟩))
  by_cases hl : left - 1 < 0
  · go_wp2_with fail
    refine bodyPost_ret (results_none rfl _ _ _) rfl ?_
    exact stop_post HHM.out HF1.out (fun h => by omega)
  · have h0 : 0 < left := by omega
    cases d
    rotate_left
    · go_wp2_with fail
      refine bodyPost_ret (results_none rfl _ _ _) rfl ?_
      exact stop_post HHM.out HF1.out (fun h => HSK.out (by first | rfl | trivial))
    · have HXY := hid (HXX.out h0 rfl)
      clear HXX HSK HD
      go_upto_region 5 with (first | (go_at_call 36; (with_reducible refine hAnd.mono ?_); rintro e w2 ⟨v', rfl, ho, hb⟩; obtain ⟨hm2, fr2⟩ := HHM.out.below hb; have hrow := Rw.of ho (by omega); have hfr := HF1.out.trans fr2; have hin := HH.out.and h0 HK.out hm2 hfr hrow; clear ho hb hm2 fr2))
      clear l3 hAnd hDid
      obtain ⟨r1, r3, s1, s2, s3, sa, sc, hP, hRP, hRk, hR, ok⟩ := hin.hm.at HHE.out
      obtain ⟨-, -, -, k0, -, -, -, -, -, -, -⟩ := hin.hm.cells
      obtain ⟨V, hV⟩ : ∃ V, V = w2.alloc (.cells #[.int .i64 5, .slice r1 R.length r3, .int .i64 a, .slice s1 s2 s3, .int .i64 mn, .int .i64 mx, .bool lz, .int .i64 ix, .string nm, .slice sa s.length sc, .int .i64 up, .int .i64 (nth : Int)] 64) := ⟨_, rfl⟩
      obtain ⟨hmV, frV⟩ := hin.hm.copy (o := .cells #[.int .i64 5, .slice r1 R.length r3, .int .i64 a, .slice s1 s2 s3, .int .i64 mn, .int .i64 mx, .bool lz, .int .i64 ix, .string nm, .slice sa s.length sc, .int .i64 up, .int .i64 (nth : Int)] 64)
      have hY : V.heap[w2.heap.size]? = some (.cells #[.int .i64 5, .slice r1 R.length r3, .int .i64 a, .slice s1 s2 s3, .int .i64 mn, .int .i64 mx, .bool lz, .int .i64 ix, .string nm, .slice sa s.length sc, .int .i64 up, .int .i64 (nth : Int)] 64 (0, 0)) := by rw [hV]; exact heap_alloc_new w2 _
      rw [← hV] at hmV frV
      obtain ⟨y, hy⟩ : ∃ y, y = w2.heap.size := ⟨_, rfl⟩
      rw [← hy] at hY
      have HV := hid (hin.go (f' := f) hmV frV (Int.le_refl _) hin.fuel hin.lo)
      have HFV := hid (hfr.trans frV)
      have HYV := hid hV
      have HEY := hid hy
      have HY : Hid (∀ w', Fr C V w' → w'.heap[y]? = some (.cells #[.int .i64 5, .slice r1 R.length r3, .int .i64 a, .slice s1 s2 s3, .int .i64 mn, .int .i64 mx, .bool lz, .int .i64 ix, .string nm, .slice sa s.length sc, .int .i64 up, .int .i64 (nth : Int)] 64 (0, 0))) := fun w' fr => fr.box _ _ hY
      have HRV : Hid (∀ w', Fr C V w' → Rw w' (.slice sa s.length sc) (s.map fun t => (t.lb : Int))) := fun w' fr => fr.row (frV.row hR)
      have HRP : Hid (∀ w', Fr C V w' → RP w' (fun b => b < C.NB ∧ b ≠ C.hb) r1 R) := fun w' fr => hRP.kept (fun b hb => ((frV.trans fr).low b hb.1 hb.2)) (fun b hb => hb)
      have HRK := hid hRk
      have HOK := hid ok
      simp only [P12] at hP
      obtain ⟨p0, p1, p2, p3, p4, p5, p6, p7, p8, p9, p10, p11⟩ := hP
      clear hin hrow hfr hRP hRk hR ok hV hmV frV hY hy
      go_upto_region 6 with fail
      rw [← HYV.out, ← HEY.out]
      clear p0 p1 p2 p3 p4 p5 p6 p7 p8 p9 p10 p11 k0
      obtain ⟨y0, y1, y2, -, -, -, y7, y9⟩ := box12' (HY.out V (Fr.refl C V))
      have HB5 : Hid (∀ (i : Nat) (hi : i < s.length) w' left' out', HM C w' left' out' → Fr C V w' → left' ≤ left - 1 → LBv f - (i : Int) ≤ left' → Calls Try.prog 18 #[.pointer (some ⟨C.hb, 0, none⟩), .int .i64 ((s[i]).lb : Int), .int .i64 (p : Int), cv, v'] w' (HPost C f ((s[i]).fw B) p was' caps left' out' w')) := fun i hi w' left' out' hm fr h1 h2 => by
        have hsub := HHK.out.subs _ HHE.out
        simp only [Lt.sub] at hsub
        have hff := HFF.out
        simp only [LBv] at h2
        have h := HV.out.go (f' := f) hm fr h1 (by have := HV.out.fuel; omega) (by omega)
        have := hB.out w' left' out' _ p caps cv was' (KW ++ [key]) v' (HHK.out.child _ HHE.out i (by simpa [Lt.sub] using hi)) h
        simp only [child, Lt.sub, subB] at this
        simpa using this
      have hsl5 : s.length ≤ 300000 := by
        have hsub := HHK.out.subs _ HHE.out
        simpa only [Lt.sub] using hsub
      have hg : ∃ g, sa = some ⟨g, 0, none⟩ := by
        obtain ⟨g, e, _⟩ := sub_at (HRV.out V (Fr.refl C V)) (i := 0) (by have := HFN.out.two (.inr rfl); omega)
        exact ⟨g, e⟩
      obtain ⟨g, rfl⟩ := hg
      have HG0 : Hid (∀ (i : Nat) (hi : i < s.length) w', Fr C V w' → w'.cell? ⟨g, i, none⟩ = some (.int .i64 ((s[i]).lb : Int))) := fun i hi w' fr => by
        obtain ⟨g', e, h⟩ := sub_at (HRV.out w' fr) hi
        simp only [Option.some.injEq, Addr.mk.injEq] at e
        obtain ⟨rfl, -⟩ := e
        exact h
      have HI0 : Hid (AltI C f s B p was' caps (left - 1) out V V 0) := hid ⟨left - 1, out, HV.out.hm, Fr.refl C V, Int.le_refl _, by simp only [LBv]; omega, fun _ => ⟨fun _ => out, rfl, rfl, fun j _ hj => by omega⟩⟩
      obtain ⟨sl, hsl⟩ : ∃ sl, sl = s.length := ⟨_, rfl⟩
      have HSL := hid hsl
      rw [← hsl] at y9 hsl5
      have HY9 : Hid (∀ w', Fr C V w' → w'.cell? ⟨y, 9, none⟩ = some (.slice (some ⟨g, 0, none⟩) sl sc)) := fun w' fr => by
        obtain ⟨-, -, -, -, -, -, -, z9⟩ := box12' (HY.out w' fr)
        rw [hsl]
        exact z9
      clear hsl
      go_wp2_with fail
      go_loopw [14] (fun x wq => ∃ (i : Nat), x = .int .i64 (i : Int) ∧ i ≤ sl ∧ Hid (AltI C f s B p was' caps (left - 1) out V wq i)) (fun x _ => sl - (intOf x).toNat)
      case atStart => exact ⟨0, rfl, by omega, HI0⟩
      case round =>
        obtain ⟨i, rfl, hi, HI⟩ := hrel
        clear HI0 y0 y1 y2 y7 y9
        obtain ⟨left', out', hmI, frI, hl1, hl2, hoo⟩ := HI.out
        have z9 := HY9.out _ frI
        by_cases hlt : i < sl
        · have b2 : (i : Int) < (sl : Int) := by omega
          have b3 : decide ((i : Int) < (sl : Int)) = true := by simp; omega
          have ad1 : IntKind.i64.wrap ((i : Int) + 1) = (i : Int) + 1 := by simp [IntKind.wrap, IntKind.bits, IntKind.signed]; omega
          have hil : i < s.length := by rw [← HSL.out]; exact hlt
          have g0 := HG0.out i hil _ frI
          have HC := HB5.out i hil _ left' out' hmI frI hl1 hl2
          have HNX : Hid (∀ e w', HPost C f ((s[i]).fw B) p was' caps left' out' wr e w' → AltI C f s B p was' caps (left - 1) out V w' (i + 1)) := fun e w' h => AltI.next hil frI hl1 hl2 hoo h
          obtain ⟨x, hx⟩ : ∃ x : Nat, x = (s[i]).lb := ⟨_, rfl⟩
          rw [← hx] at HC g0
          clear hx hoo hmI frI hl1 hl2
          go_wp2_with (first | (go_at_call 18; (with_reducible refine HC.mono ?_); rintro e w1 hp; have hq := hid (HNX.out _ _ hp); obtain ⟨rfl, -⟩ := hp; clear HC HNX))
          exact ⟨⟨i + 1, by push_cast; rfl, by omega, hq⟩, by simp [intOf]; omega⟩
        · have b3 : decide ((i : Int) < (sl : Int)) = false := by simp; omega
          have HQ : Hid (HPost C (f + 1) WB p was caps left out W (.returned (.tuple #[])) wr) := by
            refine hid ⟨rfl, left', out', hmI, fun h => by omega, fun _ => ⟨by omega, ?_⟩, fun hz => HXY.out _ ?_, HFV.out.trans frI⟩
            · simp only [LBv] at hl2 ⊢
              omega
            · obtain ⟨oo, o1, o2, o3⟩ := hoo hz
              have hil : i = (fwA s B).length := by rw [fwA_len, ← HSL.out]; omega
              have := Hx.inOrder (tx := C.tx) (E := C.E) (l := fwA s B) (p := p) (was := was') (ν := caps.set 0 C.frm) oo (fun j hj => by
                have hj' : j < s.length := by rw [fwA_len] at hj; exact hj
                rw [fwA_get s B j hj']
                exact o3 j hj' (by rw [fwA_len] at hil; omega))
              rw [o1, ← hil, o2] at this
              exact this
          clear hoo hmI frI hl1 hl2
          go_wp2_with fail
          go_end0
          exact HQ.out
end Go.Proofs.Ytnpocciioedgpaa
/- HELPERS: the hunt: begin, kind 6. -/
namespace Go.Proofs.Ytnpocciioedgpaa
open Go.RowKit
set_option linter.unusedVariables false
set_option linter.unusedSimpArgs false
set_option maxRecDepth 100000 in
set_option maxHeartbeats 8000000 in
theorem begin_6 {C : HC} (hk : HCk C) {f : Nat} (hB : Hid (BeginC C f)) (hO : Hid (OnC C f)) (hD : Hid (DecideC C f)) (hf : f ≤ 10000) {W : World} {left : Int} {out : List (Int × List Int)} {lb : Nat} {R : List (Int × Int)} {a : Int} {s : List Lt} {mn mx : Int} {lz : Bool} {ix : Int} {nm : ByteArray} {B : Way} {up : Int} {nth : Nat} {p : Nat} {caps : List Int} {cv : Value} {was : List (Int × Int)} {KW : List Int} {wv : Value}
    (he : (⟨.mk lb 6 R a s mn mx lz ix nm, B, up, nth⟩ : Pl) ∈ C.L) (h : HIn C W left out p caps cv was KW wv (f + 1)) :
    Calls Try.prog 18 #[.pointer (some ⟨C.hb, 0, none⟩), .int .i64 (lb : Int), .int .i64 (p : Int), cv, wv] W (HPost C (f + 1) ((Lt.mk lb 6 R a s mn mx lz ix nm).fw B) p was caps left out W) := by
  have hF := node_fine (hk.fine _ he)
  have hlb := hk.num _ he
  have hnn := hk.nn
  have htn := hk.tn64
  have hp := h.p64
  simp only [Lt.lb] at hlb
  obtain ⟨-, -, -, -, -, -, k3, -, ku, -, -⟩ := h.hm.cells
  have u3 := ku 3
  obtain ⟨W1, hW1⟩ : ∃ W1, W1 = W.setCell ⟨C.hb, 3, none⟩ (.int .i64 (left - 1)) := ⟨_, rfl⟩
  obtain ⟨hm1, fr1⟩ := h.hm.dec
  rw [← hW1] at hm1 fr1
  obtain ⟨-, -, -, -, -, -, l3, -, -, -, -⟩ := hm1.cells
  have HHM := hid hm1
  have HF1 := hid fr1
  obtain ⟨key, hkey⟩ : ∃ key : Int, key = 2 * (100 * (lb : Int) + (p : Int)) + 1 := ⟨_, rfl⟩
  have hw1 := fr1.row h.wasr
  obtain ⟨wa, wc, ewv⟩ := hw1.form
  subst ewv
  have hDid := did35 KW wa KW.length wc key W1 _ (hw1.text (by have := h.sz; omega))
  have hAnd := and36 KW (.slice wa KW.length wc) key W1 hw1.src (by have := h.sz; omega)
  have hdec : decide (key ∈ KW) = decide ((kb lb, (p : Int)) ∈ was) := by
    rw [hkey]; exact decide_eq_decide.2 ((h.kr lb p (by omega)).1.symm)
  rw [hdec] at hDid
  have hr3 : -100000000000 ≤ left ∧ left ≤ 20000 := ⟨h.lo, by have := h.fuel; omega⟩
  have HH := hid h
  have hlb3 : (lb : Int) ≤ 300000 := by omega
  have hp64 : (p : Int) ≤ 64 := by omega
  have b1 : (lb : Int) < (C.n : Int) := by omega
  have HK : Hid (KR ((kb lb, (p : Int)) :: was) (KW ++ [key])) := by rw [hkey]; exact hid (h.kr.begun (by omega))
  have HKY := hid hkey
  have HW1 := hid hW1
  obtain ⟨d, hd⟩ : ∃ d, d = decide ((kb lb, (p : Int)) ∈ was) := ⟨_, rfl⟩
  rw [← hd] at hDid
  have HD := hid hd
  obtain ⟨was', hwas⟩ : ∃ was', was' = (kb lb, (p : Int)) :: was := ⟨_, rfl⟩
  rw [← hwas] at HK
  have HXX : Hid (0 < left → d = false → ∀ o, Hx C.tx C.E (if mx < 0 then (if mn = 0 then Kd lz lb B else fwH s (Kd lz lb B)) else .inOrder (if lz = true then [B, fwH s B] else [fwH s B, B])) p was' (caps.set 0 C.frm) out o → Hx C.tx C.E ((Lt.mk lb 6 R a s mn mx lz ix nm).fw B) p was (caps.set 0 C.frm) out o) := fun _ hdf o hx => by
    simp only [Lt.fw]
    refine .once (by simp only [kb]; omega) (of_decide_eq_false (hd.symm.trans hdf)) ?_
    rw [← hwas]
    simpa using hx
  have HSK : Hid (d = true → Hx C.tx C.E ((Lt.mk lb 6 R a s mn mx lz ix nm).fw B) p was (caps.set 0 C.frm) out out) := fun hdt => by
    simp only [Lt.fw]
    exact .skip (by simp only [kb]; omega) (of_decide_eq_true (hd.symm.trans hdt))
  have HHK := hid hk
  have HHE := hid he
  have HFN := hid hF
  have HFF := hid hf
  clear hd hk hf he hF hlb hnn htn hp hm1 fr1 hw1 h hdec hW1 ku hkey hwas
  generalize (Lt.mk lb 6 R a s mn mx lz ix nm).fw B = WB at HXX HSK ⊢
  go_enter Try.func18, Try.ntmps18
  go_upto_region 2 with fail
  rw [← HW1.out, ← HKY.out]
  clear k3 u3
  go_upto_region 3 with (first | (go_at_call 35; (with_reducible refine hDid.mono ?_); rintro e w1 ⟨rfl, rfl⟩))
  by_cases hl : left - 1 < 0
  · go_wp2_with fail
    refine bodyPost_ret (results_none rfl _ _ _) rfl ?_
    exact stop_post HHM.out HF1.out (fun h => by omega)
  · have h0 : 0 < left := by omega
    cases d
    rotate_left
    · go_wp2_with fail
      refine bodyPost_ret (results_none rfl _ _ _) rfl ?_
      exact stop_post HHM.out HF1.out (fun h => HSK.out (by first | rfl | trivial))
    · have HXY := hid (HXX.out h0 rfl)
      clear HXX HSK HD
      go_upto_region 5 with (first | (go_at_call 36; (with_reducible refine hAnd.mono ?_); rintro e w2 ⟨v', rfl, ho, hb⟩; obtain ⟨hm2, fr2⟩ := HHM.out.below hb; have hrow := Rw.of ho (by omega); have hfr := HF1.out.trans fr2; have hin := HH.out.and h0 HK.out hm2 hfr hrow; clear ho hb hm2 fr2))
      clear l3 hAnd hDid
      obtain ⟨r1, r3, s1, s2, s3, sa, sc, hP, hRP, hRk, hR, ok⟩ := hin.hm.at HHE.out
      obtain ⟨-, -, -, k0, -, -, -, -, -, -, -⟩ := hin.hm.cells
      obtain ⟨V, hV⟩ : ∃ V, V = w2.alloc (.cells #[.int .i64 6, .slice r1 R.length r3, .int .i64 a, .slice s1 s2 s3, .int .i64 mn, .int .i64 mx, .bool lz, .int .i64 ix, .string nm, .slice sa s.length sc, .int .i64 up, .int .i64 (nth : Int)] 64) := ⟨_, rfl⟩
      obtain ⟨hmV, frV⟩ := hin.hm.copy (o := .cells #[.int .i64 6, .slice r1 R.length r3, .int .i64 a, .slice s1 s2 s3, .int .i64 mn, .int .i64 mx, .bool lz, .int .i64 ix, .string nm, .slice sa s.length sc, .int .i64 up, .int .i64 (nth : Int)] 64)
      have hY : V.heap[w2.heap.size]? = some (.cells #[.int .i64 6, .slice r1 R.length r3, .int .i64 a, .slice s1 s2 s3, .int .i64 mn, .int .i64 mx, .bool lz, .int .i64 ix, .string nm, .slice sa s.length sc, .int .i64 up, .int .i64 (nth : Int)] 64 (0, 0)) := by rw [hV]; exact heap_alloc_new w2 _
      rw [← hV] at hmV frV
      obtain ⟨y, hy⟩ : ∃ y, y = w2.heap.size := ⟨_, rfl⟩
      rw [← hy] at hY
      have HV := hid (hin.go (f' := f) hmV frV (Int.le_refl _) hin.fuel hin.lo)
      have HFV := hid (hfr.trans frV)
      have HYV := hid hV
      have HEY := hid hy
      have HY : Hid (∀ w', Fr C V w' → w'.heap[y]? = some (.cells #[.int .i64 6, .slice r1 R.length r3, .int .i64 a, .slice s1 s2 s3, .int .i64 mn, .int .i64 mx, .bool lz, .int .i64 ix, .string nm, .slice sa s.length sc, .int .i64 up, .int .i64 (nth : Int)] 64 (0, 0))) := fun w' fr => fr.box _ _ hY
      have HRV : Hid (∀ w', Fr C V w' → Rw w' (.slice sa s.length sc) (s.map fun t => (t.lb : Int))) := fun w' fr => fr.row (frV.row hR)
      have HRP : Hid (∀ w', Fr C V w' → RP w' (fun b => b < C.NB ∧ b ≠ C.hb) r1 R) := fun w' fr => hRP.kept (fun b hb => ((frV.trans fr).low b hb.1 hb.2)) (fun b hb => hb)
      have HRK := hid hRk
      have HOK := hid ok
      simp only [P12] at hP
      obtain ⟨p0, p1, p2, p3, p4, p5, p6, p7, p8, p9, p10, p11⟩ := hP
      clear hin hrow hfr hRP hRk hR ok hV hmV frV hY hy
      go_upto_region 6 with fail
      rw [← HYV.out, ← HEY.out]
      clear p0 p1 p2 p3 p4 p5 p6 p7 p8 p9 p10 p11 k0
      obtain ⟨y0, y1, y2, -, -, -, y7, y9⟩ := box12' (HY.out V (Fr.refl C V))
      obtain ⟨t0, rfl⟩ : ∃ t0, s = [t0] := by
        have := (HFN.out.rep rfl).1
        match s, this with
        | [t], _ => exact ⟨t, rfl⟩
      have HC := repeat40 HHK.out hB hO hD HFF.out HHE.out HV.out (by omega)
      generalize (if mx < 0 then (if mn = 0 then Kd lz lb B else fwH [t0] (Kd lz lb B)) else .inOrder (if lz = true then [B, fwH [t0] B] else [fwH [t0] B, B])) = WW at HC HXY
      go_wp2_with (first | (go_at_call 40; (with_reducible refine HC.mono ?_); rintro e w1 hp; have hq := hid (two_post hp HFV.out h0 HXY.out); obtain ⟨rfl, -⟩ := hp; clear HC))
      go_end0
      exact hq.out
end Go.Proofs.Ytnpocciioedgpaa
/- HELPERS: the hunt: begin, kind 7. -/
namespace Go.Proofs.Ytnpocciioedgpaa
open Go.RowKit
set_option linter.unusedVariables false
set_option linter.unusedSimpArgs false
theorem step_call5 {P : Program} {ops : Array Oper} {o : Oper} {a : Act} {w : World} {K : Act → World → Prop} {Q : Exit → Act → World → Prop} {E : Prop} (hg : o.guard = none) (f : FuncId) (x y z x4 x5 : Operand) (t u v t4 t5 : TypeId)
    (hop : o.op = Op.call { callee := Callee.value (.func f), args := #[x, y, z, x4, x5], argTypes := #[t, u, v, t4, t5] }) (hen : ∀ args w, (callFunc f args).run P w = .ok (.enter f args) w)
    (hc : Calls P f #[a.eval x, a.eval y, a.eval z, a.eval x4, a.eval x5] w fun e w' => ∃ v, e = .returned v ∧ K (a.put o.dst v) w') :
    if Region.wanted o (yielded ops a.tmps) = true then Oper.wp P o a w K Q else E := by
  have hw : Region.wanted o (yielded ops a.tmps) = true := by simp [Region.wanted, hg]
  rw [if_pos hw]
  have h2 := hen #[a.eval x, a.eval y, a.eval z, a.eval x4, a.eval x5] w
  unfold Oper.wp
  have ev : a.eval (.func f) = .func (.func f) #[] #[] := rfl
  simp [execOp, hop, resolve, invoke, ev, Deferred.ofValue, h2, Result.andThen]
  show Calls P f #[a.eval x, a.eval y, a.eval z, a.eval x4, a.eval x5] w _
  refine hc.mono fun e w' h => ?_
  obtain ⟨v, rfl, hk⟩ := h
  exact hk
theorem en18 : ∀ (args : Array Value) (w : World), (callFunc 18 args).run Try.prog w = .ok (.enter 18 args) w := enter_of Try.func18 (by kernel_rfl) rfl
set_option maxRecDepth 100000 in
set_option maxHeartbeats 8000000 in
theorem begin_7 {C : HC} (hk : HCk C) {f : Nat} (hB : Hid (BeginC C f)) (hO : Hid (OnC C f)) (hD : Hid (DecideC C f)) (hf : f ≤ 10000) {W : World} {left : Int} {out : List (Int × List Int)} {lb : Nat} {R : List (Int × Int)} {a : Int} {s : List Lt} {mn mx : Int} {lz : Bool} {ix : Int} {nm : ByteArray} {B : Way} {up : Int} {nth : Nat} {p : Nat} {caps : List Int} {cv : Value} {was : List (Int × Int)} {KW : List Int} {wv : Value}
    (he : (⟨.mk lb 7 R a s mn mx lz ix nm, B, up, nth⟩ : Pl) ∈ C.L) (h : HIn C W left out p caps cv was KW wv (f + 1)) :
    Calls Try.prog 18 #[.pointer (some ⟨C.hb, 0, none⟩), .int .i64 (lb : Int), .int .i64 (p : Int), cv, wv] W (HPost C (f + 1) ((Lt.mk lb 7 R a s mn mx lz ix nm).fw B) p was caps left out W) := by
  have hF := node_fine (hk.fine _ he)
  have hlb := hk.num _ he
  have hnn := hk.nn
  have htn := hk.tn64
  have hp := h.p64
  simp only [Lt.lb] at hlb
  obtain ⟨-, -, -, -, -, -, k3, -, ku, -, -⟩ := h.hm.cells
  have u3 := ku 3
  obtain ⟨W1, hW1⟩ : ∃ W1, W1 = W.setCell ⟨C.hb, 3, none⟩ (.int .i64 (left - 1)) := ⟨_, rfl⟩
  obtain ⟨hm1, fr1⟩ := h.hm.dec
  rw [← hW1] at hm1 fr1
  obtain ⟨-, -, -, -, -, -, l3, -, -, -, -⟩ := hm1.cells
  have HHM := hid hm1
  have HF1 := hid fr1
  obtain ⟨key, hkey⟩ : ∃ key : Int, key = 2 * (100 * (lb : Int) + (p : Int)) + 1 := ⟨_, rfl⟩
  have hw1 := fr1.row h.wasr
  obtain ⟨wa, wc, ewv⟩ := hw1.form
  subst ewv
  have hDid := did35 KW wa KW.length wc key W1 _ (hw1.text (by have := h.sz; omega))
  have hAnd := and36 KW (.slice wa KW.length wc) key W1 hw1.src (by have := h.sz; omega)
  have hdec : decide (key ∈ KW) = decide ((kb lb, (p : Int)) ∈ was) := by
    rw [hkey]; exact decide_eq_decide.2 ((h.kr lb p (by omega)).1.symm)
  rw [hdec] at hDid
  have hr3 : -100000000000 ≤ left ∧ left ≤ 20000 := ⟨h.lo, by have := h.fuel; omega⟩
  have HH := hid h
  have hlb3 : (lb : Int) ≤ 300000 := by omega
  have hp64 : (p : Int) ≤ 64 := by omega
  have b1 : (lb : Int) < (C.n : Int) := by omega
  have HK : Hid (KR ((kb lb, (p : Int)) :: was) (KW ++ [key])) := by rw [hkey]; exact hid (h.kr.begun (by omega))
  have HKY := hid hkey
  have HW1 := hid hW1
  obtain ⟨d, hd⟩ : ∃ d, d = decide ((kb lb, (p : Int)) ∈ was) := ⟨_, rfl⟩
  rw [← hd] at hDid
  have HD := hid hd
  obtain ⟨was', hwas⟩ : ∃ was', was' = (kb lb, (p : Int)) :: was := ⟨_, rfl⟩
  rw [← hwas] at HK
  have HXX : Hid (0 < left → d = false → ∀ o, Hx C.tx C.E (.noted (2 * ix.toNat) (fwH s (.noted (2 * ix.toNat + 1) B))) p was' (caps.set 0 C.frm) out o → Hx C.tx C.E ((Lt.mk lb 7 R a s mn mx lz ix nm).fw B) p was (caps.set 0 C.frm) out o) := fun _ hdf o hx => by
    simp only [Lt.fw]
    refine .once (by simp only [kb]; omega) (of_decide_eq_false (hd.symm.trans hdf)) ?_
    rw [← hwas]
    simpa using hx
  have HSK : Hid (d = true → Hx C.tx C.E ((Lt.mk lb 7 R a s mn mx lz ix nm).fw B) p was (caps.set 0 C.frm) out out) := fun hdt => by
    simp only [Lt.fw]
    exact .skip (by simp only [kb]; omega) (of_decide_eq_true (hd.symm.trans hdt))
  have HHK := hid hk
  have HHE := hid he
  have HFN := hid hF
  have HFF := hid hf
  clear hd hk hf he hF hlb hnn htn hp hm1 fr1 hw1 h hdec hW1 ku hkey hwas
  generalize (Lt.mk lb 7 R a s mn mx lz ix nm).fw B = WB at HXX HSK ⊢
  go_enter Try.func18, Try.ntmps18
  go_upto_region 2 with fail
  rw [← HW1.out, ← HKY.out]
  clear k3 u3
  go_upto_region 3 with (first | (go_at_call 35; (with_reducible refine hDid.mono ?_); rintro e w1 ⟨rfl, rfl⟩))
  by_cases hl : left - 1 < 0
  · go_wp2_with fail
    refine bodyPost_ret (results_none rfl _ _ _) rfl ?_
    exact stop_post HHM.out HF1.out (fun h => by omega)
  · have h0 : 0 < left := by omega
    cases d
    rotate_left
    · go_wp2_with fail
      refine bodyPost_ret (results_none rfl _ _ _) rfl ?_
      exact stop_post HHM.out HF1.out (fun h => HSK.out (by first | rfl | trivial))
    · have HXY := hid (HXX.out h0 rfl)
      clear HXX HSK HD
      go_upto_region 5 with (first | (go_at_call 36; (with_reducible refine hAnd.mono ?_); rintro e w2 ⟨v', rfl, ho, hb⟩; obtain ⟨hm2, fr2⟩ := HHM.out.below hb; have hrow := Rw.of ho (by omega); have hfr := HF1.out.trans fr2; have hin := HH.out.and h0 HK.out hm2 hfr hrow; clear ho hb hm2 fr2))
      clear l3 hAnd hDid
      obtain ⟨r1, r3, s1, s2, s3, sa, sc, hP, hRP, hRk, hR, ok⟩ := hin.hm.at HHE.out
      obtain ⟨-, -, -, k0, -, -, -, -, -, -, -⟩ := hin.hm.cells
      obtain ⟨V, hV⟩ : ∃ V, V = w2.alloc (.cells #[.int .i64 7, .slice r1 R.length r3, .int .i64 a, .slice s1 s2 s3, .int .i64 mn, .int .i64 mx, .bool lz, .int .i64 ix, .string nm, .slice sa s.length sc, .int .i64 up, .int .i64 (nth : Int)] 64) := ⟨_, rfl⟩
      obtain ⟨hmV, frV⟩ := hin.hm.copy (o := .cells #[.int .i64 7, .slice r1 R.length r3, .int .i64 a, .slice s1 s2 s3, .int .i64 mn, .int .i64 mx, .bool lz, .int .i64 ix, .string nm, .slice sa s.length sc, .int .i64 up, .int .i64 (nth : Int)] 64)
      have hY : V.heap[w2.heap.size]? = some (.cells #[.int .i64 7, .slice r1 R.length r3, .int .i64 a, .slice s1 s2 s3, .int .i64 mn, .int .i64 mx, .bool lz, .int .i64 ix, .string nm, .slice sa s.length sc, .int .i64 up, .int .i64 (nth : Int)] 64 (0, 0)) := by rw [hV]; exact heap_alloc_new w2 _
      rw [← hV] at hmV frV
      obtain ⟨y, hy⟩ : ∃ y, y = w2.heap.size := ⟨_, rfl⟩
      rw [← hy] at hY
      have HV := hid (hin.go (f' := f) hmV frV (Int.le_refl _) hin.fuel hin.lo)
      have HFV := hid (hfr.trans frV)
      have HYV := hid hV
      have HEY := hid hy
      have HY : Hid (∀ w', Fr C V w' → w'.heap[y]? = some (.cells #[.int .i64 7, .slice r1 R.length r3, .int .i64 a, .slice s1 s2 s3, .int .i64 mn, .int .i64 mx, .bool lz, .int .i64 ix, .string nm, .slice sa s.length sc, .int .i64 up, .int .i64 (nth : Int)] 64 (0, 0))) := fun w' fr => fr.box _ _ hY
      have HRV : Hid (∀ w', Fr C V w' → Rw w' (.slice sa s.length sc) (s.map fun t => (t.lb : Int))) := fun w' fr => fr.row (frV.row hR)
      have HRP : Hid (∀ w', Fr C V w' → RP w' (fun b => b < C.NB ∧ b ≠ C.hb) r1 R) := fun w' fr => hRP.kept (fun b hb => ((frV.trans fr).low b hb.1 hb.2)) (fun b hb => hb)
      have HRK := hid hRk
      have HOK := hid ok
      simp only [P12] at hP
      obtain ⟨p0, p1, p2, p3, p4, p5, p6, p7, p8, p9, p10, p11⟩ := hP
      clear hin hrow hfr hRP hRk hR ok hV hmV frV hY hy
      go_upto_region 6 with fail
      rw [← HYV.out, ← HEY.out]
      clear p0 p1 p2 p3 p4 p5 p6 p7 p8 p9 p10 p11 k0
      obtain ⟨y0, y1, y2, -, -, -, y7, y9⟩ := box12' (HY.out V (Fr.refl C V))
      obtain ⟨t0, rfl⟩ : ∃ t0, s = [t0] := by
        have := (HFN.out.grp rfl).1
        match s, this with
        | [t], _ => exact ⟨t, rfl⟩
      obtain ⟨hx1, hx2⟩ := HHK.out.grp _ _ _ _ _ _ _ _ _ _ _ _ _ HHE.out rfl
      have HK2 := hid HHK.out.k2
      have HCL := hid HV.out.capl
      have hx3 : ix ≤ 1000 := by have := HK2.out; omega
      have HA : Calls Try.prog 39 #[cv, .int .i64 (2 * ix), .int .i64 (p : Int)] V fun e w' => ∃ v', e = .returned v' ∧ w'.ownsRow V.heap.size 3 1 v' caps.length (I64 (caps.set (2 * ix.toNat) (p : Int))) ∧ Below V.heap.size V w' := by
        have := set39 caps cv (2 * ix.toNat) (p : Int) V HV.out.cap.src (by have := HCL.out; omega) (by have := HCL.out; have := HK2.out; omega)
        rw [show (((2 * ix.toNat : Nat)) : Int) = 2 * ix by omega] at this
        exact this
      have hg : ∃ g, sa = some ⟨g, 0, none⟩ := by
        obtain ⟨g, e, _⟩ := sub_at (HRV.out V (Fr.refl C V)) (i := 0) (by simp)
        exact ⟨g, e⟩
      obtain ⟨g, rfl⟩ := hg
      have HG0 : Hid (∀ w', Fr C V w' → w'.cell? ⟨g, 0, none⟩ = some (.int .i64 (t0.lb : Int))) := fun w' fr => by
        obtain ⟨g', e, h⟩ := sub_at (HRV.out w' fr) (i := 0) (by simp)
        simp only [Option.some.injEq, Addr.mk.injEq] at e
        obtain ⟨rfl, -⟩ := e
        exact h
      have g0 := HG0.out V (Fr.refl C V)
      have HB7 : Hid (∀ w' cv', HM C w' (left - 1) out → Fr C V w' → Rw w' cv' (caps.set (2 * ix.toNat) (p : Int)) → Calls Try.prog 18 #[.pointer (some ⟨C.hb, 0, none⟩), .int .i64 (t0.lb : Int), .int .i64 (p : Int), cv', v'] w' (HPost C f (fwH [t0] (.noted (2 * ix.toNat + 1) B)) p was' (caps.set (2 * ix.toNat) (p : Int)) (left - 1) out w')) := fun w' cv' hm fr hr => by
        have h := HV.out.go (f' := f) hm fr (Int.le_refl _) HV.out.fuel HV.out.lo
        have := hB.out w' (left - 1) out _ p _ cv' was' (KW ++ [key]) v' (HHK.out.child _ HHE.out 0 (by simp [Lt.sub])) ⟨hm, h.p64, hr, by simp [h.capl], h.wasr, h.kr, h.fuel, h.lo, h.sz⟩
        simp only [child, Lt.sub, subB] at this
        simpa [fwH] using this
      have HSW : Hid (∀ w', Fr C V w' → w'.cell? ⟨y, 9, none⟩ = some (.slice (some ⟨g, 0, none⟩) 1 sc) ∧ w'.cell? ⟨y, 7, none⟩ = some (.int .i64 ix) ∧ w'.cell? ⟨g, 0, none⟩ = some (.int .i64 (t0.lb : Int))) := fun w' fr => by
        obtain ⟨-, -, -, -, -, -, z7, z9⟩ := box12' (HY.out w' fr)
        exact ⟨z9, z7, HG0.out w' fr⟩
      have HDR : Hid (HM C V.drew (left - 1) out ∧ Fr C V V.drew) := HV.out.hm.below ⟨rfl, rfl, rfl, Nat.le_refl _, fun _ _ => rfl⟩
      have HA' : Hid (Calls Try.prog 39 #[cv, .int .i64 (2 * ix), .int .i64 (p : Int)] V.drew fun e w' => ∃ v', e = .returned v' ∧ w'.ownsRow V.drew.heap.size 3 1 v' caps.length (I64 (caps.set (2 * ix.toNat) (p : Int))) ∧ Below V.drew.heap.size V.drew w') := by
        have := set39 caps cv (2 * ix.toNat) (p : Int) V.drew (HDR.out.2.row HV.out.cap).src (by have := HCL.out; omega) (by have := HCL.out; have := HK2.out; omega)
        rw [show (((2 * ix.toNat : Nat)) : Int) = 2 * ix by omega] at this
        exact hid this
      clear HA
      have ml : IntKind.i64.wrap (2 * ix) = 2 * ix := by simp [IntKind.wrap, IntKind.bits, IntKind.signed]; omega
      go_upto_region 27 with fail
      refine wp_region_lexF [0, 1, 2, 3, 4, 5, 6, 7, 8, 9, 10, 11, 13] [12, 14] (fun W => W.cell? ⟨y, 9, none⟩ = some (.slice (some ⟨g, 0, none⟩) 1 sc) ∧ W.cell? ⟨y, 7, none⟩ = some (.int .i64 ix) ∧ W.cell? ⟨g, 0, none⟩ = some (.int .i64 (t0.lb : Int))) (by kernel_rfl) (by kernel_rfl) rfl (by kernel_rfl) (by kernel_rfl) (HSW.out _ HDR.out.2) ?_
      simp only [opsAt, opsNo, List.getElem?_toArray, List.getElem?_cons_zero, List.getElem?_cons_succ]
      iterate 13
        refine lex_cons ?_ rfl (fun W hW => ?_) (fun _ _ _ h => h) ?_
        rotate_left
        · obtain ⟨s0, s1', s2'⟩ := hW
          go_simp <;> with_reducible rfl
        simp only [Act.put, List.setIfInBounds_toArray, List.set_cons_zero, List.set_cons_succ]
      refine lex_nil (tailK_cons fun K hK => ?_)
      refine step_call3 rfl 39 (.tmp 181) (.tmp 185) (.tmp 186) 29 3 3 rfl en39 ?_
      refine HA'.out.mono ?_
      rintro e w3 ⟨v3, rfl, ho1, hb1⟩
      obtain ⟨hm3, fr3⟩ := HDR.out.1.below hb1
      have fr3 := HDR.out.2.trans fr3
      have HC := HB7.out w3 v3 hm3 fr3 (Rw.of ho1 (by have := HCL.out; have := HK2.out; omega))
      have HF2 := hid fr3
      refine ⟨_, rfl, hK.out _ _ (fun _ => HSW.out _ fr3) (tailK_cons fun K hK => ?_)⟩
      clear ho1 hb1 hm3 fr3 HA'
      refine step_call5 rfl 18 (.tmp 175) (.tmp 179) (.tmp 180) (.tmp 187) (.tmp 188) 39 3 3 29 29 rfl en18 ?_
      refine HC.mono ?_
      intro e w4 hp
      have hq := hid (step_post (p := p) (was := was) (caps := caps) hp (HFV.out.trans HF2.out) h0 (fun o hx => HXY.out o (.noted (by rw [List.set_comm _ _ (by omega)]; exact hx))))
      obtain ⟨rfl, -, -, -, -, -, -, fr4⟩ := hp
      have fr4 := HF2.out.trans fr4
      refine ⟨_, rfl, hK.out _ _ (fun _ => HSW.out _ fr4) (tailK_nil ?_)⟩
      simp only [Act.put, List.setIfInBounds_toArray, List.set_cons_zero, List.set_cons_succ]
      clear HC fr4
      go_wp2_with fail
      go_end0
      exact hq.out
end Go.Proofs.Ytnpocciioedgpaa
/- HELPERS: the hunt: all of it. -/
namespace Go.Proofs.Ytnpocciioedgpaa
open Go.RowKit
set_option linter.unusedVariables false
set_option linter.unusedSimpArgs false
set_option maxRecDepth 100000 in
set_option maxHeartbeats 8000000 in
theorem begin_stop {C : HC} (hk : HCk C) {f g : Nat} {A : Way} {W : World} {left : Int} {out : List (Int × List Int)} {e : Pl} {lb p : Nat} {caps : List Int} {cv : Value} {was : List (Int × Int)} {KW : List Int} {wv : Value} (he : e ∈ C.L) (helb : e.t.lb = lb) (h : HIn C W left out p caps cv was KW wv f) (hneg : left ≤ 0) :
    Calls Try.prog 18 #[.pointer (some ⟨C.hb, 0, none⟩), .int .i64 (lb : Int), .int .i64 (p : Int), cv, wv] W (HPost C g A p was caps left out W) := by
  have hlb := hk.num _ he
  rw [helb] at hlb
  have hnn := hk.nn
  have htn := hk.tn64
  have hp := h.p64
  obtain ⟨-, -, -, -, -, -, k3, -, ku, -, -⟩ := h.hm.cells
  have u3 := ku 3
  obtain ⟨W1, hW1⟩ : ∃ W1, W1 = W.setCell ⟨C.hb, 3, none⟩ (.int .i64 (left - 1)) := ⟨_, rfl⟩
  obtain ⟨hm1, fr1⟩ := h.hm.dec
  rw [← hW1] at hm1 fr1
  obtain ⟨-, -, -, -, -, -, l3, -, -, -, -⟩ := hm1.cells
  have HHM := hid hm1
  have HF1 := hid fr1
  obtain ⟨key, hkey⟩ : ∃ key : Int, key = 2 * (100 * (lb : Int) + (p : Int)) + 1 := ⟨_, rfl⟩
  have hw1 := fr1.row h.wasr
  obtain ⟨wa, wc, ewv⟩ := hw1.form
  subst ewv
  have hDid := did35 KW wa KW.length wc key W1 _ (hw1.text (by have := h.sz; omega))
  have hAnd := and36 KW (.slice wa KW.length wc) key W1 hw1.src (by have := h.sz; omega)
  have hdec : decide (key ∈ KW) = decide ((kb lb, (p : Int)) ∈ was) := by
    rw [hkey]; exact decide_eq_decide.2 ((h.kr lb p (by omega)).1.symm)
  rw [hdec] at hDid
  have hr3 : -100000000000 ≤ left ∧ left ≤ 20000 := ⟨h.lo, by omega⟩
  have HH := hid h
  have hlb3 : (lb : Int) ≤ 300000 := by omega
  have hp64 : (p : Int) ≤ 64 := by omega
  have HKY := hid hkey
  have HW1 := hid hW1
  obtain ⟨d, hd⟩ : ∃ d, d = decide ((kb lb, (p : Int)) ∈ was) := ⟨_, rfl⟩
  rw [← hd] at hDid
  have HD := hid hd
  clear hd hk hlb hnn htn hp hm1 fr1 hw1 h hdec hW1 ku hkey
  go_enter Try.func18, Try.ntmps18
  go_upto_region 2 with fail
  rw [← HW1.out, ← HKY.out]
  clear k3 u3
  go_upto_region 3 with (first | (go_at_call 35; (with_reducible refine hDid.mono ?_); rintro e w1 ⟨rfl, rfl⟩))
  have hl : left - 1 < 0 := by omega
  go_wp2_with fail
  refine bodyPost_ret (results_none rfl _ _ _) rfl ?_
  exact stop_post HHM.out HF1.out (fun h => by omega)
set_option maxRecDepth 100000 in
set_option maxHeartbeats 8000000 in
theorem decide_stop {C : HC} (hk : HCk C) {f g : Nat} {A : Way} {W : World} {left : Int} {out : List (Int × List Int)} {e : Pl} {lb p : Nat} {caps : List Int} {cv : Value} {was : List (Int × Int)} {KW : List Int} {wv : Value} (he : e ∈ C.L) (helb : e.t.lb = lb) (h : HIn C W left out p caps cv was KW wv f) (hneg : left ≤ 0) :
    Calls Try.prog 56 #[.pointer (some ⟨C.hb, 0, none⟩), .int .i64 (lb : Int), .int .i64 (p : Int), cv, wv] W (HPost C g A p was caps left out W) := by
  have hlb := hk.num _ he
  rw [helb] at hlb
  have hnn := hk.nn
  have htn := hk.tn64
  have hp := h.p64
  obtain ⟨-, -, -, -, -, -, k3, -, ku, -, -⟩ := h.hm.cells
  have u3 := ku 3
  obtain ⟨W1, hW1⟩ : ∃ W1, W1 = W.setCell ⟨C.hb, 3, none⟩ (.int .i64 (left - 1)) := ⟨_, rfl⟩
  obtain ⟨hm1, fr1⟩ := h.hm.dec
  rw [← hW1] at hm1 fr1
  obtain ⟨-, -, -, -, -, -, l3, -, -, -, -⟩ := hm1.cells
  have HHM := hid hm1
  have HF1 := hid fr1
  obtain ⟨key, hkey⟩ : ∃ key : Int, key = 2 * (100 * (lb : Int) + (p : Int)) := ⟨_, rfl⟩
  have hw1 := fr1.row h.wasr
  obtain ⟨wa, wc, ewv⟩ := hw1.form
  subst ewv
  have hDid := did35 KW wa KW.length wc key W1 _ (hw1.text (by have := h.sz; omega))
  have hAnd := and36 KW (.slice wa KW.length wc) key W1 hw1.src (by have := h.sz; omega)
  have hdec : decide (key ∈ KW) = decide ((kd lb, (p : Int)) ∈ was) := by
    rw [hkey]; exact decide_eq_decide.2 ((h.kr lb p (by omega)).2.symm)
  rw [hdec] at hDid
  have hr3 : -100000000000 ≤ left ∧ left ≤ 20000 := ⟨h.lo, by omega⟩
  have HH := hid h
  have hlb3 : (lb : Int) ≤ 300000 := by omega
  have hp64 : (p : Int) ≤ 64 := by omega
  have HKY := hid hkey
  have HW1 := hid hW1
  obtain ⟨d, hd⟩ : ∃ d, d = decide ((kd lb, (p : Int)) ∈ was) := ⟨_, rfl⟩
  rw [← hd] at hDid
  have HD := hid hd
  clear hd hk hlb hnn htn hp hm1 fr1 hw1 h hdec hW1 ku hkey
  go_enter Try.func56, Try.ntmps56
  go_upto_region 2 with fail
  rw [← HW1.out, ← HKY.out]
  clear k3 u3
  go_upto_region 3 with (first | (go_at_call 35; (with_reducible refine hDid.mono ?_); rintro e w1 ⟨rfl, rfl⟩))
  have hl : left - 1 < 0 := by omega
  go_wp2_with fail
  refine bodyPost_ret (results_none rfl _ _ _) rfl ?_
  exact stop_post HHM.out HF1.out (fun h => by omega)
set_option maxRecDepth 100000 in
set_option maxHeartbeats 8000000 in
theorem on_stop {C : HC} {f g : Nat} {A : Way} {W : World} {left : Int} {out : List (Int × List Int)} {lb p : Nat} {caps : List Int} {cv : Value} {was : List (Int × Int)} {KW : List Int} {wv : Value} (h : HIn C W left out p caps cv was KW wv f) (hneg : left ≤ 0) :
    Calls Try.prog 37 #[.pointer (some ⟨C.hb, 0, none⟩), .int .i64 (lb : Int), .int .i64 (p : Int), cv, wv] W (HPost C g A p was caps left out W) := by
  obtain ⟨-, -, -, -, -, -, k3, -, ku, -, -⟩ := h.hm.cells
  have u3 := ku 3
  obtain ⟨W1, hW1⟩ : ∃ W1, W1 = W.setCell ⟨C.hb, 3, none⟩ (.int .i64 (left - 1)) := ⟨_, rfl⟩
  obtain ⟨hm1, fr1⟩ := h.hm.dec
  rw [← hW1] at hm1 fr1
  obtain ⟨-, -, -, -, -, -, l3, -, -, -, -⟩ := hm1.cells
  have HHM := hid hm1
  have HF1 := hid fr1
  have HW1 := hid hW1
  have hr3 : -100000000000 ≤ left := h.lo
  clear hm1 fr1 h hW1 ku
  go_enter Try.func37, Try.ntmps37
  go_upto_region 1 with fail
  rw [← HW1.out]
  clear k3 u3
  have hl : left - 1 < 0 := by omega
  go_wp2_with fail
  refine bodyPost_ret (results_none rfl _ _ _) rfl ?_
  exact stop_post HHM.out HF1.out (fun h => by omega)
/-- ALL OF THE HUNT: begin, on, decide, for as many steps as one likes -/
theorem hunt_all {C : HC} (hk : HCk C) : ∀ f, f ≤ 10001 → BeginC C f ∧ OnC C f ∧ DecideC C f := by
  intro f
  induction f with
  | zero =>
    intro _
    refine ⟨fun W left out e p caps cv was KW wv he h => ?_, fun W left out e p caps cv was KW wv he h => ?_, fun W left out lb R a s mn mx lz ix nm B up nth p caps cv was KW wv he hm h => ?_⟩
    · exact begin_stop hk he rfl h (by have := h.fuel; omega)
    · exact on_stop h (by have := h.fuel; omega)
    · exact decide_stop hk he rfl h (by have := h.fuel; omega)
  | succ f ih =>
    intro hf
    obtain ⟨hB, hO, hD⟩ := ih (by omega)
    have hB := hid hB
    have hO := hid hO
    have hD := hid hD
    have hf' : f ≤ 10000 := by omega
    refine ⟨fun W left out e p caps cv was KW wv he h => ?_, fun W left out e p caps cv was KW wv he h => ?_, decide56 hk hB hO hf'⟩
    · obtain ⟨⟨lb, k, R, a, s, mn, mx, lz, ix, nm⟩, B, up, nth⟩ := e
      rcases (node_fine (hk.fine _ he)).kind with rfl | rfl | rfl | rfl | rfl | rfl | rfl
      · exact begin_1 hk hB hO hD hf' he h
      · exact begin_2 hk hB hO hD hf' he h
      · exact begin_3 hk hB hO hD hf' he h
      · exact begin_4 hk hB hO hD hf' he h
      · exact begin_5 hk hB hO hD hf' he h
      · exact begin_6 hk hB hO hD hf' he h
      · exact begin_7 hk hB hO hD hf' he h
    · rcases hk.par e he with ⟨hu, hb⟩ | ⟨q, hq, i, hi, rfl⟩
      · obtain ⟨⟨lb, k, R, a, s, mn, mx, lz, ix, nm⟩, B, up, nth⟩ := e
        simp only at hu hb
        subst hb
        exact on_root hk hf' he (by omega) (by omega) h
      · obtain ⟨⟨lb, k, R, a, s, mn, mx, lz, ix, nm⟩, B, up, nth⟩ := q
        exact on_up hk hB hO hD hf' hq (by simpa [Lt.sub] using hi) h
end Go.Proofs.Ytnpocciioedgpaa
/- HELPERS: the hunt over the places that were laid: it is ready; what it finds. -/
namespace Go.Proofs.Ytnpocciioedgpaa
open Go.RowKit
set_option linter.unusedVariables false
set_option linter.unusedSimpArgs false
theorem hunt_ready {t : Tn} {A : Nat → Prop} {hb B0 K tn tcap p : Nat} {w : World} {ad : Option Addr} {tx : List Int} {v : Value} {QS : List Pq} (hf : t.fine = true) (hsz : t.sz ≤ 2000)
    (hL : LM hb B0 (.slice ad tn tcap) (.int .i64 (p : Int)) (.int .i64 4000) (.slice none 0 0) w v QS) (hA : ∀ b, A b → b < B0 ∧ b ≠ hb) (hQ : A2 (Lq A w) QS ((t.spread.num 0).ents (.once 1 .through) (-1) 0)) (htx : Look.TextAt hb w ad tn tx) (htn : tn ≤ 64) (hK : (K : Int) = 2 * t.gi + 2) :
    ∃ C : HC, C.hb = hb ∧ C.NB = w.heap.size ∧ C.tx = tx ∧ C.E = (t.spread.num 0).env ∧ C.K = K ∧ C.tn = tn ∧ C.frm = (p : Int) ∧ C.L = (t.spread.num 0).ents (.once 1 .through) (-1) 0 ∧ HM C w 4000 [] ∧ HCk C := by
  obtain ⟨f1, f2⟩ := spread_ok t hf
  have h3 := spread_nodes t hf
  obtain ⟨q1, q2⟩ := fine_gi t hf
  have hlen := hQ.len
  rw [ents_len] at hlen
  have hpos : 0 < QS.length := by
    rw [hlen]
    cases t.spread
    simp only [Tn.nodes]
    omega
  have hbl := (Array.getElem?_eq_some_iff.1 hL.box).1
  obtain ⟨pb, pc, rfl⟩ := Joins.ownsRow_form hL.row hpos
  refine ⟨⟨hb, w.heap.size, pb, QS.length, pc, tn, tcap, ad, (p : Int), tx, (t.spread.num 0).ents (.once 1 .through) (-1) 0, (t.spread.num 0).env, K⟩, rfl, rfl, rfl, rfl, rfl, rfl, rfl, rfl, ?_, ?_⟩
  · refine ⟨⟨_, hL.box, [], [], World.ownsRow_nil _ _ _ _, .nil⟩, Nat.le_refl _, hbl, ?_, ?_, htx, by simp⟩
    · rcases hL.row.2 with ⟨e, _⟩ | ⟨g, cap, cur, e, _, hg, _⟩
      · cases e
      · simp only [Value.slice.injEq, Option.some.injEq, Addr.mk.injEq] at e
        obtain ⟨⟨rfl, _⟩, _⟩ := e
        exact ⟨cur, hg⟩
    · intro e he
      obtain ⟨j, hj, rfl⟩ := List.getElem_of_mem he
      obtain ⟨hl, hq⟩ := hQ.get j hj
      have hlb := ents_at t.spread 0 (.once 1 .through) (-1) 0 j hj
      rw [Nat.zero_add] at hlb
      obtain ⟨sa, sc, hsv⟩ := hq.sv
      have hP := hL.at j hl
      rw [hsv, hq.up, hq.nth] at hP
      have hR := hq.rw
      rw [hsv] at hR
      refine ⟨QS[j].M, sa, sc, hq.tp.kept (fun _ _ => rfl) (fun b hb' => ⟨?_, (hA b hb').2⟩), ?_, hR⟩
      · have := (hA b hb').1
        have := hL.bs
        show b < w.heap.size
        omega
      · show P12 w pb _ _ _ _ _
        rw [hlb]
        exact hP
  · refine hck_of f1 rfl (env_eo (num_nodup _ _) (num_sf _ 0 f2)) hlen (by omega) htn htx.1 ⟨by show 2 ≤ K; omega, by show K ≤ 1002; omega⟩ ?_
    have := (spread_gi t hf t.gi q1).1 (Int.le_refl _)
    show 2 * t.spread.gi + 1 < (K : Int)
    omega
theorem hunt_done {t : Tn} {A : Nat → Prop} {hb B0 K tn tcap p : Nat} {w : World} {ad : Option Addr} {tx : List Int} {v cv : Value} {QS : List Pq} {l : List (Int × List Int)} (hf : t.fine = true) (hsz : t.sz ≤ 2000)
    (hL : LM hb B0 (.slice ad tn tcap) (.int .i64 (p : Int)) (.int .i64 4000) (.slice none 0 0) w v QS) (hA : ∀ b, A b → b < B0 ∧ b ≠ hb) (hQ : A2 (Lq A w) QS ((t.spread.num 0).ents (.once 1 .through) (-1) 0)) (htx : Look.TextAt hb w ad tn tx) (htn : tn ≤ 64) (hK : (K : Int) = 2 * t.gi + 2) (hp : p ≤ tn) (hc : Rw w cv (List.replicate K (-1))) (hPS : PS t K tx p l) :
    Calls Try.prog 18 #[.pointer (some ⟨hb, 0, none⟩), .int .i64 0, .int .i64 (p : Int), cv, .slice none 0 0] w fun e w' => e = .returned (.tuple #[]) ∧ ∃ c0 c1 c2 left v out, w'.heap[hb]? = some (.cells #[c0, c1, c2, .int .i64 left, v] 42 (0, 0)) ∧ Parsed w.heap.size w' v out ∧ (0 ≤ left → out = l) ∧ (-100000000000 ≤ left ∧ left ≤ 4000) ∧ w'.os = w.os ∧ w'.tape = w.tape ∧ w'.output = w.output ∧ w.heap.size ≤ w'.heap.size ∧ ∀ b, b < w.heap.size → b ≠ hb → w'.heap[b]? = w.heap[b]? := by
  obtain ⟨C, e1, e2, e3, e4, e5, e6, e7, e8, hm, hk⟩ := hunt_ready hf hsz hL hA hQ htx htn hK
  have h1 := (hunt_all hk 4001 (by omega)).1 w 4000 [] ⟨t.spread.num 0, .once 1 .through, -1, 0⟩ p (List.replicate K (-1)) cv [] [] (.slice none 0 0) (by rw [e8]; exact ents_root _ _ _ _)
    ⟨hm, by rw [e6]; exact hp, hc, by simp [e5], .inl ⟨rfl, rfl⟩, KR.nil, by omega, by omega, ⟨by simp, by simp⟩⟩
  simp only [num_lb] at h1
  rw [e1] at h1
  refine h1.mono ?_
  rintro e w' ⟨rfl, left, out, hM, h2, h3, h4, hfr⟩
  obtain ⟨v', hb', hP⟩ := hM.box
  rw [e1] at hb'
  rw [e2] at hP
  have h3' := h3 (by omega)
  refine ⟨rfl, _, _, _, left, v', out, hb', hP, fun h0 => ?_, ⟨by have := h3'.2; simp only [LBv] at this; omega, by omega⟩, hfr.os, hfr.tape, hfr.output, hfr.size, fun b hb1 hb2 => hfr.low b (by rw [e2]; exact hb1) (by rw [e1]; exact hb2)⟩
  have hx := h4 h0
  rw [e3, e4, e7] at hx
  exact hunt_is hf (by omega) hPS (by have := htx.1; omega) hx
end Go.Proofs.Ytnpocciioedgpaa
/- HELPERS: the laws' own questions: would it be too much; may it be asked? -/
namespace Go.Proofs.Ytnpocciioedgpaa
open Go.RowKit
set_option linter.unusedVariables false
set_option linter.unusedSimpArgs false
/-- would the notes be more than the laws ask of? -/
def muchB (t : Tn) (tn : Nat) : Bool := decide (tn ≤ 64) && t.sound && decide (t.sz ≤ 2000) && decide (16777216 < (t.sz : Int) * ((tn : Int) + 1) * (2 * t.gi + 2))
/-- may it be asked? -/
def mayB (t : Tn) (tn : Nat) (at_ : Int) : Bool := decide (tn ≤ 64) && decide (0 ≤ at_ ∧ at_ ≤ (tn : Int)) && t.sound && decide (t.sz ≤ 2000)
theorem mul_bd {a b : Int} {A B : Int} (h1 : 0 ≤ a) (h2 : a ≤ A) (h3 : 0 ≤ b) (h4 : b ≤ B) : 0 ≤ a * b ∧ a * b ≤ A * B := ⟨Int.mul_nonneg h1 h3, Int.mul_le_mul h2 h4 h3 (by omega)⟩
set_option maxRecDepth 100000 in
set_option maxHeartbeats 4000000 in
theorem much11 (N : Nv) (t : Tn) (ad : Option Addr) (tn tcap : Nat) (w : World) (hTI : TI w w.heap.size N t) (htm : tn ≤ 35184372088832) :
    Calls Try.prog 11 #[N.v, .slice ad tn tcap] w fun e w' => e = .returned (.bool (muchB t tn)) ∧ Below w.heap.size w w' := by
  have hb0 : Below w.heap.size w (w.alloc (.cells #[.int .i64 N.k, .slice N.r1 N.r2 N.r3, .int .i64 N.a2, .slice N.s1 N.s2 N.s3, .int .i64 N.a4, .int .i64 N.a5, .bool N.a6, .int .i64 N.a7, .string N.a8] 28)) := Joins.below_alloc1 w _
  have HB0 := hid hb0
  by_cases c1 : 64 < tn
  · have e1 : muchB t tn = false := by unfold muchB; rw [decide_eq_false (by omega)]; rfl
    rw [e1]
    have b1 : decide ((tn : Int) > 64) = true := by simp; omega
    have b1' : decide (64 < (tn : Int)) = true := by simp; omega
    obtain ⟨k, r1, r2, r3, a2, s1, s2, s3, a4, a5, a6, a7, a8⟩ := N
    clear hTI e1 hb0
    go_enter Try.func11, Try.ntmps11
    go_wp2
    go_ret
    exact ⟨rfl, HB0.out⟩
  have b1 : decide ((tn : Int) > 64) = false := by simp; omega
  have b1' : decide (64 < (tn : Int)) = false := by simp; omega
  have hT1 : ∀ w1, Below w.heap.size w w1 → TI w1 w1.heap.size N t := fun w1 h => (hTI.kept fun b hb => h.block b hb).le h.size
  have H25 := sound25 (hT1 _ hb0)
  cases hs : t.sound with
  | false =>
    have e1 : muchB t tn = false := by unfold muchB; rw [hs]; simp
    rw [e1]
    rw [hs] at H25
    simp only [Bool.false_eq_true, if_false] at H25
    obtain ⟨k, r1, r2, r3, a2, s1, s2, s3, a4, a5, a6, a7, a8⟩ := N
    dsimp only at H25
    clear hTI e1 hb0 hT1 hs
    go_enter Try.func11, Try.ntmps11
    go_wp2_with (first | (go_at_call 25; (with_reducible refine H25.mono ?_); rintro e w1 ⟨rfl, hb1⟩; have HB1 := hid hb1; clear hb1 H25))
    go_ret
    exact ⟨rfl, HB0.out.trans (Joins.below_le HB1.out (by simp))⟩
  | true =>
    obtain ⟨hf, _, hno⟩ := sound_parts hs
    have hgi := fine_gi t hf
    have hT2 : ∀ w1, Below w.heap.size w w1 → Calls Try.prog 28 #[N.v] w1 fun e w' => e = .returned (.int .i64 (min 1073741824 t.sz : Nat)) ∧ Below w1.heap.size w1 w' := fun w1 h => refsize28 hTI hf w1 h.size (fun b hb => h.block b hb)
    have hT3 : ∀ w1, Below w.heap.size w w1 → Calls Try.prog 15 #[N.v] w1 fun e w' => e = .returned (.int .i64 t.gi) ∧ Below w1.heap.size w1 w' := fun w1 h => greatest15 hTI w1 h.size (fun b hb => h.block b hb)
    have hnode : ∀ w1, Below (w.alloc (.cells #[.int .i64 N.k, .slice N.r1 N.r2 N.r3, .int .i64 N.a2, .slice N.s1 N.s2 N.s3, .int .i64 N.a4, .int .i64 N.a5, .bool N.a6, .int .i64 N.a7, .string N.a8] 28)).heap.size (w.alloc (.cells #[.int .i64 N.k, .slice N.r1 N.r2 N.r3, .int .i64 N.a2, .slice N.s1 N.s2 N.s3, .int .i64 N.a4, .int .i64 N.a5, .bool N.a6, .int .i64 N.a7, .string N.a8] 28)) w1 → w1.heap[w.heap.size]? = some (.cells #[.int .i64 N.k, .slice N.r1 N.r2 N.r3, .int .i64 N.a2, .slice N.s1 N.s2 N.s3, .int .i64 N.a4, .int .i64 N.a5, .bool N.a6, .int .i64 N.a7, .string N.a8] 28 (0, 0)) := fun w1 h => (h.block w.heap.size (by simp)).trans (heap_alloc_new w _)
    rw [hs] at H25
    simp only [if_true] at H25
    have HN := hid hnode
    have HT2 := hid hT2
    have HT3 := hid hT3
    obtain ⟨r, hr⟩ : ∃ r, r = min 1073741824 t.sz := ⟨_, rfl⟩
    rw [← hr] at HT2
    by_cases c3 : 2000 < t.sz
    · have e1 : muchB t tn = false := by unfold muchB; rw [decide_eq_false (show ¬ t.sz ≤ 2000 by omega)]; simp
      rw [e1]
      have b3 : decide ((r : Int) ≤ 2000) = false := by simp; omega
      obtain ⟨k, r1, r2, r3, a2, s1, s2, s3, a4, a5, a6, a7, a8⟩ := N
      dsimp only at H25 HN
      clear hTI e1 hb0 hT1 hT2 hT3 hnode hs hf hno hr hgi
      go_enter Try.func11, Try.ntmps11
      go_wp2_with (first | (go_at_call 25; (with_reducible refine H25.mono ?_); rintro e w1 ⟨rfl, hb1⟩; obtain ⟨o0, o1, o2, o3, o4, o5, o6, o7, o8⟩ := nine' (HN.out w1 hb1); have HC1 := HT2.out w1 (HB0.out.trans (Joins.below_le hb1 (by simp))); have HB1 := hid hb1; clear hb1 H25) | (go_at_call 28; (with_reducible refine HC1.mono ?_); rintro e w2 ⟨rfl, hb2⟩; have HB2 := hid hb2; clear hb2 HC1))
      go_ret
      exact ⟨rfl, HB0.out.trans (Joins.below_le (HB1.out.trans (Joins.below_le HB2.out HB1.out.size)) (by simp))⟩
    · have hrz : r = t.sz := by omega
      have b3 : decide ((r : Int) ≤ 2000) = true := by simp; omega
      have e1 : muchB t tn = decide (16777216 < (r : Int) * ((tn : Int) + 1) * (2 * t.gi + 2)) := by
        unfold muchB
        rw [hs, decide_eq_true (show tn ≤ 64 by omega), decide_eq_true (show t.sz ≤ 2000 by omega), hrz]
        simp
      rw [e1]
      have k1 := mul_bd (a := (r : Int)) (b := (tn : Int) + 1) (A := 2000) (B := 65) (by omega) (by omega) (by omega) (by omega)
      have k2 := mul_bd (a := (r : Int) * ((tn : Int) + 1)) (b := 2 * t.gi + 2) (A := 130000) (B := 1002) k1.1 (by omega) (by omega) (by omega)
      have w1' : IntKind.i64.wrap ((tn : Int) + 1) = (tn : Int) + 1 := by simp [IntKind.wrap, IntKind.bits, IntKind.signed]; omega
      have w2' : IntKind.i64.wrap ((r : Int) * ((tn : Int) + 1)) = (r : Int) * ((tn : Int) + 1) := by simp [IntKind.wrap, IntKind.bits, IntKind.signed]; omega
      obtain ⟨gi, hgg⟩ : ∃ gi, gi = t.gi := ⟨_, rfl⟩
      rw [← hgg] at k2 hgi HT3 ⊢
      have w3' : IntKind.i64.wrap (2 * gi) = 2 * gi := by simp [IntKind.wrap, IntKind.bits, IntKind.signed]; omega
      have w4' : IntKind.i64.wrap (2 * gi + 2) = 2 * gi + 2 := by simp [IntKind.wrap, IntKind.bits, IntKind.signed]; omega
      have w5' : IntKind.i64.wrap ((r : Int) * ((tn : Int) + 1) * (2 * gi + 2)) = (r : Int) * ((tn : Int) + 1) * (2 * gi + 2) := by simp [IntKind.wrap, IntKind.bits, IntKind.signed]; omega
      obtain ⟨k, r1, r2, r3, a2, s1, s2, s3, a4, a5, a6, a7, a8⟩ := N
      dsimp only at H25 HN
      clear hTI e1 hb0 hT1 hT2 hT3 hnode hs hf hno hr hrz hgg k1 k2 c3
      go_enter Try.func11, Try.ntmps11
      go_wp2_with (first | (go_at_call 25; (with_reducible refine H25.mono ?_); rintro e w1 ⟨rfl, hb1⟩; obtain ⟨o0, o1, o2, o3, o4, o5, o6, o7, o8⟩ := nine' (HN.out w1 hb1); have HC1 := HT2.out w1 (HB0.out.trans (Joins.below_le hb1 (by simp))); have HB1 := hid hb1; clear hb1 H25) | (go_at_call 28; (with_reducible refine HC1.mono ?_); rintro e w2 ⟨rfl, hb2⟩; obtain ⟨p0, p1, p2, p3, p4, p5, p6, p7, p8⟩ := nine' (HN.out w2 (HB1.out.trans (Joins.below_le hb2 HB1.out.size))); have HC2 := HT3.out w2 (HB0.out.trans (Joins.below_le (HB1.out.trans (Joins.below_le hb2 HB1.out.size)) (by simp))); have HB2 := hid hb2; clear hb2 HC1 o0 o1 o2 o3 o4 o5 o6 o7 o8) | (go_at_call 15; (with_reducible refine HC2.mono ?_); rintro e w3 ⟨rfl, hb3⟩; have HB3 := hid hb3; clear hb3 HC2))
      go_ret
      exact ⟨rfl, HB0.out.trans (Joins.below_le ((HB1.out.trans (Joins.below_le HB2.out HB1.out.size)).trans (Joins.below_le HB3.out (by have := HB1.out.size; have := HB2.out.size; omega))) (by simp))⟩
set_option maxRecDepth 100000 in
set_option maxHeartbeats 4000000 in
theorem may12 (N : Nv) (t : Tn) (ad : Option Addr) (tn tcap : Nat) (at_ : Int) (w : World) (hTI : TI w w.heap.size N t) (htm : tn ≤ 35184372088832) :
    Calls Try.prog 12 #[N.v, .agg #[.slice ad tn tcap, .int .i64 at_]] w fun e w' => e = .returned (.bool (mayB t tn at_)) ∧ Below w.heap.size w w' := by
  have hb0 : Below w.heap.size w ((w.alloc (.cells #[.int .i64 N.k, .slice N.r1 N.r2 N.r3, .int .i64 N.a2, .slice N.s1 N.s2 N.s3, .int .i64 N.a4, .int .i64 N.a5, .bool N.a6, .int .i64 N.a7, .string N.a8] 28)).alloc (.cells #[.slice ad tn tcap, .int .i64 at_] 31)) := below_two' w _ _
  have HB0 := hid hb0
  have hT1 : ∀ w1, Below w.heap.size w w1 → TI w1 w1.heap.size N t := fun w1 h => (hTI.kept fun b hb => h.block b hb).le h.size
  have H14 := great14 (hT1 _ hb0)
  have hnode : ∀ w1, Below ((w.alloc (.cells #[.int .i64 N.k, .slice N.r1 N.r2 N.r3, .int .i64 N.a2, .slice N.s1 N.s2 N.s3, .int .i64 N.a4, .int .i64 N.a5, .bool N.a6, .int .i64 N.a7, .string N.a8] 28)).alloc (.cells #[.slice ad tn tcap, .int .i64 at_] 31)).heap.size ((w.alloc (.cells #[.int .i64 N.k, .slice N.r1 N.r2 N.r3, .int .i64 N.a2, .slice N.s1 N.s2 N.s3, .int .i64 N.a4, .int .i64 N.a5, .bool N.a6, .int .i64 N.a7, .string N.a8] 28)).alloc (.cells #[.slice ad tn tcap, .int .i64 at_] 31)) w1 → w1.heap[w.heap.size]? = some (.cells #[.int .i64 N.k, .slice N.r1 N.r2 N.r3, .int .i64 N.a2, .slice N.s1 N.s2 N.s3, .int .i64 N.a4, .int .i64 N.a5, .bool N.a6, .int .i64 N.a7, .string N.a8] 28 (0, 0)) ∧ w1.heap[w.heap.size + 1]? = some (.cells #[.slice ad tn tcap, .int .i64 at_] 31 (0, 0)) := fun w1 h => ⟨(h.block w.heap.size (by simp; omega)).trans ((heap_alloc_old _ _ (by simp)).trans (heap_alloc_new w _)), (h.block (w.heap.size + 1) (by simp)).trans (two_new w _ _ _)⟩
  have HN := hid hnode
  by_cases c0 : 200000 < t.nodes
  · have e1 : mayB t tn at_ = false := by
      unfold mayB Tn.sound
      rw [decide_eq_false (show ¬ t.nodes ≤ 200000 by omega)]
      simp
    rw [e1]
    rw [decide_eq_true c0] at H14
    obtain ⟨k, r1, r2, r3, a2, s1, s2, s3, a4, a5, a6, a7, a8⟩ := N
    dsimp only at H14 HN
    clear hTI e1 hb0 hT1 hnode c0
    go_enter Try.func12, Try.ntmps12
    go_wp2_with (first | (go_at_call 14; (with_reducible refine H14.mono ?_); rintro e w1 ⟨rfl, hb1⟩; have HB1 := hid hb1; clear hb1 H14))
    go_ret
    exact ⟨rfl, HB0.out.trans (Joins.below_le HB1.out (by simp; omega))⟩
  rw [decide_eq_false c0] at H14
  by_cases c1 : 64 < tn ∨ at_ < 0 ∨ (tn : Int) < at_
  · have e1 : mayB t tn at_ = false := by
      unfold mayB
      rcases c1 with h | h
      · rw [decide_eq_false (show ¬ tn ≤ 64 by omega)]; simp
      · rw [decide_eq_false (show ¬ (0 ≤ at_ ∧ at_ ≤ (tn : Int)) by omega)]; simp
    rw [e1]
    obtain ⟨k, r1, r2, r3, a2, s1, s2, s3, a4, a5, a6, a7, a8⟩ := N
    dsimp only at H14 HN
    clear hTI e1 hb0 hT1 hnode c0
    by_cases d1 : 64 < tn
    · have b1 : decide ((tn : Int) > 64) = true := by simp; omega
      have b1' : decide (64 < (tn : Int)) = true := by simp; omega
      go_enter Try.func12, Try.ntmps12
      go_wp2_with (first | (go_at_call 14; (with_reducible refine H14.mono ?_); rintro e w1 ⟨rfl, hb1⟩; have y0 : w1.cell? ⟨w.heap.size + 1, 0, none⟩ = some (.slice ad tn tcap) := Joins.cell_of_block (HN.out w1 hb1).2 0; have y1 : w1.cell? ⟨w.heap.size + 1, 1, none⟩ = some (.int .i64 at_) := Joins.cell_of_block (HN.out w1 hb1).2 1; have HB1 := hid hb1; clear hb1 H14))
      go_ret
      exact ⟨rfl, HB0.out.trans (Joins.below_le HB1.out (by simp; omega))⟩
    · have b1 : decide ((tn : Int) > 64) = false := by simp; omega
      have b1' : decide (64 < (tn : Int)) = false := by simp; omega
      by_cases d2 : at_ < 0
      · have b2 : decide (at_ < 0) = true := by simp; omega
        go_enter Try.func12, Try.ntmps12
        go_wp2_with (first | (go_at_call 14; (with_reducible refine H14.mono ?_); rintro e w1 ⟨rfl, hb1⟩; have y0 : w1.cell? ⟨w.heap.size + 1, 0, none⟩ = some (.slice ad tn tcap) := Joins.cell_of_block (HN.out w1 hb1).2 0; have y1 : w1.cell? ⟨w.heap.size + 1, 1, none⟩ = some (.int .i64 at_) := Joins.cell_of_block (HN.out w1 hb1).2 1; have HB1 := hid hb1; clear hb1 H14))
        go_ret
        exact ⟨rfl, HB0.out.trans (Joins.below_le HB1.out (by simp; omega))⟩
      · have b2 : decide (at_ < 0) = false := by simp; omega
        have b3 : decide (at_ > (tn : Int)) = true := by simp; omega
        have b3' : decide ((tn : Int) < at_) = true := by simp; omega
        go_enter Try.func12, Try.ntmps12
        go_wp2_with (first | (go_at_call 14; (with_reducible refine H14.mono ?_); rintro e w1 ⟨rfl, hb1⟩; have y0 : w1.cell? ⟨w.heap.size + 1, 0, none⟩ = some (.slice ad tn tcap) := Joins.cell_of_block (HN.out w1 hb1).2 0; have y1 : w1.cell? ⟨w.heap.size + 1, 1, none⟩ = some (.int .i64 at_) := Joins.cell_of_block (HN.out w1 hb1).2 1; have HB1 := hid hb1; clear hb1 H14))
        go_ret
        exact ⟨rfl, HB0.out.trans (Joins.below_le HB1.out (by simp; omega))⟩
  have b1 : decide ((tn : Int) > 64) = false := by simp; omega
  have b1' : decide (64 < (tn : Int)) = false := by simp; omega
  have b2 : decide (at_ < 0) = false := by simp; omega
  have b3 : decide (at_ > (tn : Int)) = false := by simp; omega
  have b3' : decide ((tn : Int) < at_) = false := by simp; omega
  have hT5 : ∀ w1, Below w.heap.size w w1 → Calls Try.prog 25 #[N.v] w1 fun e w' => e = .returned (.int .i64 (if t.sound then 0 else 50)) ∧ Below w1.heap.size w1 w' := fun w1 h => sound25 (hT1 w1 h)
  have HT5 := hid hT5
  have e0 : mayB t tn at_ = (t.sound && decide (t.sz ≤ 2000)) := by
    unfold mayB
    rw [decide_eq_true (show tn ≤ 64 by omega), decide_eq_true (show 0 ≤ at_ ∧ at_ ≤ (tn : Int) by omega)]
    simp
  rw [e0]
  cases hs : t.sound with
  | false =>
    rw [hs] at HT5
    simp only [Bool.false_eq_true, if_false] at HT5
    obtain ⟨k, r1, r2, r3, a2, s1, s2, s3, a4, a5, a6, a7, a8⟩ := N
    dsimp only at H14 HN
    clear hTI e0 hb0 hT1 hT5 hnode c0 hs
    go_enter Try.func12, Try.ntmps12
    go_wp2_with (first | (go_at_call 14; (with_reducible refine H14.mono ?_); rintro e w1 ⟨rfl, hb1⟩; have y0 : w1.cell? ⟨w.heap.size + 1, 0, none⟩ = some (.slice ad tn tcap) := Joins.cell_of_block (HN.out w1 hb1).2 0; have y1 : w1.cell? ⟨w.heap.size + 1, 1, none⟩ = some (.int .i64 at_) := Joins.cell_of_block (HN.out w1 hb1).2 1; obtain ⟨o0, o1, o2, o3, o4, o5, o6, o7, o8⟩ := nine' (HN.out w1 hb1).1; have HC1 := HT5.out w1 (HB0.out.trans (Joins.below_le hb1 (by simp; omega))); have HB1 := hid hb1; clear hb1 H14) | (go_at_call 25; (with_reducible refine HC1.mono ?_); rintro e w2 ⟨rfl, hb2⟩; have HB2 := hid hb2; clear hb2 HC1))
    go_ret
    exact ⟨rfl, HB0.out.trans (Joins.below_le (HB1.out.trans (Joins.below_le HB2.out HB1.out.size)) (by simp; omega))⟩
  | true =>
    obtain ⟨hf, _, hno⟩ := sound_parts hs
    have hT2 : ∀ w1, Below w.heap.size w w1 → Calls Try.prog 28 #[N.v] w1 fun e w' => e = .returned (.int .i64 (min 1073741824 t.sz : Nat)) ∧ Below w1.heap.size w1 w' := fun w1 h => refsize28 hTI hf w1 h.size (fun b hb => h.block b hb)
    have HT2 := hid hT2
    rw [hs] at HT5
    simp only [if_true] at HT5
    obtain ⟨r, hr⟩ : ∃ r, r = min 1073741824 t.sz := ⟨_, rfl⟩
    rw [← hr] at HT2
    have e1 : decide (t.sz ≤ 2000) = decide ((r : Int) ≤ 2000) := by rw [Bool.eq_iff_iff]; simp; omega
    rw [e1]
    obtain ⟨k, r1, r2, r3, a2, s1, s2, s3, a4, a5, a6, a7, a8⟩ := N
    dsimp only at H14 HN
    clear hTI e0 e1 hb0 hT1 hT5 hT2 hnode c0 hs hf hno hr
    go_enter Try.func12, Try.ntmps12
    go_wp2_with (first | (go_at_call 14; (with_reducible refine H14.mono ?_); rintro e w1 ⟨rfl, hb1⟩; have y0 : w1.cell? ⟨w.heap.size + 1, 0, none⟩ = some (.slice ad tn tcap) := Joins.cell_of_block (HN.out w1 hb1).2 0; have y1 : w1.cell? ⟨w.heap.size + 1, 1, none⟩ = some (.int .i64 at_) := Joins.cell_of_block (HN.out w1 hb1).2 1; obtain ⟨o0, o1, o2, o3, o4, o5, o6, o7, o8⟩ := nine' (HN.out w1 hb1).1; have HC1 := HT5.out w1 (HB0.out.trans (Joins.below_le hb1 (by simp; omega))); have HB1 := hid hb1; clear hb1 H14) | (go_at_call 25; (with_reducible refine HC1.mono ?_); rintro e w2 ⟨rfl, hb2⟩; obtain ⟨p0, p1, p2, p3, p4, p5, p6, p7, p8⟩ := nine' (HN.out w2 (HB1.out.trans (Joins.below_le hb2 HB1.out.size))).1; have HC2 := HT2.out w2 (HB0.out.trans (Joins.below_le (HB1.out.trans (Joins.below_le hb2 HB1.out.size)) (by simp; omega))); have HB2 := hid hb2; clear hb2 HC1 o0 o1 o2 o3 o4 o5 o6 o7 o8 y0 y1) | (go_at_call 28; (with_reducible refine HC2.mono ?_); rintro e w3 ⟨rfl, hb3⟩; have HB3 := hid hb3; clear hb3 HC2))
    go_ret
    exact ⟨by first | rfl | simp, HB0.out.trans (Joins.below_le ((HB1.out.trans (Joins.below_le HB2.out HB1.out.size)).trans (Joins.below_le HB3.out (by have := HB1.out.size; have := HB2.out.size; omega))) (by simp; omega))⟩
end Go.Proofs.Ytnpocciioedgpaa
/- HELPERS: the law MeaningTurned walked. -/
namespace Go.Proofs.Ytnpocciioedgpaa
open Go.RowKit
set_option linter.unusedVariables false
set_option linter.unusedSimpArgs false
abbrev Nv.ob (N : Nv) : Obj := .cells #[.int .i64 N.k, .slice N.r1 N.r2 N.r3, .int .i64 N.a2, .slice N.s1 N.s2 N.s3, .int .i64 N.a4, .int .i64 N.a5, .bool N.a6, .int .i64 N.a7, .string N.a8] 28
abbrev Xob (ad : Option Addr) (tn tcap : Nat) (at_ : Int) : Obj := .cells #[.slice ad tn tcap, .int .i64 at_] 31
/-- the two boxes of a law, and what lies below, at every world behind -/
theorem boxes {w : World} {N : Nv} {t : Tn} {ad : Option Addr} {tn tcap : Nat} {at_ : Int} {tx : List Int} (hTI : TI w w.heap.size N t) (htx : Look.TextAt w.heap.size w ad tn tx) :
    ∀ W, Below (w.heap.size + 1 + 1) ((w.alloc N.ob).alloc (Xob ad tn tcap at_)) W →
      (W.cell? ⟨w.heap.size, 0, none⟩ = some (.int .i64 N.k) ∧ W.cell? ⟨w.heap.size, 1, none⟩ = some (.slice N.r1 N.r2 N.r3) ∧ W.cell? ⟨w.heap.size, 2, none⟩ = some (.int .i64 N.a2) ∧ W.cell? ⟨w.heap.size, 3, none⟩ = some (.slice N.s1 N.s2 N.s3) ∧ W.cell? ⟨w.heap.size, 4, none⟩ = some (.int .i64 N.a4) ∧ W.cell? ⟨w.heap.size, 5, none⟩ = some (.int .i64 N.a5) ∧ W.cell? ⟨w.heap.size, 6, none⟩ = some (.bool N.a6) ∧ W.cell? ⟨w.heap.size, 7, none⟩ = some (.int .i64 N.a7) ∧ W.cell? ⟨w.heap.size, 8, none⟩ = some (.string N.a8)) ∧
      (W.cell? ⟨w.heap.size + 1, 0, none⟩ = some (.slice ad tn tcap) ∧ W.cell? ⟨w.heap.size + 1, 1, none⟩ = some (.int .i64 at_)) ∧ TI W W.heap.size N t ∧ Look.TextAt W.heap.size W ad tn tx ∧ Below w.heap.size w W := fun W hB => by
  have h0 : Below w.heap.size w W := (below_two' w _ _).trans (Joins.below_le hB (by omega))
  have hx : W.heap[w.heap.size + 1]? = some (.cells #[.slice ad tn tcap, .int .i64 at_] 31 (0, 0)) := (hB.block (w.heap.size + 1) (by omega)).trans (two_new w _ _ _)
  exact ⟨nine' ((hB.block w.heap.size (by omega)).trans ((heap_alloc_old _ _ (by simp)).trans (heap_alloc_new w _))), ⟨Joins.cell_of_block hx 0, Joins.cell_of_block hx 1⟩, (hTI.kept fun b hb => h0.block b hb).le h0.size, (htx.below h0).mono h0.size, h0⟩
theorem mayB_parts {t : Tn} {tn : Nat} {at_ : Int} (h : mayB t tn at_ = true) : t.sound = true ∧ t.sz ≤ 2000 ∧ tn ≤ 64 ∧ 0 ≤ at_ ∧ at_ ≤ (tn : Int) := by
  simp only [mayB, Bool.and_eq_true, decide_eq_true_eq] at h
  exact ⟨h.1.2, h.2, h.1.1.1, h.1.1.2.1, h.1.1.2.2⟩
theorem errP_zero {t u : Tn} {tn : Nat} {at_ : Int} (h : mayB t tn at_ = true) (hs : u.sound = true) (hz : u.sz ≤ t.sz) : errP u tn at_ = 0 := by
  obtain ⟨h1, h2, h3, h4, h5⟩ := mayB_parts h
  unfold errP
  rw [if_neg (by omega), if_neg (by simp [hs]), if_neg (by omega), if_neg (by omega)]
set_option maxRecDepth 100000 in
set_option maxHeartbeats 4000000 in
theorem turned6_out (N : Nv) (t : Tn) (tx raw : List Int) (ad rad : Option Addr) (tn tcap rn rcap : Nat) (at_ : Int) (w : World) (hTI : TI w w.heap.size N t) (htx : Look.TextAt w.heap.size w ad tn tx) (htc : tn ≤ tcap) (hraw : Look.TextAt w.heap.size w rad rn raw) (hout : mayB t tn at_ = false) :
    Calls Try.prog 6 #[N.v, .agg #[.slice ad tn tcap, .int .i64 at_], .slice rad rn rcap] w fun e w' => e = .returned (.bool true) ∧ Below w.heap.size w w' := by
  obtain ⟨W0, hW0⟩ : ∃ W0, W0 = (w.alloc N.ob).alloc (Xob ad tn tcap at_) := ⟨_, rfl⟩
  have hq := boxes (tcap := tcap) (at_ := at_) hTI htx
  rw [← hW0] at hq
  have hqr : ∀ W, Below (w.heap.size + 1 + 1) W0 W → Look.TextAt W.heap.size W rad rn raw := fun W hB => by have h0 := (hq W hB).2.2.2.2; exact (hraw.below h0).mono h0.size
  have hs0 : W0.heap.size = w.heap.size + 1 + 1 := by rw [hW0]; simp
  have HB0 : Hid (Below (w.heap.size + 1 + 1) W0 W0) := Below.refl _ _
  have htm : tn ≤ 35184372088832 := htx.2.1
  have c10 : ∀ W, Below (w.heap.size + 1 + 1) W0 W → Calls Try.prog 10 #[N.v] W fun e w' => e = .returned (.bool (decide (4194304 < t.nodes))) ∧ Below W.heap.size W w' := fun W hB => deep10 (hq W hB).2.2.1
  have c11 : ∀ W, Below (w.heap.size + 1 + 1) W0 W → Calls Try.prog 11 #[N.v, .slice ad tn tcap] W fun e w' => e = .returned (.bool (muchB t tn)) ∧ Below W.heap.size W w' := fun W hB => much11 N t ad tn tcap W (hq W hB).2.2.1 htm
  have c12 : ∀ W, Below (w.heap.size + 1 + 1) W0 W → Calls Try.prog 12 #[N.v, .agg #[.slice ad tn tcap, .int .i64 at_]] W fun e w' => e = .returned (.bool (mayB t tn at_)) ∧ Below W.heap.size W w' := fun W hB => may12 N t ad tn tcap at_ W (hq W hB).2.2.1 htm
  rw [hout] at c12
  obtain ⟨dp, hdp⟩ : ∃ dp, dp = decide (4194304 < t.nodes) := ⟨_, rfl⟩
  obtain ⟨mu, hmu⟩ : ∃ mu, mu = muchB t tn := ⟨_, rfl⟩
  rw [← hdp] at c10
  rw [← hmu] at c11
  clear hdp hmu hout
  obtain ⟨k, r1, r2, r3, a2, s1, s2, s3, a4, a5, a6, a7, a8⟩ := N
  dsimp only at hq c10 c11 c12
  have hx : ∀ W, Below (w.heap.size + 1 + 1) W0 W → Below w.heap.size w W := fun W hB => (hq W hB).2.2.2.2
  have HX := hid hx
  have HQ := hid hq
  have HQR := hid hqr
  have HC10 := hid c10
  have HC11 := hid c11
  have HC12 := hid c12
  clear hTI htx hraw hq hqr c10 c11 c12 hx
  go_enter Try.func6, Try.ntmps6
  go_upto_region 1 with fail
  rw [← hW0]
  clear hW0
  obtain ⟨⟨o0, o1, o2, o3, o4, o5, o6, o7, o8⟩, ⟨y0, y1⟩, _⟩ := HQ.out W0 HB0.out
  have HC := HC10.out W0 HB0.out
  cases dp with
  | true =>
    go_wp2_with (first | (go_at_call 10; (with_reducible refine HC.mono ?_); rintro e w1 ⟨rfl, hb1⟩; have HB1 : Hid (Below (w.heap.size + 1 + 1) W0 w1) := HB0.out.trans (Joins.below_le hb1 (by omega)); clear hb1 HC))
    go_ret
    exact ⟨rfl, HX.out _ HB1.out⟩
  | false =>
    go_upto_region 4 with (first | (go_at_call 10; (with_reducible refine HC.mono ?_); rintro e w1 ⟨rfl, hb1⟩; have HB1 : Hid (Below (w.heap.size + 1 + 1) W0 w1) := HB0.out.trans (Joins.below_le hb1 (by omega)); clear hb1 HC o0 o1 o2 o3 o4 o5 o6 o7 o8 y0 y1))
    obtain ⟨⟨o0, o1, o2, o3, o4, o5, o6, o7, o8⟩, ⟨y0, y1⟩, _⟩ := HQ.out w1 HB1.out
    have hs1 : W0.heap.size ≤ w1.heap.size := HB1.out.size
    have HC := HC11.out w1 HB1.out
    cases mu with
    | true =>
      go_wp2_with (first | (go_at_call 11; (with_reducible refine HC.mono ?_); rintro e w2 ⟨rfl, hb2⟩; have HB2 : Hid (Below (w.heap.size + 1 + 1) W0 w2) := HB1.out.trans (Joins.below_le hb2 (by omega)); clear hb2 HC))
      go_ret
      exact ⟨rfl, HX.out _ HB2.out⟩
    | false =>
      go_upto_region 7 with (first | (go_at_call 11; (with_reducible refine HC.mono ?_); rintro e w2 ⟨rfl, hb2⟩; have HB2 : Hid (Below (w.heap.size + 1 + 1) W0 w2) := HB1.out.trans (Joins.below_le hb2 (by omega)); clear hb2 HC o0 o1 o2 o3 o4 o5 o6 o7 o8 y0 y1))
      have hs2' : W0.heap.size ≤ w2.heap.size := HB2.out.size
      have HC := awake8 w2
      go_upto_region 8 with (first | (go_at_call 8; (with_reducible refine HC.mono ?_); rintro e w3 ⟨rfl, hb3⟩; have HB3 : Hid (Below (w.heap.size + 1 + 1) W0 w3) := HB2.out.trans (Joins.below_le hb3 (by omega)); clear hb3 HC))
      obtain ⟨⟨o0, o1, o2, o3, o4, o5, o6, o7, o8⟩, ⟨y0, y1⟩, _⟩ := HQ.out w3 HB3.out
      have hs3' : W0.heap.size ≤ w3.heap.size := HB3.out.size
      have HC := HC12.out w3 HB3.out
      go_wp2_with (first | (go_at_call 12; (with_reducible refine HC.mono ?_); rintro e w4 ⟨rfl, hb4⟩; have HB4 : Hid (Below (w.heap.size + 1 + 1) W0 w4) := HB3.out.trans (Joins.below_le hb4 (by omega)); clear hb4 HC))
      go_ret
      exact ⟨rfl, HX.out _ HB4.out⟩
end Go.Proofs.Ytnpocciioedgpaa
/- HELPERS: the law MeaningTurned walked, where the tree may be asked. -/
namespace Go.Proofs.Ytnpocciioedgpaa
open Go.RowKit
set_option linter.unusedVariables false
set_option linter.unusedSimpArgs false
theorem Parsed.kept {N : Nat} {w w' : World} {pv : Value} {l : List (Int × List Int)} (h : Parsed N w pv l) (hb : Below w.heap.size w w') : Parsed N w' pv l := by
  obtain ⟨cs, F, h1, h2⟩ := h
  exact ⟨cs, F, row_kept h1 (fun b hb' => hb.block b (h1.lt b hb').2), h2.kept (fun k hk => hb.block k (h2.low k hk).2)⟩
theorem Parsed.form {N : Nat} {w : World} {pv : Value} {l : List (Int × List Int)} (h : Parsed N w pv l) : ∃ a c, pv = .slice a l.length c := by
  rcases h.ends with ⟨rfl, rfl⟩ | ⟨b, cap, rfl, _⟩
  · exact ⟨none, 0, rfl⟩
  · exact ⟨_, _, rfl⟩
/-- meaning.Parses where it tells parses -/
theorem parses13ok {N : Nv} {t : Tn} {tx : List Int} {ad : Option Addr} {tn tcap : Nat} {at_ : Int} {W : World} (hTI : TI W W.heap.size N t) (htx : Look.TextAt W.heap.size W ad tn tx) (htc : tn ≤ tcap) (he : errP t tn at_ = 0) :
    Calls Try.prog 13 #[N.v, .slice ad tn tcap, .int .i64 at_] W fun e w' => ∃ (a : Option Addr) (c : Nat) (l : List (Int × List Int)), e = .returned (.tuple #[.slice a l.length c, .int .i64 0]) ∧ Parsed W.heap.size w' (.slice a l.length c) l ∧ PS t t.notes tx at_.toNat l ∧ l.length ≤ 65 ∧ Below W.heap.size W w' := by
  refine (parses13g N t tx ad tn tcap at_ W hTI htx htc).mono ?_
  rintro e w' ⟨pv, l, rfl, hP, h0, _, hb⟩
  obtain ⟨a, c, rfl⟩ := hP.form
  exact ⟨a, c, l, by rw [he], hP, (h0 he).1, (h0 he).2, hb⟩
set_option maxRecDepth 100000 in
set_option maxHeartbeats 8000000 in
theorem turned6_in (N : Nv) (t : Tn) (tx raw : List Int) (ad rad : Option Addr) (tn tcap rn rcap : Nat) (at_ : Int) (w : World) (hTI : TI w w.heap.size N t) (htx : Look.TextAt w.heap.size w ad tn tx) (htc : tn ≤ tcap) (hraw : Look.TextAt w.heap.size w rad rn raw) (hin : mayB t tn at_ = true) :
    Calls Try.prog 6 #[N.v, .agg #[.slice ad tn tcap, .int .i64 at_], .slice rad rn rcap] w fun e w' => e = .returned (.bool true) ∧ Below w.heap.size w w' := by
  obtain ⟨hsd, hsz, htn, ha0, ha1⟩ := mayB_parts hin
  obtain ⟨hfine, _, hnod⟩ := sound_parts hsd
  obtain ⟨W0, hW0⟩ : ∃ W0, W0 = (w.alloc N.ob).alloc (Xob ad tn tcap at_) := ⟨_, rfl⟩
  have hq := boxes (tcap := tcap) (at_ := at_) hTI htx
  rw [← hW0] at hq
  have hqr : ∀ W, Below (w.heap.size + 1 + 1) W0 W → Look.TextAt W.heap.size W rad rn raw := fun W hB => by have h0 := (hq W hB).2.2.2.2; exact (hraw.below h0).mono h0.size
  have hs0 : W0.heap.size = w.heap.size + 1 + 1 := by rw [hW0]; simp
  have HB0 : Hid (Below (w.heap.size + 1 + 1) W0 W0) := Below.refl _ _
  have htm : tn ≤ 35184372088832 := htx.2.1
  have c10 : ∀ W, Below (w.heap.size + 1 + 1) W0 W → Calls Try.prog 10 #[N.v] W fun e w' => e = .returned (.bool false) ∧ Below W.heap.size W w' := fun W hB => by have h := deep10 (hq W hB).2.2.1; rw [decide_eq_false (by omega)] at h; exact h
  have c11 : ∀ W, Below (w.heap.size + 1 + 1) W0 W → Calls Try.prog 11 #[N.v, .slice ad tn tcap] W fun e w' => e = .returned (.bool (muchB t tn)) ∧ Below W.heap.size W w' := fun W hB => much11 N t ad tn tcap W (hq W hB).2.2.1 htm
  have c12 : ∀ W, Below (w.heap.size + 1 + 1) W0 W → Calls Try.prog 12 #[N.v, .agg #[.slice ad tn tcap, .int .i64 at_]] W fun e w' => e = .returned (.bool true) ∧ Below W.heap.size W w' := fun W hB => by have h := may12 N t ad tn tcap at_ W (hq W hB).2.2.1 htm; rw [hin] at h; exact h
  have c13 : ∀ (M : Nv) (u : Tn) W, Below (w.heap.size + 1 + 1) W0 W → TI W W.heap.size M u → u.sound = true → u.sz ≤ t.sz → Calls Try.prog 13 #[M.v, .slice ad tn tcap, .int .i64 at_] W fun e w' => ∃ (a : Option Addr) (c : Nat) (l : List (Int × List Int)), e = .returned (.tuple #[.slice a l.length c, .int .i64 0]) ∧ Parsed W.heap.size w' (.slice a l.length c) l ∧ PS u u.notes tx at_.toNat l ∧ l.length ≤ 65 ∧ Below W.heap.size W w' := fun M u W hB hM hsu hzu => parses13ok hM (hq W hB).2.2.2.1 htc (errP_zero hin hsu hzu)
  have c23 : ∀ W, Below (w.heap.size + 1 + 1) W0 W → Calls Try.prog 23 #[N.v, .slice rad rn rcap, .int .i64 0] W fun e w' => ∃ (M : Nv) (u : Tn) (m : Int), e = .returned (.tuple #[M.v, .int .i64 m]) ∧ TI w' w'.heap.size M u ∧ (u.sound = true ∧ u.sz ≤ t.sz ∧ Mt tx t = Mt tx u) ∧ Below W.heap.size W w' := fun W hB => by
    have h0 := (hq W hB).2.2.2.2
    refine (turned23 hTI raw rad rn rcap hraw hfine 0 (Int.le_refl _) (by omega) W h0.size (fun b hb => h0.block b hb)).mono ?_
    rintro e w' ⟨M, u, m, rfl, hM, hT, hm, hb⟩
    have hL := hT.less hfine
    exact ⟨M, u, m, rfl, hM.ti (fun b hb' => by have := hb.size; have := h0.size; rcases hb' with h | h <;> omega), ⟨hL.sound hsd, hL.sz, hT.same⟩, hb⟩
  have c24 : ∀ W, Below (w.heap.size + 1 + 1) W0 W → Calls Try.prog 24 #[N.v] W fun e w' => ∃ (M : Nv), e = .returned M.v ∧ TI w' w'.heap.size M t.bare ∧ Below W.heap.size W w' := fun W hB => by
    have h0 := (hq W hB).2.2.2.2
    refine (bare24 hTI hfine hnod W h0.size (fun b hb => h0.block b hb)).mono ?_
    rintro e w' ⟨M, rfl, hM, hb⟩
    exact ⟨M, rfl, hM.ti (fun b hb' => by have := hb.size; have := h0.size; rcases hb' with h | h <;> omega), hb⟩
  have hbl := Tn.bare_less t hfine
  have hbs := hbl.sound hsd
  have hbz := hbl.sz
  have c13t : ∀ W, Below (w.heap.size + 1 + 1) W0 W → Calls Try.prog 13 #[N.v, .slice ad tn tcap, .int .i64 at_] W fun e w' => ∃ (a : Option Addr) (c : Nat) (l : List (Int × List Int)), e = .returned (.tuple #[.slice a l.length c, .int .i64 0]) ∧ Parsed W.heap.size w' (.slice a l.length c) l ∧ PS t t.notes tx at_.toNat l ∧ l.length ≤ 65 ∧ Below W.heap.size W w' := fun W hB => c13 N t W hB (hq W hB).2.2.1 hsd (Nat.le_refl _)
  obtain ⟨mu, hmu⟩ : ∃ mu, mu = muchB t tn := ⟨_, rfl⟩
  rw [← hmu] at c11
  have htl : tx.length = tn := htx.1.symm
  clear hmu hin
  obtain ⟨k, r1, r2, r3, a2, s1, s2, s3, a4, a5, a6, a7, a8⟩ := N
  dsimp only at hq c10 c11 c12 c23 c24 c13t
  have hx : ∀ W, Below (w.heap.size + 1 + 1) W0 W → Below w.heap.size w W := fun W hB => (hq W hB).2.2.2.2
  have hsx : ∀ W, Below (w.heap.size + 1 + 1) W0 W → W.cell? ⟨w.heap.size, 0, none⟩ = some (.int .i64 k) ∧ W.cell? ⟨w.heap.size, 1, none⟩ = some (.slice r1 r2 r3) ∧ W.cell? ⟨w.heap.size, 2, none⟩ = some (.int .i64 a2) ∧ W.cell? ⟨w.heap.size, 3, none⟩ = some (.slice s1 s2 s3) ∧ W.cell? ⟨w.heap.size, 4, none⟩ = some (.int .i64 a4) ∧ W.cell? ⟨w.heap.size, 5, none⟩ = some (.int .i64 a5) ∧ W.cell? ⟨w.heap.size, 6, none⟩ = some (.bool a6) ∧ W.cell? ⟨w.heap.size, 7, none⟩ = some (.int .i64 a7) ∧ W.cell? ⟨w.heap.size, 8, none⟩ = some (.string a8) ∧ W.cell? ⟨w.heap.size + 1, 0, none⟩ = some (.slice ad tn tcap) ∧ W.cell? ⟨w.heap.size + 1, 1, none⟩ = some (.int .i64 at_) := fun W hB => by obtain ⟨⟨o0, o1, o2, o3, o4, o5, o6, o7, o8⟩, ⟨y0, y1⟩, _⟩ := hq W hB; exact ⟨o0, o1, o2, o3, o4, o5, o6, o7, o8, y0, y1⟩
  have HX := hid hx
  have HSX := hid hsx
  have HQ := hid hq
  have HQR := hid hqr
  have HC10 := hid c10
  have HC11 := hid c11
  have HC12 := hid c12
  have HC13 := hid c13
  have HC13t := hid c13t
  have HC23 := hid c23
  have HC24 := hid c24
  have HBS := hid hbs
  have HBZ := hid hbz
  have HF := hid hfine
  have HTL := hid htl
  clear hTI htx hraw hq hqr c10 c11 c12 c13 c13t c23 c24 hx hsx hbs hbz hbl hfine htl hsd hsz hnod
  go_enter Try.func6, Try.ntmps6
  go_upto_region 1 with fail
  rw [← hW0]
  clear hW0
  obtain ⟨⟨o0, o1, o2, o3, o4, o5, o6, o7, o8⟩, ⟨y0, y1⟩, _⟩ := HQ.out W0 HB0.out
  have HC := HC10.out W0 HB0.out
  go_upto_region 4 with (first | (go_at_call 10; (with_reducible refine HC.mono ?_); rintro e w1 ⟨rfl, hb1⟩; have HB1 : Hid (Below (w.heap.size + 1 + 1) W0 w1) := HB0.out.trans (Joins.below_le hb1 (by omega)); clear hb1 HC o0 o1 o2 o3 o4 o5 o6 o7 o8 y0 y1))
  have hs1' : W0.heap.size ≤ w1.heap.size := HB1.out.size
  obtain ⟨⟨o0, o1, o2, o3, o4, o5, o6, o7, o8⟩, ⟨y0, y1⟩, _⟩ := HQ.out w1 HB1.out
  have HC := HC11.out w1 HB1.out
  cases mu with
  | true =>
    go_wp2_with (first | (go_at_call 11; (with_reducible refine HC.mono ?_); rintro e w2 ⟨rfl, hb2⟩; have HB2 : Hid (Below (w.heap.size + 1 + 1) W0 w2) := HB1.out.trans (Joins.below_le hb2 (by omega)); clear hb2 HC))
    go_ret
    exact ⟨rfl, HX.out _ HB2.out⟩
  | false =>
  go_upto_region 7 with (first | (go_at_call 11; (with_reducible refine HC.mono ?_); rintro e w2 ⟨rfl, hb2⟩; have HB2 : Hid (Below (w.heap.size + 1 + 1) W0 w2) := HB1.out.trans (Joins.below_le hb2 (by omega)); clear hb2 HC o0 o1 o2 o3 o4 o5 o6 o7 o8 y0 y1))
  have hs2' : W0.heap.size ≤ w2.heap.size := HB2.out.size
  obtain ⟨⟨o0, o1, o2, o3, o4, o5, o6, o7, o8⟩, ⟨y0, y1⟩, _⟩ := HQ.out w2 HB2.out
  have HC := awake8 w2
  go_upto_region 8 with (first | (go_at_call 8; (with_reducible refine HC.mono ?_); rintro e w3 ⟨rfl, hb3⟩; have HB3 : Hid (Below (w.heap.size + 1 + 1) W0 w3) := HB2.out.trans (Joins.below_le hb3 (by omega)); clear hb3 HC o0 o1 o2 o3 o4 o5 o6 o7 o8 y0 y1))
  have hs3' : W0.heap.size ≤ w3.heap.size := HB3.out.size
  obtain ⟨⟨o0, o1, o2, o3, o4, o5, o6, o7, o8⟩, ⟨y0, y1⟩, _⟩ := HQ.out w3 HB3.out
  have HC := HC12.out w3 HB3.out
  go_upto_region 11 with (first | (go_at_call 12; (with_reducible refine HC.mono ?_); rintro e w4 ⟨rfl, hb4⟩; have HB4 : Hid (Below (w.heap.size + 1 + 1) W0 w4) := HB3.out.trans (Joins.below_le hb4 (by omega)); clear hb4 HC o0 o1 o2 o3 o4 o5 o6 o7 o8 y0 y1))
  have hs4' : W0.heap.size ≤ w4.heap.size := HB4.out.size
  obtain ⟨⟨o0, o1, o2, o3, o4, o5, o6, o7, o8⟩, ⟨y0, y1⟩, _⟩ := HQ.out w4 HB4.out
  have HC := HC13t.out w4 HB4.out
  go_upto_region 12 with (first | (go_at_call 13; (with_reducible refine HC.mono ?_); rintro e w5 ⟨la, lc, l, rfl, hPl, hSl, hLl, hb5⟩; have HB5 : Hid (Below (w.heap.size + 1 + 1) W0 w5) := HB4.out.trans (Joins.below_le hb5 (by omega)); have HPl := hid hPl; have HSl := hid hSl; clear hPl hSl; clear hb5 HC o0 o1 o2 o3 o4 o5 o6 o7 o8 y0 y1))
  have hs5' : W0.heap.size ≤ w5.heap.size := HB5.out.size
  obtain ⟨⟨o0, o1, o2, o3, o4, o5, o6, o7, o8⟩, ⟨y0, y1⟩, _⟩ := HQ.out w5 HB5.out
  have HC := HC23.out w5 HB5.out
  go_upto_region 13 with (first | (go_at_call 23; (with_reducible refine HC.mono ?_); rintro e w6 ⟨M, u, mm, rfl, hTM, ⟨hus, huz, hum⟩, hb6⟩; have HB6 : Hid (Below (w.heap.size + 1 + 1) W0 w6) := HB5.out.trans (Joins.below_le hb6 (by omega)); have HPl6 : Hid (Parsed w4.heap.size w6 (.slice la l.length lc) l) := HPl.out.kept hb6; have HTM := hid hTM; have HUS := hid hus; have HUZ := hid huz; have HUM := hid hum; clear hb6 hTM hus huz hum HC HPl o0 o1 o2 o3 o4 o5 o6 o7 o8 y0 y1))
  obtain ⟨X, hX⟩ : ∃ X, X = w6.alloc (.cells #[.int .i64 M.k, .slice M.r1 M.r2 M.r3, .int .i64 M.a2, .slice M.s1 M.s2 M.s3, .int .i64 M.a4, .int .i64 M.a5, .bool M.a6, .int .i64 M.a7, .string M.a8] 28) := ⟨_, rfl⟩
  rw [← hX]
  have hXb : Below w6.heap.size w6 X := by rw [hX]; exact Joins.below_alloc1 w6 _
  have hXn : X.heap[w6.heap.size]? = some (.cells #[.int .i64 M.k, .slice M.r1 M.r2 M.r3, .int .i64 M.a2, .slice M.s1 M.s2 M.s3, .int .i64 M.a4, .int .i64 M.a5, .bool M.a6, .int .i64 M.a7, .string M.a8] 28 (0, 0)) := by rw [hX]; exact heap_alloc_new w6 _
  obtain ⟨x0, x1, x2, x3, x4, x5, x6, x7, x8⟩ := nine' hXn
  have HBX : Hid (Below (w.heap.size + 1 + 1) W0 X) := HB6.out.trans (Joins.below_le hXb (by have := HB6.out.size; omega))
  have HPlX : Hid (Parsed w4.heap.size X (.slice la l.length lc) l) := HPl6.out.kept hXb
  have hTX : TI X X.heap.size M u := (HTM.out.kept fun b hb => hXb.block b hb).le hXb.size
  have HC := HC13.out M u X HBX.out hTX HUS.out HUZ.out
  obtain ⟨⟨o0, o1, o2, o3, o4, o5, o6, o7, o8⟩, ⟨y0, y1⟩, _⟩ := HQ.out X HBX.out
  have hsX : W0.heap.size ≤ X.heap.size := HBX.out.size
  clear hX hXb hXn HTM HPl6 hTX
  go_upto_region 14 with (first | (go_at_call 13; (with_reducible refine HC.mono ?_); rintro e w7 ⟨ma, mc, m, rfl, hPm, hSm, hLm, hb7⟩; have HB7 : Hid (Below (w.heap.size + 1 + 1) W0 w7) := HBX.out.trans (Joins.below_le hb7 (by omega)); have HPl7 : Hid (Parsed w4.heap.size w7 (.slice la l.length lc) l) := HPlX.out.kept hb7; have HPm := hid hPm; have HSm := hid hSm; clear hb7 hPm hSm HC HPlX o0 o1 o2 o3 o4 o5 o6 o7 o8 y0 y1 x0 x1 x2 x3 x4 x5 x6 x7 x8))
  have hs7' : W0.heap.size ≤ w7.heap.size := HB7.out.size
  have HB7d : Hid (Below (w.heap.size + 1 + 1) W0 w7.drew) := HB7.out.drew
  have hdr : Below w7.heap.size w7 w7.drew := (Below.refl _ _).drew
  have HPl7d : Hid (Parsed w4.heap.size w7.drew (.slice la l.length lc) l) := HPl7.out.kept hdr
  have HPm7d : Hid (Parsed X.heap.size w7.drew (.slice ma m.length mc) m) := HPm.out.kept hdr
  have HC := HC24.out w7.drew HB7d.out
  have hs7d : W0.heap.size ≤ w7.drew.heap.size := HB7d.out.size
  clear HPl7 HPm hdr
  go_cut [17, 18] from 64 to 72 (fun x y wx => ∃ (na : Option Addr) (nc : Nat) (n : List (Int × List Int)), x = .slice na n.length nc ∧ y = .int .i64 0 ∧ Hid (Parsed w4.heap.size wx (.slice la l.length lc) l) ∧ Hid (Parsed X.heap.size wx (.slice ma m.length mc) m) ∧ Hid (∃ Nn, Parsed Nn wx (.slice na n.length nc) n) ∧ Hid (PS t.bare t.bare.notes tx at_.toNat n) ∧ n.length ≤ 65 ∧ Hid (Below (w.heap.size + 1 + 1) W0 wx))
  case first =>
    go_region_held2 (fun W => W.cell? ⟨w.heap.size, 0, none⟩ = some (.int .i64 k) ∧ W.cell? ⟨w.heap.size, 1, none⟩ = some (.slice r1 r2 r3) ∧ W.cell? ⟨w.heap.size, 2, none⟩ = some (.int .i64 a2) ∧ W.cell? ⟨w.heap.size, 3, none⟩ = some (.slice s1 s2 s3) ∧ W.cell? ⟨w.heap.size, 4, none⟩ = some (.int .i64 a4) ∧ W.cell? ⟨w.heap.size, 5, none⟩ = some (.int .i64 a5) ∧ W.cell? ⟨w.heap.size, 6, none⟩ = some (.bool a6) ∧ W.cell? ⟨w.heap.size, 7, none⟩ = some (.int .i64 a7) ∧ W.cell? ⟨w.heap.size, 8, none⟩ = some (.string a8) ∧ W.cell? ⟨w.heap.size + 1, 0, none⟩ = some (.slice ad tn tcap) ∧ W.cell? ⟨w.heap.size + 1, 1, none⟩ = some (.int .i64 at_))
      (first | exact HSX.out _ HB7.out | exact HSX.out _ HB7d.out | exact HSX.out _ HB8.out | exact HSX.out _ HB9.out)
      (first | (go_at_call 24; (with_reducible refine HC.mono ?_); rintro e w8 ⟨M8, rfl, hT8, hb8⟩; have HB8 : Hid (Below (w.heap.size + 1 + 1) W0 w8) := HB7d.out.trans (Joins.below_le hb8 (by omega)); have hs8 : W0.heap.size ≤ w8.heap.size := HB8.out.size; have HC2 := HC13.out M8 t.bare w8 HB8.out hT8 HBS.out HBZ.out; have HPl8 : Hid (Parsed w4.heap.size w8 (.slice la l.length lc) l) := HPl7d.out.kept hb8; have HPm8 : Hid (Parsed X.heap.size w8 (.slice ma m.length mc) m) := HPm7d.out.kept hb8; clear hb8 hT8 HC) | (go_at_call 13; (with_reducible refine HC2.mono ?_); rintro e w9 ⟨na, nc, n, rfl, hPn, hSn, hLn, hb9⟩; have HB9 : Hid (Below (w.heap.size + 1 + 1) W0 w9) := HB8.out.trans (Joins.below_le hb9 (by omega)); have HPl9 : Hid (Parsed w4.heap.size w9 (.slice la l.length lc) l) := HPl8.out.kept hb9; have HPm9 : Hid (Parsed X.heap.size w9 (.slice ma m.length mc) m) := HPm8.out.kept hb9; have HPn := hid hPn; have HSn := hid hSn; clear hb9 hPn hSn HC2))
    all_goals
      go_wp2
      go_meet
      exact ⟨na, nc, n, rfl, rfl, HPl9, HPm9, by exact ⟨_, HPn.out⟩, HSn, hLn, HB9⟩
  case rest =>
  obtain ⟨na, nc, n, rfl, rfl, HPl9, HPm9, HPn9, HSn, hLn, HB9⟩ := hcut
  have hsame := HSl.out.same HSm.out HUM.out
  have hbare := HSl.out.bare HF.out HSn.out
  have hlm : m.length = l.length := hsame.2.symm
  have hln : n.length = l.length := by have := congrArg List.length hbare; simpa using this.symm
  obtain ⟨ln, hln0⟩ : ∃ ln, ln = l.length := ⟨_, rfl⟩
  have HLL : Hid (l.length = ln) := hln0.symm
  have HLM : Hid (m.length = ln) := hlm.trans hln0.symm
  have HLN : Hid (n.length = ln) := hln.trans hln0.symm
  rw [hlm, hln, ← hln0]
  have HSM := hid hsame.1
  have HBA := hid hbare
  rw [← hln0] at HPl9 hLl
  rw [hlm, ← hln0] at HPm9
  rw [hln, ← hln0] at HPn9
  clear hsame hbare hlm hln hln0 HPl7d HPm7d HSl HSm HSn HB7d hLm hLn HC
  have e0 : ((0 : Int) != 0) = false := by decide
  have e1 : ((ln : Int) != (ln : Int)) = false := by simp
  go_wp2_with fail
  go_loopw [19] (fun x wq => ∃ i : Nat, x = .int .i64 (i : Int) ∧ i ≤ ln ∧ Hid (Parsed w4.heap.size wq (.slice la ln lc) l) ∧ Hid (Parsed X.heap.size wq (.slice ma ln mc) m) ∧ Hid (∃ Nn, Parsed Nn wq (.slice na ln nc) n) ∧ Hid (Below (w.heap.size + 1 + 1) W0 wq)) (fun x _ => ln - (intOf x).toNat)
  case atStart => exact ⟨0, rfl, by omega, HPl9, HPm9, HPn9, HB9⟩
  case round =>
    clear HPl9 HPm9 HPn9 HB9
    obtain ⟨i, rfl, hi, HPl, HPm, HPn, HB⟩ := hrel
    by_cases hlt : i < ln
    · have b1 : decide ((i : Int) < (ln : Int)) = true := by simp; omega
      have b2 : (i : Int) < (ln : Int) := by omega
      have ad1 : IntKind.i64.wrap ((i : Int) + 1) = (i : Int) + 1 := by simp [IntKind.wrap, IntKind.bits, IntKind.signed]; omega
      have hil : i < l.length := by rw [HLL.out]; exact hlt
      have hin' : i < n.length := by rw [HLN.out]; exact hlt
      have heq : n[i].1 = l[i].1 := by
        have h1 := congrArg (fun z => z[i]?) HBA.out
        simp [hil, hin'] at h1
        exact h1.symm
      obtain ⟨bl, cl, hla, hcl⟩ : ∃ bl cl, Value.slice la ln lc = .slice (some ⟨bl, 0, none⟩) ln cl ∧ wr.cell? ⟨bl, i * 2, none⟩ = some (.int .i64 l[i].1) := by
        rcases HPl.out.ends with ⟨_, h0⟩ | ⟨b, cap, e, _, _, hc⟩
        · rw [h0] at hil; simp at hil
        · rw [HLL.out] at e; exact ⟨b, cap, e, hc i hil⟩
      obtain ⟨bn, cn, hna, hcn⟩ : ∃ bl cl, Value.slice na ln nc = .slice (some ⟨bl, 0, none⟩) ln cl ∧ wr.cell? ⟨bl, i * 2, none⟩ = some (.int .i64 n[i].1) := by
        obtain ⟨Nn, hPn⟩ := HPn.out
        rcases hPn.ends with ⟨_, h0⟩ | ⟨b, cap, e, _, _, hc⟩
        · rw [h0] at hin'; simp at hin'
        · rw [HLN.out] at e; exact ⟨b, cap, e, hc i hin'⟩
      rw [heq] at hcn
      simp only [Value.slice.injEq] at hla hna
      obtain ⟨rfl, _, rfl⟩ := hla
      obtain ⟨rfl, _, rfl⟩ := hna
      obtain ⟨e, he⟩ : ∃ e, e = l[i].1 := ⟨_, rfl⟩
      rw [← he] at hcl hcn
      have e2 : (e != e) = false := by simp
      clear he heq hil hin'
      go_wp2_with fail
      go_quiet (fail)
      go_wp2
      have hdr : ∀ q, Below wr.heap.size wr (wr.drewN q) := fun q => below_drewN (Below.refl _ _) q
      exact ⟨⟨i + 1, by push_cast; rfl, by omega, by exact HPl.out.kept (hdr _), by exact HPm.out.kept (hdr _), by obtain ⟨Nn, h⟩ := HPn.out; exact ⟨Nn, h.kept (hdr _)⟩, by exact below_drewN HB.out _⟩, by simp [intOf]; omega⟩
    · have b1 : decide ((i : Int) < (ln : Int)) = false := by simp; omega
      obtain rfl : i = ln := by omega
      have hdr : Below wr.heap.size wr wr.drew := (Below.refl _ _).drew
      have HBd : Hid (Below (w.heap.size + 1 + 1) W0 wr.drew) := HB.out.drew
      have hPld := HPl.out.kept hdr
      have HPmd := hid (HPm.out.kept hdr)
      have HC := ends22 _ _ l tn htn (by rw [HLL.out]; omega) wr.drew hPld
      have hsd : W0.heap.size ≤ wr.drew.heap.size := HBd.out.size
      have hys : ∀ W, Below (w.heap.size + 1 + 1) W0 W → W.cell? ⟨w.heap.size + 1, 0, none⟩ = some (.slice ad tn tcap) := fun W hB => (HSX.out W hB).2.2.2.2.2.2.2.2.2.1
      have HYS := hid hys
      have eqq : decide (∀ j, j < tn + 1 → decide ((j : Int) ∈ l.map Prod.fst) = decide ((j : Int) ∈ m.map Prod.fst)) = true := by
        simp only [decide_eq_true_eq]
        intro j hj
        rw [Bool.eq_iff_iff, decide_eq_true_eq, decide_eq_true_eq]
        exact HSM.out _
      have EQQ := hid eqq
      have hlm' : m.length ≤ 65 := by rw [HLM.out]; omega
      have b6 : IntKind.i64.wrap (tn : Int) = (tn : Int) := by simp [IntKind.wrap, IntKind.bits, IntKind.signed]; omega
      clear hdr hPld hys HPl HPm HPn eqq
      go_wp2_with fail
      go_region_held2 (fun W => W.cell? ⟨w.heap.size + 1, 0, none⟩ = some (.slice ad tn tcap))
        (first | exact HYS.out _ HB.out | exact HYS.out _ HBd.out | exact HYS.out _ HB10.out | exact HYS.out _ HB11.out | exact HYS.out _ HB12.out)
        (first | (go_at_call 22; (with_reducible refine HC.mono ?_); rintro e w10 ⟨rfl, hR10, hb10⟩; have HB10 : Hid (Below (w.heap.size + 1 + 1) W0 w10) := HBd.out.trans (Joins.below_le hb10 (by omega)); have hs10 : W0.heap.size ≤ w10.heap.size := HB10.out.size; have HR10 := hid hR10; have HC2 := ends22 _ _ m tn htn hlm' w10 (HPmd.out.kept hb10); clear hb10 hR10 HC) | (go_at_call 22; (with_reducible refine HC2.mono ?_); rintro e w11 ⟨rfl, hR11, hb11⟩; have HB11 : Hid (Below (w.heap.size + 1 + 1) W0 w11) := HB10.out.trans (Joins.below_le hb11 (by omega)); have hs11 : W0.heap.size ≤ w11.heap.size := HB11.out.size; have HC3 := alike21 wr.heap.size w10.heap.size (tn + 1) (tn + 1) (tn + 1) _ _ (by omega) w11 (HR10.out.kept (hb11.block _ HR10.out.lt)) hR11; rw [EQQ.out] at HC3; clear hb11 hR11 HC2) | (go_at_call 21; (with_reducible refine HC3.mono ?_); rintro e w12 ⟨rfl, hb12⟩; have HB12 : Hid (Below (w.heap.size + 1 + 1) W0 w12) := HB11.out.trans (Joins.below_le hb12 (by omega)); clear hb12 HC3))
      all_goals
        go_wp2
        go_ret
        exact ⟨rfl, HX.out _ HB12.out⟩
end Go.Proofs.Ytnpocciioedgpaa
