/- PROVED: the law SimplifySays of layer 7 answers true for every two trees, and the trees read afterwards as they read before: the program's simple form of a tree, its fault and its size are the document's, asked again behind another one and of the same lists with other things in them; what is handed in stays, with what stands behind its lists; no two lists of all that came out share memory.
   CONDITIONS: none but the form's own (each slice and string at most 2^47 - 4096 bytes). -/
import Derived.Test.YtdidopgenhpakaaMA
import Derived.Test.YtdidopgenhpakaaJe
import Derived.Test.YtdidopgenhpakaaLA
import Derived.Test.YtdidopgenhpakaaSq
import Derived.Test.YtdidopgenhpakaaHb
import Derived.Test.YtdidopgenhpakaaAr
import Derived.Test.YtdidopgenhpakaaSm
/- HELPERS: both calls of a tree, against the document's; what comes out is put into the lists. -/
namespace Go.Proofs.Ytdidopgenhpakaa
open Go.RowKit
set_option linter.unusedVariables false
set_option linter.unusedSimpArgs false
/-- the lists, all in blocks of K -/
def SS (w : World) (lb n : Nat) (K : Nat → Prop) : Prop := ∃ v0 v1 RV SV ln lm XR XS, ST w lb n v0 v1 RV SV ln lm XR XS 1000000 ∧ ∀ p b, p.ok n → bkO lb v0 v1 RV SV p = some b → K b
theorem sim_in (t : Tn) : (simT t).nodes ≤ 200000 ∧ (simT t).few = true := by
  unfold simT errS
  cases hs : t.sound with
  | false => simp only [Bool.false_eq_true, if_false]; rw [if_neg (by decide : ¬ (50 : Int) = 0)]; exact ⟨by decide, by decide⟩
  | true =>
    simp only [if_true]
    cases hb : t.bigS with
    | true => simp only [if_true]; rw [if_neg (by decide : ¬ (3 : Int) = 0)]; exact ⟨by decide, by decide⟩
    | false =>
      simp only [Bool.false_eq_true, if_false, if_true]
      simp only [Tn.sound, Bool.and_eq_true, decide_eq_true_eq] at hs
      simp only [Tn.bigS, Bool.or_eq_false_iff, decide_eq_false_iff_not] at hb
      exact ⟨by omega, few_of_fine _ (nf_S t hs.1.1).fine⟩
theorem lt_of_block {w : World} {b : Nat} {o : Obj} (h : w.heap[b]? = some o) : b < w.heap.size := (Array.getElem?_eq_some_iff.1 h).1
theorem SS.mono {w : World} {lb n : Nat} {K K' : Nat → Prop} (h : SS w lb n K) (hK : ∀ b, K b → b < w.heap.size → K' b) : SS w lb n K' := by
  obtain ⟨v0, v1, RV, SV, ln, lm, XR, XS, hST, h⟩ := h
  exact ⟨v0, v1, RV, SV, ln, lm, XR, XS, hST, fun p b hp hb => hK b (h p b hp hb) (hST.low p b hp hb)⟩
theorem SS.chs {A : Nat → Prop} {w w' : World} {lb n : Nat} {K : Nat → Prop} (h : SS w lb n K) (hc : Chs A w w') (hA : ∀ b, K b → ¬ A b) : SS w' lb n K := by
  obtain ⟨v0, v1, RV, SV, ln, lm, XR, XS, hST, h⟩ := h
  exact ⟨v0, v1, RV, SV, ln, lm, XR, XS, hST.kept fun p b hp hb => hc.block b (hST.low p b hp hb) (hA b (h p b hp hb)), h⟩
theorem Below.of {B B' : Nat} {w w' : World} (h : Below B w w') (hB : B' ≤ B) : Below B' w w' := Joins.below_le h hB
set_option maxRecDepth 100000 in
set_option maxHeartbeats 16000000 in
theorem says14 {w : World} {N M : Nv} {t : Tn} {AT K : Nat → Prop} {lb n : Nat} (hin : TI w w.heap.size N t) (hT : TP w AT M t) (hlow : ∀ b, AT b → b < w.heap.size) (hSS : SS w lb n K) (hdis : ∀ b, K b → ¬ AT b) (hn : n ≤ 800000) :
    Calls Try.prog 14 #[N.v, M.v, pt lb] w fun e w' => e = .returned (.bool true) ∧ (∃ m, m ≤ 200000 ∧ SS w' lb (n + m) (fun b => K b ∨ w.heap.size ≤ b)) ∧ Chs K w w' := by
  obtain ⟨W, hW⟩ : ∃ W, W = (w.alloc (.cells #[.int .i64 N.k, .slice N.r1 N.r2 N.r3, .int .i64 N.a2, .slice N.s1 N.s2 N.s3, .int .i64 N.a4, .int .i64 N.a5, .bool N.a6, .int .i64 N.a7, .string N.a8] 25)).alloc (.cells #[.int .i64 M.k, .slice M.r1 M.r2 M.r3, .int .i64 M.a2, .slice M.s1 M.s2 M.s3, .int .i64 M.a4, .int .i64 M.a5, .bool M.a6, .int .i64 M.a7, .string M.a8] 25) := ⟨_, rfl⟩
  have hbW : Below w.heap.size w W := by rw [hW]; exact below_two' w _ _
  have hsW : W.heap.size = w.heap.size + 2 := by rw [hW]; simp
  have hI : BN W w.heap.size N := by rw [hW]; exact (heap_alloc_old _ _ (by simp)).trans (heap_alloc_new w _)
  have hM : BN W (w.heap.size + 1) M := by rw [hW]; exact two_new w _ _ _
  have hTI : TI W W.heap.size N t := (hin.kept fun b hb => hbW.block b hb).le (by omega)
  have hTM : TI W W.heap.size M t := ((hT.ti hlow).kept fun b hb => hbW.block b hb).le (by omega)
  have HC := rsimp33 hTM
  obtain ⟨x, hx⟩ : ∃ x, x = w.heap.size := ⟨_, rfl⟩
  rw [← hx] at hI hM hsW
  obtain ⟨E, hE⟩ : ∃ E, E = errS t := ⟨_, rfl⟩
  obtain ⟨Z, hZ⟩ : ∃ Z : Int, Z = ((sizeT t : Nat) : Int) := ⟨_, rfl⟩
  rw [← hE] at HC
  obtain ⟨a0, a1, a2, a3, a4, a5, a6, a7, a8⟩ := nine' hM
  have HI := hid hI
  have HM := hid hM
  have HBW := hid hbW
  have HSW := hid hsW
  have HXE := hid hx
  have HTI := hid hTI
  have HT := hid hT
  have HLO := hid hlow
  have HSS := hid hSS
  have HDI := hid hdis
  have HE := hid hE
  have HZ := hid hZ
  clear hbW hsW hI hM hTI hTM hin hT hlow hSS hdis hE hZ
  go_enter Try.func14, Try.ntmps14
  go_upto_region 1 with fail
  rw [← hx, ← hW]
  clear hW hx
  go_upto_region 2 with (first | (go_at_call 33; (with_reducible refine HC.mono ?_); rintro e w1 ⟨Q, rfl, hQ, hb1⟩; have HQ := hid hQ; have HB1 := hid hb1; clear hQ hb1 HC))
  obtain ⟨U1, hU1⟩ : ∃ U, U = w1.alloc (.cells #[.int .i64 Q.k, .slice Q.r1 Q.r2 Q.r3, .int .i64 Q.a2, .slice Q.s1 Q.s2 Q.s3, .int .i64 Q.a4, .int .i64 Q.a5, .bool Q.a6, .int .i64 Q.a7, .string Q.a8] 25) := ⟨_, rfl⟩
  rw [← hU1]
  have h1b : Below w1.heap.size w1 U1 := by rw [hU1]; exact Joins.below_alloc1 w1 _
  have h1s : U1.heap.size = w1.heap.size + 1 := by rw [hU1]; simp
  have h1Q : BN U1 w1.heap.size Q := by rw [hU1]; exact heap_alloc_new w1 _
  have hz1 := HB1.out.size
  have hsw := HSW.out
  have hWU : Below W.heap.size W U1 := HB1.out.trans (Joins.below_le h1b hz1)
  have h1I := (hWU.block x (by omega)).trans HI.out
  have h1M := (hWU.block (x + 1) (by omega)).trans HM.out
  have h1T : TI U1 U1.heap.size N t := (HTI.out.kept fun b hb => hWU.block b hb).le hWU.size
  have h1TQ : TI U1 w1.heap.size Q (simT t) := HQ.out.kept fun b hb => h1b.block b hb
  obtain ⟨z1, hz1e⟩ : ∃ z, z = w1.heap.size := ⟨_, rfl⟩
  rw [← hz1e] at h1Q h1s h1TQ hz1 ⊢
  have HC := size12 h1T
  rw [← HZ.out] at HC
  have K1I := hid h1I
  have K1M := hid h1M
  have K1Q := hid h1Q
  have K1T := hid h1T
  have K1TQ := hid h1TQ
  have K1B := hid (HBW.out.trans (Joins.below_le hWU HBW.out.size))
  have K1S := hid h1s
  clear a0 a1 a2 a3 a4 a5 a6 a7 a8 hU1 h1b h1s h1Q hWU h1M h1T h1TQ hz1e HQ HB1 HI HM HBW HTI
  obtain ⟨a0, a1, a2, a3, a4, a5, a6, a7, a8⟩ := nine' h1I
  clear h1I
  go_upto_region 3 with (first | (go_at_call 12; (with_reducible refine HC.mono ?_); rintro e w2 ⟨rfl, hb2⟩; have HB2 := hid hb2; clear hb2 HC))
  have hz2 := HB2.out.size
  have h1s := K1S.out
  have h2I := (HB2.out.block x (by omega)).trans K1I.out
  have h2T : TI w2 w2.heap.size N t := (K1T.out.kept fun b hb => HB2.out.block b hb).le hz2
  have HC := simplify11 h2T
  rw [← HE.out] at HC
  clear a0 a1 a2 a3 a4 a5 a6 a7 a8
  obtain ⟨a0, a1, a2, a3, a4, a5, a6, a7, a8⟩ := nine' h2I
  clear h2I h2T
  go_upto_region 4 with (first | (go_at_call 11; (with_reducible refine HC.mono ?_); rintro e w3 ⟨S, rfl, AA, hS, hAA, hb3⟩; have HS := hid hS; have HAA := hid hAA; have HB3 := hid hb3; clear hS hAA hb3 HC))
  obtain ⟨U3, hU3⟩ : ∃ U, U = w3.alloc (.cells #[.int .i64 S.k, .slice S.r1 S.r2 S.r3, .int .i64 S.a2, .slice S.s1 S.s2 S.s3, .int .i64 S.a4, .int .i64 S.a5, .bool S.a6, .int .i64 S.a7, .string S.a8] 25) := ⟨_, rfl⟩
  rw [← hU3]
  have h3b : Below w3.heap.size w3 U3 := by rw [hU3]; exact Joins.below_alloc1 w3 _
  have h3s : U3.heap.size = w3.heap.size + 1 := by rw [hU3]; simp
  have h3S : BN U3 w3.heap.size S := by rw [hU3]; exact heap_alloc_new w3 _
  have hz3 := HB3.out.size
  have hUU : Below U1.heap.size U1 U3 := (HB2.out.trans (Joins.below_le HB3.out hz2)).trans (Joins.below_le h3b (by omega))
  have h3Q := (hUU.block z1 (by omega)).trans K1Q.out
  have h3M := (hUU.block (x + 1) (by omega)).trans K1M.out
  have h3TS : TO U3 S (simT t) AA := HS.out.kept fun b hb => h3b.block b (HS.out.low b hb)
  have h3TQ : TI U3 U3.heap.size Q (simT t) := (K1TQ.out.kept fun b hb => hUU.block b (by omega)).le (by have := hUU.size; omega)
  have h3Al : ∀ b, AA b → w.heap.size ≤ b ∧ b < w3.heap.size := fun b hb => ⟨by have := HAA.out b hb; have := K1B.out.size; omega, HS.out.low b hb⟩
  obtain ⟨z3, hz3e⟩ : ∃ z, z = w3.heap.size := ⟨_, rfl⟩
  rw [← hz3e] at h3S h3s h3Al hz3 ⊢
  have HC := same13 h3TS.ti h3TQ
  have K3S := hid h3S
  have K3M := hid h3M
  have K3TS := hid h3TS
  have K3A := hid h3Al
  have K3B := hid (K1B.out.trans (Joins.below_le hUU K1B.out.size))
  have K3S' := hid h3s
  clear a0 a1 a2 a3 a4 a5 a6 a7 a8 hU3 h3b h3M h3TS h3TQ h3Al hz3e hUU HS HAA HB3 HB2 K1I K1M K1Q K1T K1TQ K1B K1S h1s
  obtain ⟨a0, a1, a2, a3, a4, a5, a6, a7, a8⟩ := nine' h3S
  obtain ⟨c0, c1, c2, c3, c4, c5, c6, c7, c8⟩ := nine' h3Q
  clear h3S h3Q h3s
  go_upto_region 5 with (first | (go_at_call 15; (with_reducible refine HC.mono ?_); rintro e w4 ⟨rfl, hb4⟩; have HB4 := hid hb4; clear hb4 HC))
  have hz4 := HB4.out.size
  have h3s := K3S'.out
  have h4S := (HB4.out.block z3 (by omega)).trans K3S.out
  have h4M := (HB4.out.block (x + 1) (lt_of_block K3M.out)).trans K3M.out
  have h4B : Below w.heap.size w w4 := K3B.out.trans (Joins.below_le HB4.out K3B.out.size)
  have h4TS : TO w4 S (simT t) AA := K3TS.out.kept fun b hb => HB4.out.block b (K3TS.out.low b hb)
  obtain ⟨v0, v1, RV, SV, ln, lm, XR, XS, hST, hK⟩ := HSS.out
  have h4ST : ST w4 lb n v0 v1 RV SV ln lm XR XS 1000000 := hST.kept fun p b hp hb => h4B.block b (hST.low p b hp hb)
  have hsi := sim_in t
  have HC := add17 h4TS w4 lb n v0 v1 RV SV ln lm XR XS (fun _ _ => rfl) h4ST (fun p b hp hb hA => by have := hST.low p b hp hb; have := K3A.out b hA; omega) (by omega) hsi.2
  have K4M := hid h4M
  have K4B := hid h4B
  have HSI := hid hsi
  have HKK := hid hK
  have HSTL := hid (fun p b hp hb => hST.low p b hp hb)
  clear a0 a1 a2 a3 a4 a5 a6 a7 a8 c0 c1 c2 c3 c4 c5 c6 c7 c8 h4M h4B h4TS hST h4ST hK hsi K3S K3M K3TS K3B HSS
  obtain ⟨a0, a1, a2, a3, a4, a5, a6, a7, a8⟩ := nine' h4S
  clear h4S
  obtain ⟨mm, hmm⟩ : ∃ mm, mm = (simT t).nodes := ⟨_, rfl⟩
  rw [← hmm] at HC
  have HMM := hid hmm
  clear hmm
  go_upto_region 6 with (first | (go_at_call 34; (with_reducible refine HC.mono ?_); rintro e w5 ⟨rfl, ⟨v0', v1', RV', SV', ln', lm', XR', XS', hST5, hk1, hk2, hk3⟩, hc5⟩; have HST5 := hid hST5; have HK1 := hid hk1; have HC5 := hid hc5; clear hST5 hk1 hk2 hk3 hc5 HC))
  have hin3 : ∀ b, (bkO lb v0 v1 RV SV .l = some b ∨ bkO lb v0 v1 RV SV .a = some b ∨ bkO lb v0 v1 RV SV .b = some b) → K b ∧ b < w.heap.size := fun b hb => by
    rcases hb with h | h | h
    · exact ⟨HKK.out .l b trivial h, HSTL.out .l b trivial h⟩
    · exact ⟨HKK.out .a b trivial h, HSTL.out .a b trivial h⟩
    · exact ⟨HKK.out .b b trivial h, HSTL.out .b b trivial h⟩
  have h5M : BN w5 (x + 1) M := (HC5.out.block (x + 1) (lt_of_block K4M.out) (fun h => by have := (hin3 _ h).2; have := HXE.out; omega)).trans K4M.out
  have hz5 := HC5.out.size
  have hw4 := K4B.out.size
  have h5T : TI w5 w5.heap.size M t := (HT.out.kept (fun b hb => (HC5.out.block b (by have := HLO.out b hb; omega) (fun h => HDI.out b (hin3 b h).1 hb)).trans (K4B.out.block b (HLO.out b hb))) (fun b hb => hb)).ti fun b hb => by have := HLO.out b hb; omega
  have HC := size35 h5T
  rw [← HZ.out] at HC
  have K5C : Hid (Chs K w w5) := (Chs.of_below (A := K) K4B.out).trans HC5.out (fun b h => h) (fun b h => (hin3 b h).1)
  have K5S : Hid (SS w5 lb (n + mm) (fun b => K b ∨ w.heap.size ≤ b)) := ⟨v0', v1', RV', SV', ln', lm', XR', XS', HST5.out, fun p b hp hb => by
    rcases HK1.out p b hp hb with ⟨q, hq, h⟩ | h | h
    · exact .inl (HKK.out q b hq h)
    · exact .inr (K3A.out b h).1
    · exact .inr (by omega)⟩
  clear a0 a1 a2 a3 a4 a5 a6 a7 a8 hin3 h5T HC5 HST5 HK1 HKK HSTL K4M K4B K3A
  obtain ⟨a0, a1, a2, a3, a4, a5, a6, a7, a8⟩ := nine' h5M
  clear h5M
  go_wp2_with (first | (go_at_call 35; (with_reducible refine HC.mono ?_); rintro e w6 ⟨rfl, hb6⟩; have HB6 := hid hb6; clear hb6 HC))
  all_goals go_ret
  all_goals
    refine ⟨?_, ⟨mm, by rw [HMM.out]; exact HSI.out.1, ?_⟩, K5C.out.trans (Chs.of_below (A := K) HB6.out) (fun b h => h) (fun b h => h)⟩
    · simp
    · obtain ⟨v0, v1, RV, SV, ln, lm, XR, XS, hST, hK⟩ := K5S.out
      exact ⟨v0, v1, RV, SV, ln, lm, XR, XS, hST.kept fun p b hp hb => HB6.out.block b (hST.low p b hp hb), hK⟩
end Go.Proofs.Ytdidopgenhpakaa
/- HELPERS: the law SimplifySays walked. -/
namespace Go.Proofs.Ytdidopgenhpakaa
open Go.RowKit
set_option linter.unusedVariables false
set_option linter.unusedSimpArgs false
abbrev No : Nat → Prop := fun _ => False
theorem bxc {A : Nat → Prop} {U U' : World} {b : Nat} {o : Obj} (hc : Chs A U U') (h : U.heap[b]? = some o) (hA : ¬ A b) : U'.heap[b]? = some o := (hc.block b (lt_of_block h) hA).trans h
theorem tic {A : Nat → Prop} {U U' : World} {B : Nat} {N : Nv} {t : Tn} (hc : Chs A U U') (h : TI U B N t) (hB : B ≤ U.heap.size) (hA : ∀ b, A b → B ≤ b) : TI U' B N t := h.kept fun b hb => hc.block b (by omega) (fun ha => by have := hA b ha; omega)
theorem toc {A A0 : Nat → Prop} {U U' : World} {N : Nv} {t : Tn} (hc : Chs A U U') (h : TO U N t A0) (hA : ∀ b, A0 b → ¬ A b) : TO U' N t A0 := h.kept fun b hb => hc.block b (h.low b hb) (hA b hb)
theorem tlc {A A0 : Nat → Prop} {U U' : World} {N : Nv} {t : Tn} (hc : Chs A U U') (h : TL U N t A0) (hA : ∀ b, A0 b → ¬ A b) : TL U' N t A0 := h.kept fun b hb => hc.block b (h.low b hb) (hA b hb)
theorem tpc {A A0 : Nat → Prop} {U U' : World} {N : Nv} {t : Tn} (hc : Chs A U U') (h : TP U A0 N t) (hl : ∀ b, A0 b → b < U.heap.size) (hA : ∀ b, A0 b → ¬ A b) : TP U' A0 N t := h.kept (fun b hb => hc.block b (hl b hb) (hA b hb)) (fun b hb => hb)
theorem blc {A : Nat → Prop} {x : Nat} {w U U' : World} (hc : Chs A U U') (h : Below x w U) (hx : x ≤ U.heap.size) (hA : ∀ b, A b → x ≤ b) : Below x w U' := ⟨hc.os.trans h.os, hc.tape.trans h.tape, hc.output.trans h.output, Nat.le_trans h.size hc.size, fun b hb => (hc.block b (by omega) (fun ha => by have := hA b ha; omega)).trans (h.block b hb)⟩
theorem TL.ti {w : World} {N : Nv} {t : Tn} {A : Nat → Prop} (h : TL w N t A) : TI w w.heap.size N t := by
  induction h with
  | @mk N R ts ND AS ok hRk e1 e2 rr sr hk d1 d2 d3 ih =>
    refine .mk (ND := ND) ok e1 (fun hn => ?_) hRk e2 (fun hp => ?_) ih
    · rcases rr.2 with ⟨_, h0⟩ | ⟨b, cap, cur, e, _⟩
      · simp at h0
      · simp only [Value.slice.injEq] at e
        have hbl := (rr.lt b (by rw [e.1]; rfl)).2
        rw [e.1] at rr
        refine ⟨b, 0, e.1, hbl, fun i hi => ?_⟩
        have hl : i < (R ++ M2).length := by simp; omega
        obtain ⟨r0, r1⟩ := O2_at (R ++ M2) i hl
        rw [List.getElem_append_left hi] at r0 r1
        rw [Nat.zero_add]
        exact ⟨(rr.cellAt (i * 2) (by omega)).trans r0, (rr.cellAt (i * 2 + 1) (by omega)).trans r1⟩
    · rcases sr.2 with ⟨_, h0⟩ | ⟨b, cap, cur, e, _⟩
      · simp at h0
      · simp only [Value.slice.injEq] at e
        have hbl := (sr.lt b (by rw [e.1]; rfl)).2
        rw [e.1] at sr
        refine ⟨b, 0, e.1, hbl, fun i hi => ?_⟩
        have hl : i < ((List.range ts.length).map ND ++ [mk7 (-77), mk7 (-78)]).length := by simp; omega
        have hg : ((List.range ts.length).map ND ++ [mk7 (-77), mk7 (-78)])[i] = ND i := by
          rw [List.getElem_append_left (by simpa using hi)]
          simp
        have f : ∀ k, k < 9 → w.cell? ⟨b, i * 9 + k, none⟩ = (Nv.cs (ND i))[k]? := fun k hk' => by
          rw [sr.cellAt (i * 9 + k) (by omega), flat9 _ i k hl hk', hg]
        have f0 := f 0 (by omega)
        rw [Nat.add_zero] at f0
        unfold N9
        rw [Nat.zero_add]
        exact ⟨f0, f 1 (by omega), f 2 (by omega), f 3 (by omega), f 4 (by omega), f 5 (by omega), f 6 (by omega), f 7 (by omega), f 8 (by omega)⟩
theorem st_nil {w : World} {lb : Nat} (h : w.heap[lb]? = some (.cells #[.slice none 0 0, .slice none 0 0] 36 (0, 0))) : ST w lb 0 (.slice none 0 0) (.slice none 0 0) (fun _ => .slice none 0 0) (fun _ => .slice none 0 0) (fun _ => 0) (fun _ => 0) (fun _ => []) (fun _ => []) 1000000 := by
  refine ⟨h, ⟨rfl, .inl ⟨rfl, rfl⟩⟩, ⟨rfl, .inl ⟨rfl, rfl⟩⟩, fun i hi => absurd hi (by simp), fun i hi => absurd hi (by simp), fun p q b hp hq h1 h2 => ?_, fun i hi => absurd hi (by simp)⟩
  have f : ∀ p : Ky, p.ok 0 → bkO lb (.slice none 0 0) (.slice none 0 0) (fun _ => .slice none 0 0) (fun _ => .slice none 0 0) p = some b → p = .l := by
    intro p hp h
    cases p with
    | l => rfl
    | a => cases h
    | b => cases h
    | r i => exact absurd hp (by simp [Ky.ok])
    | s i => exact absurd hp (by simp [Ky.ok])
  rw [f p hp h1, f q hq h2]
set_option maxRecDepth 100000 in
set_option maxHeartbeats 32000000 in
theorem says3_huge {w : World} {N N2 : Nv} {t u : Tn} (h : TI w w.heap.size N t) (h2 : TI w w.heap.size N2 u) (hsm : t.small = true) (hsm2 : u.small = true) (hd : t.nodes ≤ 200000) (hd2 : u.nodes ≤ 4194304) (hu : 200000 < u.nodes) : Calls Try.prog 3 #[N.v, N2.v] w fun e w' => e = .returned (.bool true) ∧ Below w.heap.size w w' := by
  go_enter Try.func3, Try.ntmps3
  go_upto_region 1 with fail
  obtain ⟨U0, hU⟩ : ∃ U, U = (w.alloc (.cells #[.int .i64 N.k, .slice N.r1 N.r2 N.r3, .int .i64 N.a2, .slice N.s1 N.s2 N.s3, .int .i64 N.a4, .int .i64 N.a5, .bool N.a6, .int .i64 N.a7, .string N.a8] 25)).alloc (.cells #[.int .i64 N2.k, .slice N2.r1 N2.r2 N2.r3, .int .i64 N2.a2, .slice N2.s1 N2.s2 N2.s3, .int .i64 N2.a4, .int .i64 N2.a5, .bool N2.a6, .int .i64 N2.a7, .string N2.a8] 25) := ⟨_, rfl⟩
  rw [← hU]
  have HB0 : Hid (Below w.heap.size w U0) := by rw [hU]; exact below_two' w _ _
  have HXx0 : Hid (BxN U0 w.heap.size N) := by rw [hU]; exact (heap_alloc_old _ _ (by simp)).trans (heap_alloc_new w _)
  have HXy0 : Hid (BxN U0 (w.heap.size + 1) N2) := by rw [hU]; exact two_new w _ _ _
  have HTx0 : Hid (TI U0 w.heap.size N t) := h.kept (fun b hb => HB0.out.block b hb)
  have HTy0 : Hid (TI U0 w.heap.size N2 u) := h2.kept (fun b hb => HB0.out.block b hb)
  clear hU h h2
  obtain ⟨y, hy⟩ : ∃ y, y = w.heap.size + 1 := ⟨_, rfl⟩
  rw [← hy] at HXy0 ⊢
  obtain ⟨x, hx⟩ : ∃ x, x = w.heap.size := ⟨_, rfl⟩
  rw [← hx] at HB0 HXx0 HTx0 HTy0 hy ⊢
  have HXE := hid hx
  have hxy : x < y := by omega
  clear hx hy
  have hsz0 : y < U0.heap.size := lt_of_block HXy0.out
  have HC := deep10 (HTx0.out.le (by omega))
  rw [decide_eq_false (by omega)] at HC
  obtain ⟨ao0, ao1, ao2, ao3, ao4, ao5, ao6, ao7, ao8⟩ := nine' HXx0.out
  go_upto_region 2 with (go_at_call 7; (with_reducible refine HC.mono ?_); rintro e U1 ⟨rfl, hb⟩; have HBS := hid (Chs.of_below (A := No) hb); clear hb HC)
  clear ao0 ao1 ao2 ao3 ao4 ao5 ao6 ao7 ao8
  have HXx1 : Hid (BxN U1 x N) := bxc HBS.out HXx0.out (fun h => h)
  have HXy1 : Hid (BxN U1 y N2) := bxc HBS.out HXy0.out (fun h => h)
  have HTx1 : Hid (TI U1 x N t) := tic HBS.out HTx0.out (by omega) (fun _ h => h.elim)
  have HTy1 : Hid (TI U1 x N2 u) := tic HBS.out HTy0.out (by omega) (fun _ h => h.elim)
  have HB1 : Hid (Below x w U1) := blc HBS.out HB0.out (by omega) (fun b h => by exact h.elim)
  have hsz1 : y < U1.heap.size := Nat.lt_of_lt_of_le hsz0 HBS.out.size
  clear HB0 hsz0 HBS HXx0 HXy0 HTx0 HTy0
  have HC := deep10 (HTy1.out.le (by omega))
  rw [decide_eq_false (by omega)] at HC
  obtain ⟨ao0, ao1, ao2, ao3, ao4, ao5, ao6, ao7, ao8⟩ := nine' HXy1.out
  go_upto_region 5 with (go_at_call 7; (with_reducible refine HC.mono ?_); rintro e U2 ⟨rfl, hb⟩; have HBS := hid (Chs.of_below (A := No) hb); clear hb HC)
  clear ao0 ao1 ao2 ao3 ao4 ao5 ao6 ao7 ao8
  have HXx2 : Hid (BxN U2 x N) := bxc HBS.out HXx1.out (fun h => h)
  have HXy2 : Hid (BxN U2 y N2) := bxc HBS.out HXy1.out (fun h => h)
  have HTx2 : Hid (TI U2 x N t) := tic HBS.out HTx1.out (by omega) (fun _ h => h.elim)
  have HTy2 : Hid (TI U2 x N2 u) := tic HBS.out HTy1.out (by omega) (fun _ h => h.elim)
  have HB2 : Hid (Below x w U2) := blc HBS.out HB1.out (by omega) (fun b h => by exact h.elim)
  have hsz2 : y < U2.heap.size := Nat.lt_of_lt_of_le hsz1 HBS.out.size
  clear HB1 hsz1 HBS HXx1 HXy1 HTx1 HTy1
  have HC := heavy8 (HTx2.out.le (by omega)) hsm
  obtain ⟨ao0, ao1, ao2, ao3, ao4, ao5, ao6, ao7, ao8⟩ := nine' HXx2.out
  go_upto_region 6 with (go_at_call 8; (with_reducible refine HC.mono ?_); rintro e U3 ⟨h1, rfl, hb⟩; have HBS := hid (Chs.of_below (A := No) hb); clear hb HC)
  clear ao0 ao1 ao2 ao3 ao4 ao5 ao6 ao7 ao8
  have HXx3 : Hid (BxN U3 x N) := bxc HBS.out HXx2.out (fun h => h)
  have HXy3 : Hid (BxN U3 y N2) := bxc HBS.out HXy2.out (fun h => h)
  have HTx3 : Hid (TI U3 x N t) := tic HBS.out HTx2.out (by omega) (fun _ h => h.elim)
  have HTy3 : Hid (TI U3 x N2 u) := tic HBS.out HTy2.out (by omega) (fun _ h => h.elim)
  have HB3 : Hid (Below x w U3) := blc HBS.out HB2.out (by omega) (fun b h => by exact h.elim)
  have hsz3 : y < U3.heap.size := Nat.lt_of_lt_of_le hsz2 HBS.out.size
  clear HB2 hsz2 HBS HXx2 HXy2 HTx2 HTy2
  have HC := heavy8 (HTy3.out.le (by omega)) hsm2
  obtain ⟨ao0, ao1, ao2, ao3, ao4, ao5, ao6, ao7, ao8⟩ := nine' HXy3.out
  go_upto_region 7 with (go_at_call 8; (with_reducible refine HC.mono ?_); rintro e U4 ⟨h2, rfl, hb⟩; have HBS := hid (Chs.of_below (A := No) hb); clear hb HC)
  clear ao0 ao1 ao2 ao3 ao4 ao5 ao6 ao7 ao8
  have HXx4 : Hid (BxN U4 x N) := bxc HBS.out HXx3.out (fun h => h)
  have HXy4 : Hid (BxN U4 y N2) := bxc HBS.out HXy3.out (fun h => h)
  have HTx4 : Hid (TI U4 x N t) := tic HBS.out HTx3.out (by omega) (fun _ h => h.elim)
  have HTy4 : Hid (TI U4 x N2 u) := tic HBS.out HTy3.out (by omega) (fun _ h => h.elim)
  have HB4 : Hid (Below x w U4) := blc HBS.out HB3.out (by omega) (fun b h => by exact h.elim)
  have hsz4 : y < U4.heap.size := Nat.lt_of_lt_of_le hsz3 HBS.out.size
  clear HB3 hsz3 HBS HXx3 HXy3 HTx3 HTy3
  by_cases hh : h1 = true ∨ h2 = true
  · have hor : (if h1 = true then true else h2) = true := by rcases hh with h | h <;> simp [h]
    cases h1 <;> cases h2 <;> simp at hh
    all_goals
      go_wp2
      go_ret
      refine ⟨rfl, ?_⟩
      rw [← HXE.out]
      exact HB4.out
  obtain ⟨rfl, rfl⟩ : h1 = false ∧ h2 = false := by cases h1 <;> cases h2 <;> simp at hh ⊢
  clear hh
  go_upto_region 9 with fail
  have HC := awake9 U4
  go_upto_region 10 with (go_at_call 9; (with_reducible refine HC.mono ?_); rintro e U5 ⟨rfl, hb⟩; have HBS := hid (Chs.of_below (A := No) hb); clear hb HC)
  have HXx5 : Hid (BxN U5 x N) := bxc HBS.out HXx4.out (fun h => h)
  have HXy5 : Hid (BxN U5 y N2) := bxc HBS.out HXy4.out (fun h => h)
  have HTx5 : Hid (TI U5 x N t) := tic HBS.out HTx4.out (by omega) (fun _ h => h.elim)
  have HTy5 : Hid (TI U5 x N2 u) := tic HBS.out HTy4.out (by omega) (fun _ h => h.elim)
  have HB5 : Hid (Below x w U5) := blc HBS.out HB4.out (by omega) (fun b h => by exact h.elim)
  have hsz5 : y < U5.heap.size := Nat.lt_of_lt_of_le hsz4 HBS.out.size
  clear HB4 hsz4 HBS HXx4 HXy4 HTx4 HTy4
  have HC := great14 (HTx5.out.le (by omega))
  rw [decide_eq_false (by omega)] at HC
  obtain ⟨ao0, ao1, ao2, ao3, ao4, ao5, ao6, ao7, ao8⟩ := nine' HXx5.out
  go_upto_region 15 with (go_at_call 10; (with_reducible refine HC.mono ?_); rintro e U6 ⟨rfl, hb⟩; have HBS := hid (Chs.of_below (A := No) hb); clear hb HC)
  clear ao0 ao1 ao2 ao3 ao4 ao5 ao6 ao7 ao8
  have HXx6 : Hid (BxN U6 x N) := bxc HBS.out HXx5.out (fun h => h)
  have HXy6 : Hid (BxN U6 y N2) := bxc HBS.out HXy5.out (fun h => h)
  have HTx6 : Hid (TI U6 x N t) := tic HBS.out HTx5.out (by omega) (fun _ h => h.elim)
  have HTy6 : Hid (TI U6 x N2 u) := tic HBS.out HTy5.out (by omega) (fun _ h => h.elim)
  have HB6 : Hid (Below x w U6) := blc HBS.out HB5.out (by omega) (fun b h => by exact h.elim)
  have hsz6 : y < U6.heap.size := Nat.lt_of_lt_of_le hsz5 HBS.out.size
  clear HB5 hsz5 HBS HXx5 HXy5 HTx5 HTy5
  go_upto_region 16 with fail
  obtain ⟨U7, hU⟩ : ∃ U, U = U6.alloc (.cells #[.slice none 0 0, .slice none 0 0] 36) := ⟨_, rfl⟩
  rw [← hU]
  have HBS : Hid (Chs No U6 U7) := by rw [hU]; exact Chs.of_below (Joins.below_alloc1 _ _)
  have HL0 : Hid (U7.heap[U6.heap.size]? = some (.cells #[.slice none 0 0, .slice none 0 0] 36 (0, 0))) := by rw [hU]; exact heap_alloc_new _ _
  clear hU
  obtain ⟨zl, hz⟩ : ∃ z, z = U6.heap.size := ⟨_, rfl⟩
  rw [← hz] at HL0 ⊢
  have hlol : y < zl := by omega
  clear hz
  have HXx7 : Hid (BxN U7 x N) := bxc HBS.out HXx6.out (fun h => h)
  have HXy7 : Hid (BxN U7 y N2) := bxc HBS.out HXy6.out (fun h => h)
  have HTx7 : Hid (TI U7 x N t) := tic HBS.out HTx6.out (by omega) (fun _ h => h.elim)
  have HTy7 : Hid (TI U7 x N2 u) := tic HBS.out HTy6.out (by omega) (fun _ h => h.elim)
  have HB7 : Hid (Below x w U7) := blc HBS.out HB6.out (by omega) (fun b h => by exact h.elim)
  have hsz7 : y < U7.heap.size := Nat.lt_of_lt_of_le hsz6 HBS.out.size
  clear HB6 hsz6 HBS HXx6 HXy6 HTx6 HTy6
  clear hsz7
  have hsz7 : zl < U7.heap.size := lt_of_block HL0.out
  have HSS7 : Hid (SS U7 zl 0 (fun b => b = zl)) := ⟨_, _, _, _, _, _, _, _, st_nil HL0.out, fun p b hp h => by
    cases p with
    | l => cases h; rfl
    | a => cases h
    | b => cases h
    | r i => exact absurd hp (by simp [Ky.ok])
    | s i => exact absurd hp (by simp [Ky.ok])⟩
  clear HL0
  have HC := lent12 HTx7.out hd hsm U7 (by omega) (fun _ _ => rfl)
  obtain ⟨ao0, ao1, ao2, ao3, ao4, ao5, ao6, ao7, ao8⟩ := nine' HXx7.out
  go_upto_region 17 with (go_at_call 13; (with_reducible refine HC.mono ?_); rintro e Wi ⟨Mi, Ai, rfl, hM, hA, hb⟩; have HMM := hid hM; have HAA := hid hA; have HBW := hid hb; clear hM hb HC)
  clear ao0 ao1 ao2 ao3 ao4 ao5 ao6 ao7 ao8 hA
  obtain ⟨U8, hU⟩ : ∃ U, U = Wi.alloc (.cells #[.int .i64 Mi.k, .slice Mi.r1 Mi.r2 Mi.r3, .int .i64 Mi.a2, .slice Mi.s1 Mi.s2 Mi.s3, .int .i64 Mi.a4, .int .i64 Mi.a5, .bool Mi.a6, .int .i64 Mi.a7, .string Mi.a8] 25) := ⟨_, rfl⟩
  rw [← hU]
  have HBS : Hid (Chs No U7 U8) := by rw [hU]; exact Chs.of_below (HBW.out.alloc HBW.out.size _)
  have HXi8 : Hid (BxN U8 Wi.heap.size Mi) := by rw [hU]; exact heap_alloc_new Wi _
  have HTi8 : Hid (TL U8 Mi t Ai) := by rw [hU]; exact HMM.out.kept (fun b hb => heap_alloc_old _ _ (HMM.out.low b hb))
  have HAi : Hid (∀ b, Ai b → zl < b ∧ b < Wi.heap.size) := fun b hb => ⟨by have := HAA.out b hb; omega, HMM.out.low b hb⟩
  have hloi : zl < Wi.heap.size := Nat.lt_of_lt_of_le hsz7 HBW.out.size
  have hlti : Wi.heap.size < U8.heap.size := lt_of_block HXi8.out
  clear hU HMM HBW HAA
  obtain ⟨zi, hz⟩ : ∃ z, z = Wi.heap.size := ⟨_, rfl⟩
  rw [← hz] at HXi8 hloi hlti HAi ⊢
  clear hz
  have HXx8 : Hid (BxN U8 x N) := bxc HBS.out HXx7.out (fun h => h)
  have HXy8 : Hid (BxN U8 y N2) := bxc HBS.out HXy7.out (fun h => h)
  have HTx8 : Hid (TI U8 x N t) := tic HBS.out HTx7.out (by omega) (fun _ h => h.elim)
  have HTy8 : Hid (TI U8 x N2 u) := tic HBS.out HTy7.out (by omega) (fun _ h => h.elim)
  have HSS8 : Hid (SS U8 zl 0 (fun b => b = zl)) := HSS7.out.chs HBS.out (fun _ _ h => h)
  have HB8 : Hid (Below x w U8) := blc HBS.out HB7.out (by omega) (fun b h => by exact h.elim)
  have hsz8 : zl < U8.heap.size := Nat.lt_of_lt_of_le hsz7 HBS.out.size
  clear HB7 hsz7 HBS HXx7 HXy7 HTx7 HTy7 HSS7
  clear hsz8
  have hsz8 : zi < U8.heap.size := hlti
  clear hlti
  have HSSn : Hid (SS U8 zl 0 (fun b => b = zl ∨ zi < b)) := HSS8.out.mono (fun b h _ => .inl h)
  clear HSS8
  have HSS8 := HSSn
  clear HSSn
  have HC := says14 (K := fun b => b = zl ∨ zi < b) (AT := fun b => b < x) (HTi8.out).ti HTx8.out.tp (fun b hb => by omega) HSS8.out (fun b h hb => by first | omega | (rcases h with h1 | h1 <;> omega)) (by omega)
  obtain ⟨ao0, ao1, ao2, ao3, ao4, ao5, ao6, ao7, ao8⟩ := nine' HXi8.out
  obtain ⟨bo0, bo1, bo2, bo3, bo4, bo5, bo6, bo7, bo8⟩ := nine' HXx8.out
  go_upto_region 18 with (go_at_call 14; (with_reducible refine HC.mono ?_); rintro e U9 ⟨rfl, ⟨m, hm, hS⟩, hb⟩; have HSN := hid hS; have HMB := hid hm; have HBS := hid hb; clear hS hm hb HC)
  clear ao0 ao1 ao2 ao3 ao4 ao5 ao6 ao7 ao8 bo0 bo1 bo2 bo3 bo4 bo5 bo6 bo7 bo8
  have hm := HMB.out
  obtain ⟨n1, hne⟩ : ∃ k, k = 0 + m := ⟨_, rfl⟩
  rw [← hne] at HSN
  have hbn1 : n1 ≤ 0 + 200000 := by omega
  have HSS9 : Hid (SS U9 zl n1 (fun b => b = zl ∨ zi < b)) := HSN.out.mono (fun b h _ => by rcases h with h | h; exact h; exact .inr (by omega))
  clear HSN HMB hm hne HSS8
  have HXx9 : Hid (BxN U9 x N) := bxc HBS.out HXx8.out (fun h => by rcases h with h9 | h9 <;> omega)
  have HXy9 : Hid (BxN U9 y N2) := bxc HBS.out HXy8.out (fun h => by rcases h with h9 | h9 <;> omega)
  have HTx9 : Hid (TI U9 x N t) := tic HBS.out HTx8.out (by omega) (fun b h => by rcases h with h9 | h9 <;> omega)
  have HTy9 : Hid (TI U9 x N2 u) := tic HBS.out HTy8.out (by omega) (fun b h => by rcases h with h9 | h9 <;> omega)
  have HXi9 : Hid (BxN U9 zi Mi) := bxc HBS.out HXi8.out (fun h => by rcases h with h9 | h9 <;> omega)
  have HTi9 : Hid (TL U9 Mi t Ai) := tlc HBS.out HTi8.out (fun b h0 h => by have g0 := HAi.out b h0; rcases h with h9 | h9 <;> omega)
  have HB9 : Hid (Below x w U9) := blc HBS.out HB8.out (by omega) (fun b h => by rcases h with h9 | h9 <;> omega)
  have hsz9 : zi < U9.heap.size := Nat.lt_of_lt_of_le hsz8 HBS.out.size
  clear HB8 hsz8 HBS HXx8 HXy8 HTx8 HTy8 HXi8 HTi8
  have HC := great14 (HTy9.out.le (by omega))
  rw [decide_eq_true (by omega)] at HC
  obtain ⟨ao0, ao1, ao2, ao3, ao4, ao5, ao6, ao7, ao8⟩ := nine' HXy9.out
  go_upto_region 22 with (go_at_call 10; (with_reducible refine HC.mono ?_); rintro e U10 ⟨rfl, hb⟩; have HBS := hid (Chs.of_below (A := No) hb); clear hb HC)
  clear ao0 ao1 ao2 ao3 ao4 ao5 ao6 ao7 ao8
  have HXx10 : Hid (BxN U10 x N) := bxc HBS.out HXx9.out (fun h => h)
  have HXy10 : Hid (BxN U10 y N2) := bxc HBS.out HXy9.out (fun h => h)
  have HTx10 : Hid (TI U10 x N t) := tic HBS.out HTx9.out (by omega) (fun _ h => h.elim)
  have HTy10 : Hid (TI U10 x N2 u) := tic HBS.out HTy9.out (by omega) (fun _ h => h.elim)
  have HXi10 : Hid (BxN U10 zi Mi) := bxc HBS.out HXi9.out (fun h => h)
  have HTi10 : Hid (TL U10 Mi t Ai) := tlc HBS.out HTi9.out (fun _ _ h => h)
  have HSS10 : Hid (SS U10 zl n1 (fun b => b = zl ∨ zi < b)) := HSS9.out.chs HBS.out (fun _ _ h => h)
  have HB10 : Hid (Below x w U10) := blc HBS.out HB9.out (by omega) (fun b h => by exact h.elim)
  have hsz10 : zi < U10.heap.size := Nat.lt_of_lt_of_le hsz9 HBS.out.size
  clear HB9 hsz9 HBS HXx9 HXy9 HTx9 HTy9 HXi9 HTi9 HSS9
  have HC := says14 (K := fun b => b = zl ∨ zi < b) (AT := fun b => b < x) (HTi10.out).ti HTx10.out.tp (fun b hb => by omega) HSS10.out (fun b h hb => by first | omega | (rcases h with h1 | h1 <;> omega)) (by omega)
  obtain ⟨ao0, ao1, ao2, ao3, ao4, ao5, ao6, ao7, ao8⟩ := nine' HXi10.out
  obtain ⟨bo0, bo1, bo2, bo3, bo4, bo5, bo6, bo7, bo8⟩ := nine' HXx10.out
  go_upto_region 23 with (go_at_call 14; (with_reducible refine HC.mono ?_); rintro e U11 ⟨rfl, ⟨m, hm, hS⟩, hb⟩; have HSN := hid hS; have HMB := hid hm; have HBS := hid hb; clear hS hm hb HC)
  clear ao0 ao1 ao2 ao3 ao4 ao5 ao6 ao7 ao8 bo0 bo1 bo2 bo3 bo4 bo5 bo6 bo7 bo8
  have hm := HMB.out
  obtain ⟨n3, hne⟩ : ∃ k, k = n1 + m := ⟨_, rfl⟩
  rw [← hne] at HSN
  have hbn3 : n3 ≤ n1 + 200000 := by omega
  have HSS11 : Hid (SS U11 zl n3 (fun b => b = zl ∨ zi < b)) := HSN.out.mono (fun b h _ => by rcases h with h | h; exact h; exact .inr (by omega))
  clear HSN HMB hm hne HSS10
  have HXx11 : Hid (BxN U11 x N) := bxc HBS.out HXx10.out (fun h => by rcases h with h9 | h9 <;> omega)
  have HXy11 : Hid (BxN U11 y N2) := bxc HBS.out HXy10.out (fun h => by rcases h with h9 | h9 <;> omega)
  have HTx11 : Hid (TI U11 x N t) := tic HBS.out HTx10.out (by omega) (fun b h => by rcases h with h9 | h9 <;> omega)
  have HTy11 : Hid (TI U11 x N2 u) := tic HBS.out HTy10.out (by omega) (fun b h => by rcases h with h9 | h9 <;> omega)
  have HXi11 : Hid (BxN U11 zi Mi) := bxc HBS.out HXi10.out (fun h => by rcases h with h9 | h9 <;> omega)
  have HTi11 : Hid (TL U11 Mi t Ai) := tlc HBS.out HTi10.out (fun b h0 h => by have g0 := HAi.out b h0; rcases h with h9 | h9 <;> omega)
  have HB11 : Hid (Below x w U11) := blc HBS.out HB10.out (by omega) (fun b h => by rcases h with h9 | h9 <;> omega)
  have hsz11 : zi < U11.heap.size := Nat.lt_of_lt_of_le hsz10 HBS.out.size
  clear HB10 hsz10 HBS HXx10 HXy10 HTx10 HTy10 HXi10 HTi10
  have HC := same13 (HTi11.out).ti (HTx11.out.le (by omega))
  obtain ⟨ao0, ao1, ao2, ao3, ao4, ao5, ao6, ao7, ao8⟩ := nine' HXi11.out
  obtain ⟨bo0, bo1, bo2, bo3, bo4, bo5, bo6, bo7, bo8⟩ := nine' HXx11.out
  go_upto_region 24 with (go_at_call 15; (with_reducible refine HC.mono ?_); rintro e U12 ⟨rfl, hb⟩; have HBS := hid (Chs.of_below (A := No) hb); clear hb HC)
  clear ao0 ao1 ao2 ao3 ao4 ao5 ao6 ao7 ao8 bo0 bo1 bo2 bo3 bo4 bo5 bo6 bo7 bo8
  have HXx12 : Hid (BxN U12 x N) := bxc HBS.out HXx11.out (fun h => h)
  have HXy12 : Hid (BxN U12 y N2) := bxc HBS.out HXy11.out (fun h => h)
  have HTx12 : Hid (TI U12 x N t) := tic HBS.out HTx11.out (by omega) (fun _ h => h.elim)
  have HTy12 : Hid (TI U12 x N2 u) := tic HBS.out HTy11.out (by omega) (fun _ h => h.elim)
  have HXi12 : Hid (BxN U12 zi Mi) := bxc HBS.out HXi11.out (fun h => h)
  have HTi12 : Hid (TL U12 Mi t Ai) := tlc HBS.out HTi11.out (fun _ _ h => h)
  have HSS12 : Hid (SS U12 zl n3 (fun b => b = zl ∨ zi < b)) := HSS11.out.chs HBS.out (fun _ _ h => h)
  have HB12 : Hid (Below x w U12) := blc HBS.out HB11.out (by omega) (fun b h => by exact h.elim)
  have hsz12 : zi < U12.heap.size := Nat.lt_of_lt_of_le hsz11 HBS.out.size
  clear HB11 hsz11 HBS HXx11 HXy11 HTx11 HTy11 HXi11 HTi11 HSS11
  have HC := kept14 HTi12.out U12 (fun _ _ => rfl)
  obtain ⟨ao0, ao1, ao2, ao3, ao4, ao5, ao6, ao7, ao8⟩ := nine' HXi12.out
  go_upto_region 27 with (go_at_call 16; (with_reducible refine HC.mono ?_); rintro e U13 ⟨rfl, hb⟩; have HBS := hid (Chs.of_below (A := No) hb); clear hb HC)
  clear ao0 ao1 ao2 ao3 ao4 ao5 ao6 ao7 ao8
  have HXx13 : Hid (BxN U13 x N) := bxc HBS.out HXx12.out (fun h => h)
  have HXy13 : Hid (BxN U13 y N2) := bxc HBS.out HXy12.out (fun h => h)
  have HTx13 : Hid (TI U13 x N t) := tic HBS.out HTx12.out (by omega) (fun _ h => h.elim)
  have HTy13 : Hid (TI U13 x N2 u) := tic HBS.out HTy12.out (by omega) (fun _ h => h.elim)
  have HXi13 : Hid (BxN U13 zi Mi) := bxc HBS.out HXi12.out (fun h => h)
  have HTi13 : Hid (TL U13 Mi t Ai) := tlc HBS.out HTi12.out (fun _ _ h => h)
  have HSS13 : Hid (SS U13 zl n3 (fun b => b = zl ∨ zi < b)) := HSS12.out.chs HBS.out (fun _ _ h => h)
  have HB13 : Hid (Below x w U13) := blc HBS.out HB12.out (by omega) (fun b h => by exact h.elim)
  have hsz13 : zi < U13.heap.size := Nat.lt_of_lt_of_le hsz12 HBS.out.size
  clear HB12 hsz12 HBS HXx12 HXy12 HTx12 HTy12 HXi12 HTi12 HSS12
  have HC := turned15 HTi13.out hd hsm U13 (fun _ _ => rfl)
  obtain ⟨ao0, ao1, ao2, ao3, ao4, ao5, ao6, ao7, ao8⟩ := nine' HXi13.out
  go_upto_region 28 with (go_at_call 17; (with_reducible refine HC.mono ?_); rintro e U14 ⟨rfl, ⟨t', hM, hno', hsm'⟩, hb⟩; have HMM := hid hM; have HBS := hid hb; clear hM hb HC)
  clear ao0 ao1 ao2 ao3 ao4 ao5 ao6 ao7 ao8
  have HXi14 : Hid (BxN U14 zi Mi) := bxc HBS.out HXi13.out (fun h => by have g := HAi.out _ h; omega)
  have HSS14 : Hid (SS U14 zl n3 (fun b => b = zl ∨ zi < b)) := HSS13.out.chs HBS.out (fun b h0 h => by have g0 := HAi.out b h; rcases h0 with h1 | h1 <;> omega)
  have HB14 : Hid (Below x w U14) := blc HBS.out HB13.out (by omega) (fun b h => by have g := HAi.out _ h; omega)
  have hsz14 : zi < U14.heap.size := Nat.lt_of_lt_of_le hsz13 HBS.out.size
  clear HB13 hsz13 HBS HXx13 HXy13 HTx13 HTy13 HXi13 HTi13 HSS13
  have HTi14 : Hid (TL U14 Mi t' Ai) := HMM.out
  clear HMM
  have hd' : t'.nodes ≤ 200000 := by omega
  obtain ⟨zc, hzc⟩ : ∃ z, z + 1 = U14.heap.size := ⟨U14.heap.size - 1, by omega⟩
  have HSSn : Hid (SS U14 zl n3 (fun b => (b = zl ∨ zi < b) ∧ b ≤ zc)) := HSS14.out.mono (fun b h hl => ⟨h, by omega⟩)
  clear HSS14
  have HSS14 := HSSn
  have hzic : zi ≤ zc := by omega
  clear HSSn hsz14
  have hsz14 : zc < U14.heap.size := by omega
  clear hzc
  have HC := copy16 (HTi14.out).ti hd' hsm' U14 (Nat.le_refl _) (fun _ _ => rfl)
  obtain ⟨ao0, ao1, ao2, ao3, ao4, ao5, ao6, ao7, ao8⟩ := nine' HXi14.out
  go_upto_region 29 with (go_at_call 18; (with_reducible refine HC.mono ?_); rintro e Wt ⟨Mt, rfl, hM, hb⟩; have HMM := hid hM; have HBW := hid hb; clear hM hb HC)
  clear ao0 ao1 ao2 ao3 ao4 ao5 ao6 ao7 ao8
  obtain ⟨U15, hU⟩ : ∃ U, U = Wt.alloc (.cells #[.int .i64 Mt.k, .slice Mt.r1 Mt.r2 Mt.r3, .int .i64 Mt.a2, .slice Mt.s1 Mt.s2 Mt.s3, .int .i64 Mt.a4, .int .i64 Mt.a5, .bool Mt.a6, .int .i64 Mt.a7, .string Mt.a8] 25) := ⟨_, rfl⟩
  rw [← hU]
  have HBS : Hid (Chs No U14 U15) := by rw [hU]; exact Chs.of_below (HBW.out.alloc HBW.out.size _)
  have HXt15 : Hid (BxN U15 Wt.heap.size Mt) := by rw [hU]; exact heap_alloc_new Wt _
  have HTt15 : Hid (TP U15 (fun b => zc < b ∧ b < Wt.heap.size) Mt t') := by rw [hU]; exact HMM.out.kept (fun b hb => heap_alloc_old _ _ hb.2) (fun b hb => ⟨by omega, hb.2⟩)
  have hlot : zc < Wt.heap.size := Nat.lt_of_lt_of_le hsz14 HBW.out.size
  have hltt : Wt.heap.size < U15.heap.size := lt_of_block HXt15.out
  clear hU HMM HBW
  obtain ⟨zt, hz⟩ : ∃ z, z = Wt.heap.size := ⟨_, rfl⟩
  rw [← hz] at HXt15 hlot hltt HTt15 ⊢
  clear hz
  have HXi15 : Hid (BxN U15 zi Mi) := bxc HBS.out HXi14.out (fun h => h)
  have HTi15 : Hid (TL U15 Mi t' Ai) := tlc HBS.out HTi14.out (fun _ _ h => h)
  have HSS15 : Hid (SS U15 zl n3 (fun b => (b = zl ∨ zi < b) ∧ b ≤ zc)) := HSS14.out.chs HBS.out (fun _ _ h => h)
  have HB15 : Hid (Below x w U15) := blc HBS.out HB14.out (by omega) (fun b h => by exact h.elim)
  have hsz15 : zc < U15.heap.size := Nat.lt_of_lt_of_le hsz14 HBS.out.size
  clear HB14 hsz14 HBS HXi14 HTi14 HSS14
  clear hsz15
  have hsz15 : zt < U15.heap.size := hltt
  clear hltt
  have HC := says14 (K := fun b => (b = zl ∨ zi < b) ∧ b ≤ zc) (AT := fun b => zc < b ∧ b < zt) (HTi15.out).ti HTt15.out (fun b hb => by omega) HSS15.out (fun b h hb => by first | omega | (rcases h with h1 | h1 <;> omega)) (by omega)
  obtain ⟨ao0, ao1, ao2, ao3, ao4, ao5, ao6, ao7, ao8⟩ := nine' HXi15.out
  obtain ⟨bo0, bo1, bo2, bo3, bo4, bo5, bo6, bo7, bo8⟩ := nine' HXt15.out
  go_upto_region 30 with (go_at_call 14; (with_reducible refine HC.mono ?_); rintro e U16 ⟨rfl, ⟨m, hm, hS⟩, hb⟩; have HSN := hid hS; have HMB := hid hm; have HBS := hid hb; clear hS hm hb HC)
  clear ao0 ao1 ao2 ao3 ao4 ao5 ao6 ao7 ao8 bo0 bo1 bo2 bo3 bo4 bo5 bo6 bo7 bo8
  have hm := HMB.out
  obtain ⟨n4, hne⟩ : ∃ k, k = n3 + m := ⟨_, rfl⟩
  rw [← hne] at HSN
  have hbn4 : n4 ≤ n3 + 200000 := by omega
  have HB16 : Hid (Below x w U16) := blc HBS.out HB15.out (by omega) (fun b h => by rcases h.1 with h9 | h9 <;> omega)
  obtain ⟨v0, v1, RV, SV, ln, lm, XR, XS, hST, hKK⟩ := HSN.out
  have HC := own18 hST (by omega)
  have HKK := hid hKK
  have hszf : zt < U16.heap.size := Nat.lt_of_lt_of_le hsz15 HBS.out.size
  clear hST hKK HSN HMB hm hne
  go_wp2_with (first | (go_at_call 19; (with_reducible refine HC.mono ?_); rintro e U99 ⟨rfl, hb⟩; have HBO := hid hb; clear hb HC))
  go_ret
  refine ⟨rfl, ?_⟩
  rw [← HXE.out]
  exact blc HBO.out HB16.out (by omega) (fun b h => by obtain ⟨p, hp, hb⟩ := h; rcases HKK.out p b hp hb with h1 | h1; rcases h1.1 with h9 | h9 <;> omega; omega)
set_option maxRecDepth 100000 in
set_option maxHeartbeats 32000000 in
theorem says3_small {w : World} {N N2 : Nv} {t u : Tn} (h : TI w w.heap.size N t) (h2 : TI w w.heap.size N2 u) (hsm : t.small = true) (hsm2 : u.small = true) (hd : t.nodes ≤ 200000) (hd2 : u.nodes ≤ 4194304) (hu : u.nodes ≤ 200000) : Calls Try.prog 3 #[N.v, N2.v] w fun e w' => e = .returned (.bool true) ∧ Below w.heap.size w w' := by
  go_enter Try.func3, Try.ntmps3
  go_upto_region 1 with fail
  obtain ⟨U0, hU⟩ : ∃ U, U = (w.alloc (.cells #[.int .i64 N.k, .slice N.r1 N.r2 N.r3, .int .i64 N.a2, .slice N.s1 N.s2 N.s3, .int .i64 N.a4, .int .i64 N.a5, .bool N.a6, .int .i64 N.a7, .string N.a8] 25)).alloc (.cells #[.int .i64 N2.k, .slice N2.r1 N2.r2 N2.r3, .int .i64 N2.a2, .slice N2.s1 N2.s2 N2.s3, .int .i64 N2.a4, .int .i64 N2.a5, .bool N2.a6, .int .i64 N2.a7, .string N2.a8] 25) := ⟨_, rfl⟩
  rw [← hU]
  have HB0 : Hid (Below w.heap.size w U0) := by rw [hU]; exact below_two' w _ _
  have HXx0 : Hid (BxN U0 w.heap.size N) := by rw [hU]; exact (heap_alloc_old _ _ (by simp)).trans (heap_alloc_new w _)
  have HXy0 : Hid (BxN U0 (w.heap.size + 1) N2) := by rw [hU]; exact two_new w _ _ _
  have HTx0 : Hid (TI U0 w.heap.size N t) := h.kept (fun b hb => HB0.out.block b hb)
  have HTy0 : Hid (TI U0 w.heap.size N2 u) := h2.kept (fun b hb => HB0.out.block b hb)
  clear hU h h2
  obtain ⟨y, hy⟩ : ∃ y, y = w.heap.size + 1 := ⟨_, rfl⟩
  rw [← hy] at HXy0 ⊢
  obtain ⟨x, hx⟩ : ∃ x, x = w.heap.size := ⟨_, rfl⟩
  rw [← hx] at HB0 HXx0 HTx0 HTy0 hy ⊢
  have HXE := hid hx
  have hxy : x < y := by omega
  clear hx hy
  have hsz0 : y < U0.heap.size := lt_of_block HXy0.out
  have HC := deep10 (HTx0.out.le (by omega))
  rw [decide_eq_false (by omega)] at HC
  obtain ⟨ao0, ao1, ao2, ao3, ao4, ao5, ao6, ao7, ao8⟩ := nine' HXx0.out
  go_upto_region 2 with (go_at_call 7; (with_reducible refine HC.mono ?_); rintro e U1 ⟨rfl, hb⟩; have HBS := hid (Chs.of_below (A := No) hb); clear hb HC)
  clear ao0 ao1 ao2 ao3 ao4 ao5 ao6 ao7 ao8
  have HXx1 : Hid (BxN U1 x N) := bxc HBS.out HXx0.out (fun h => h)
  have HXy1 : Hid (BxN U1 y N2) := bxc HBS.out HXy0.out (fun h => h)
  have HTx1 : Hid (TI U1 x N t) := tic HBS.out HTx0.out (by omega) (fun _ h => h.elim)
  have HTy1 : Hid (TI U1 x N2 u) := tic HBS.out HTy0.out (by omega) (fun _ h => h.elim)
  have HB1 : Hid (Below x w U1) := blc HBS.out HB0.out (by omega) (fun b h => by exact h.elim)
  have hsz1 : y < U1.heap.size := Nat.lt_of_lt_of_le hsz0 HBS.out.size
  clear HB0 hsz0 HBS HXx0 HXy0 HTx0 HTy0
  have HC := deep10 (HTy1.out.le (by omega))
  rw [decide_eq_false (by omega)] at HC
  obtain ⟨ao0, ao1, ao2, ao3, ao4, ao5, ao6, ao7, ao8⟩ := nine' HXy1.out
  go_upto_region 5 with (go_at_call 7; (with_reducible refine HC.mono ?_); rintro e U2 ⟨rfl, hb⟩; have HBS := hid (Chs.of_below (A := No) hb); clear hb HC)
  clear ao0 ao1 ao2 ao3 ao4 ao5 ao6 ao7 ao8
  have HXx2 : Hid (BxN U2 x N) := bxc HBS.out HXx1.out (fun h => h)
  have HXy2 : Hid (BxN U2 y N2) := bxc HBS.out HXy1.out (fun h => h)
  have HTx2 : Hid (TI U2 x N t) := tic HBS.out HTx1.out (by omega) (fun _ h => h.elim)
  have HTy2 : Hid (TI U2 x N2 u) := tic HBS.out HTy1.out (by omega) (fun _ h => h.elim)
  have HB2 : Hid (Below x w U2) := blc HBS.out HB1.out (by omega) (fun b h => by exact h.elim)
  have hsz2 : y < U2.heap.size := Nat.lt_of_lt_of_le hsz1 HBS.out.size
  clear HB1 hsz1 HBS HXx1 HXy1 HTx1 HTy1
  have HC := heavy8 (HTx2.out.le (by omega)) hsm
  obtain ⟨ao0, ao1, ao2, ao3, ao4, ao5, ao6, ao7, ao8⟩ := nine' HXx2.out
  go_upto_region 6 with (go_at_call 8; (with_reducible refine HC.mono ?_); rintro e U3 ⟨h1, rfl, hb⟩; have HBS := hid (Chs.of_below (A := No) hb); clear hb HC)
  clear ao0 ao1 ao2 ao3 ao4 ao5 ao6 ao7 ao8
  have HXx3 : Hid (BxN U3 x N) := bxc HBS.out HXx2.out (fun h => h)
  have HXy3 : Hid (BxN U3 y N2) := bxc HBS.out HXy2.out (fun h => h)
  have HTx3 : Hid (TI U3 x N t) := tic HBS.out HTx2.out (by omega) (fun _ h => h.elim)
  have HTy3 : Hid (TI U3 x N2 u) := tic HBS.out HTy2.out (by omega) (fun _ h => h.elim)
  have HB3 : Hid (Below x w U3) := blc HBS.out HB2.out (by omega) (fun b h => by exact h.elim)
  have hsz3 : y < U3.heap.size := Nat.lt_of_lt_of_le hsz2 HBS.out.size
  clear HB2 hsz2 HBS HXx2 HXy2 HTx2 HTy2
  have HC := heavy8 (HTy3.out.le (by omega)) hsm2
  obtain ⟨ao0, ao1, ao2, ao3, ao4, ao5, ao6, ao7, ao8⟩ := nine' HXy3.out
  go_upto_region 7 with (go_at_call 8; (with_reducible refine HC.mono ?_); rintro e U4 ⟨h2, rfl, hb⟩; have HBS := hid (Chs.of_below (A := No) hb); clear hb HC)
  clear ao0 ao1 ao2 ao3 ao4 ao5 ao6 ao7 ao8
  have HXx4 : Hid (BxN U4 x N) := bxc HBS.out HXx3.out (fun h => h)
  have HXy4 : Hid (BxN U4 y N2) := bxc HBS.out HXy3.out (fun h => h)
  have HTx4 : Hid (TI U4 x N t) := tic HBS.out HTx3.out (by omega) (fun _ h => h.elim)
  have HTy4 : Hid (TI U4 x N2 u) := tic HBS.out HTy3.out (by omega) (fun _ h => h.elim)
  have HB4 : Hid (Below x w U4) := blc HBS.out HB3.out (by omega) (fun b h => by exact h.elim)
  have hsz4 : y < U4.heap.size := Nat.lt_of_lt_of_le hsz3 HBS.out.size
  clear HB3 hsz3 HBS HXx3 HXy3 HTx3 HTy3
  by_cases hh : h1 = true ∨ h2 = true
  · have hor : (if h1 = true then true else h2) = true := by rcases hh with h | h <;> simp [h]
    cases h1 <;> cases h2 <;> simp at hh
    all_goals
      go_wp2
      go_ret
      refine ⟨rfl, ?_⟩
      rw [← HXE.out]
      exact HB4.out
  obtain ⟨rfl, rfl⟩ : h1 = false ∧ h2 = false := by cases h1 <;> cases h2 <;> simp at hh ⊢
  clear hh
  go_upto_region 9 with fail
  have HC := awake9 U4
  go_upto_region 10 with (go_at_call 9; (with_reducible refine HC.mono ?_); rintro e U5 ⟨rfl, hb⟩; have HBS := hid (Chs.of_below (A := No) hb); clear hb HC)
  have HXx5 : Hid (BxN U5 x N) := bxc HBS.out HXx4.out (fun h => h)
  have HXy5 : Hid (BxN U5 y N2) := bxc HBS.out HXy4.out (fun h => h)
  have HTx5 : Hid (TI U5 x N t) := tic HBS.out HTx4.out (by omega) (fun _ h => h.elim)
  have HTy5 : Hid (TI U5 x N2 u) := tic HBS.out HTy4.out (by omega) (fun _ h => h.elim)
  have HB5 : Hid (Below x w U5) := blc HBS.out HB4.out (by omega) (fun b h => by exact h.elim)
  have hsz5 : y < U5.heap.size := Nat.lt_of_lt_of_le hsz4 HBS.out.size
  clear HB4 hsz4 HBS HXx4 HXy4 HTx4 HTy4
  have HC := great14 (HTx5.out.le (by omega))
  rw [decide_eq_false (by omega)] at HC
  obtain ⟨ao0, ao1, ao2, ao3, ao4, ao5, ao6, ao7, ao8⟩ := nine' HXx5.out
  go_upto_region 15 with (go_at_call 10; (with_reducible refine HC.mono ?_); rintro e U6 ⟨rfl, hb⟩; have HBS := hid (Chs.of_below (A := No) hb); clear hb HC)
  clear ao0 ao1 ao2 ao3 ao4 ao5 ao6 ao7 ao8
  have HXx6 : Hid (BxN U6 x N) := bxc HBS.out HXx5.out (fun h => h)
  have HXy6 : Hid (BxN U6 y N2) := bxc HBS.out HXy5.out (fun h => h)
  have HTx6 : Hid (TI U6 x N t) := tic HBS.out HTx5.out (by omega) (fun _ h => h.elim)
  have HTy6 : Hid (TI U6 x N2 u) := tic HBS.out HTy5.out (by omega) (fun _ h => h.elim)
  have HB6 : Hid (Below x w U6) := blc HBS.out HB5.out (by omega) (fun b h => by exact h.elim)
  have hsz6 : y < U6.heap.size := Nat.lt_of_lt_of_le hsz5 HBS.out.size
  clear HB5 hsz5 HBS HXx5 HXy5 HTx5 HTy5
  go_upto_region 16 with fail
  obtain ⟨U7, hU⟩ : ∃ U, U = U6.alloc (.cells #[.slice none 0 0, .slice none 0 0] 36) := ⟨_, rfl⟩
  rw [← hU]
  have HBS : Hid (Chs No U6 U7) := by rw [hU]; exact Chs.of_below (Joins.below_alloc1 _ _)
  have HL0 : Hid (U7.heap[U6.heap.size]? = some (.cells #[.slice none 0 0, .slice none 0 0] 36 (0, 0))) := by rw [hU]; exact heap_alloc_new _ _
  clear hU
  obtain ⟨zl, hz⟩ : ∃ z, z = U6.heap.size := ⟨_, rfl⟩
  rw [← hz] at HL0 ⊢
  have hlol : y < zl := by omega
  clear hz
  have HXx7 : Hid (BxN U7 x N) := bxc HBS.out HXx6.out (fun h => h)
  have HXy7 : Hid (BxN U7 y N2) := bxc HBS.out HXy6.out (fun h => h)
  have HTx7 : Hid (TI U7 x N t) := tic HBS.out HTx6.out (by omega) (fun _ h => h.elim)
  have HTy7 : Hid (TI U7 x N2 u) := tic HBS.out HTy6.out (by omega) (fun _ h => h.elim)
  have HB7 : Hid (Below x w U7) := blc HBS.out HB6.out (by omega) (fun b h => by exact h.elim)
  have hsz7 : y < U7.heap.size := Nat.lt_of_lt_of_le hsz6 HBS.out.size
  clear HB6 hsz6 HBS HXx6 HXy6 HTx6 HTy6
  clear hsz7
  have hsz7 : zl < U7.heap.size := lt_of_block HL0.out
  have HSS7 : Hid (SS U7 zl 0 (fun b => b = zl)) := ⟨_, _, _, _, _, _, _, _, st_nil HL0.out, fun p b hp h => by
    cases p with
    | l => cases h; rfl
    | a => cases h
    | b => cases h
    | r i => exact absurd hp (by simp [Ky.ok])
    | s i => exact absurd hp (by simp [Ky.ok])⟩
  clear HL0
  have HC := lent12 HTx7.out hd hsm U7 (by omega) (fun _ _ => rfl)
  obtain ⟨ao0, ao1, ao2, ao3, ao4, ao5, ao6, ao7, ao8⟩ := nine' HXx7.out
  go_upto_region 17 with (go_at_call 13; (with_reducible refine HC.mono ?_); rintro e Wi ⟨Mi, Ai, rfl, hM, hA, hb⟩; have HMM := hid hM; have HAA := hid hA; have HBW := hid hb; clear hM hb HC)
  clear ao0 ao1 ao2 ao3 ao4 ao5 ao6 ao7 ao8 hA
  obtain ⟨U8, hU⟩ : ∃ U, U = Wi.alloc (.cells #[.int .i64 Mi.k, .slice Mi.r1 Mi.r2 Mi.r3, .int .i64 Mi.a2, .slice Mi.s1 Mi.s2 Mi.s3, .int .i64 Mi.a4, .int .i64 Mi.a5, .bool Mi.a6, .int .i64 Mi.a7, .string Mi.a8] 25) := ⟨_, rfl⟩
  rw [← hU]
  have HBS : Hid (Chs No U7 U8) := by rw [hU]; exact Chs.of_below (HBW.out.alloc HBW.out.size _)
  have HXi8 : Hid (BxN U8 Wi.heap.size Mi) := by rw [hU]; exact heap_alloc_new Wi _
  have HTi8 : Hid (TL U8 Mi t Ai) := by rw [hU]; exact HMM.out.kept (fun b hb => heap_alloc_old _ _ (HMM.out.low b hb))
  have HAi : Hid (∀ b, Ai b → zl < b ∧ b < Wi.heap.size) := fun b hb => ⟨by have := HAA.out b hb; omega, HMM.out.low b hb⟩
  have hloi : zl < Wi.heap.size := Nat.lt_of_lt_of_le hsz7 HBW.out.size
  have hlti : Wi.heap.size < U8.heap.size := lt_of_block HXi8.out
  clear hU HMM HBW HAA
  obtain ⟨zi, hz⟩ : ∃ z, z = Wi.heap.size := ⟨_, rfl⟩
  rw [← hz] at HXi8 hloi hlti HAi ⊢
  clear hz
  have HXx8 : Hid (BxN U8 x N) := bxc HBS.out HXx7.out (fun h => h)
  have HXy8 : Hid (BxN U8 y N2) := bxc HBS.out HXy7.out (fun h => h)
  have HTx8 : Hid (TI U8 x N t) := tic HBS.out HTx7.out (by omega) (fun _ h => h.elim)
  have HTy8 : Hid (TI U8 x N2 u) := tic HBS.out HTy7.out (by omega) (fun _ h => h.elim)
  have HSS8 : Hid (SS U8 zl 0 (fun b => b = zl)) := HSS7.out.chs HBS.out (fun _ _ h => h)
  have HB8 : Hid (Below x w U8) := blc HBS.out HB7.out (by omega) (fun b h => by exact h.elim)
  have hsz8 : zl < U8.heap.size := Nat.lt_of_lt_of_le hsz7 HBS.out.size
  clear HB7 hsz7 HBS HXx7 HXy7 HTx7 HTy7 HSS7
  clear hsz8
  have hsz8 : zi < U8.heap.size := hlti
  clear hlti
  have HSSn : Hid (SS U8 zl 0 (fun b => b = zl ∨ zi < b)) := HSS8.out.mono (fun b h _ => .inl h)
  clear HSS8
  have HSS8 := HSSn
  clear HSSn
  have HC := says14 (K := fun b => b = zl ∨ zi < b) (AT := fun b => b < x) (HTi8.out).ti HTx8.out.tp (fun b hb => by omega) HSS8.out (fun b h hb => by first | omega | (rcases h with h1 | h1 <;> omega)) (by omega)
  obtain ⟨ao0, ao1, ao2, ao3, ao4, ao5, ao6, ao7, ao8⟩ := nine' HXi8.out
  obtain ⟨bo0, bo1, bo2, bo3, bo4, bo5, bo6, bo7, bo8⟩ := nine' HXx8.out
  go_upto_region 18 with (go_at_call 14; (with_reducible refine HC.mono ?_); rintro e U9 ⟨rfl, ⟨m, hm, hS⟩, hb⟩; have HSN := hid hS; have HMB := hid hm; have HBS := hid hb; clear hS hm hb HC)
  clear ao0 ao1 ao2 ao3 ao4 ao5 ao6 ao7 ao8 bo0 bo1 bo2 bo3 bo4 bo5 bo6 bo7 bo8
  have hm := HMB.out
  obtain ⟨n1, hne⟩ : ∃ k, k = 0 + m := ⟨_, rfl⟩
  rw [← hne] at HSN
  have hbn1 : n1 ≤ 0 + 200000 := by omega
  have HSS9 : Hid (SS U9 zl n1 (fun b => b = zl ∨ zi < b)) := HSN.out.mono (fun b h _ => by rcases h with h | h; exact h; exact .inr (by omega))
  clear HSN HMB hm hne HSS8
  have HXx9 : Hid (BxN U9 x N) := bxc HBS.out HXx8.out (fun h => by rcases h with h9 | h9 <;> omega)
  have HXy9 : Hid (BxN U9 y N2) := bxc HBS.out HXy8.out (fun h => by rcases h with h9 | h9 <;> omega)
  have HTx9 : Hid (TI U9 x N t) := tic HBS.out HTx8.out (by omega) (fun b h => by rcases h with h9 | h9 <;> omega)
  have HTy9 : Hid (TI U9 x N2 u) := tic HBS.out HTy8.out (by omega) (fun b h => by rcases h with h9 | h9 <;> omega)
  have HXi9 : Hid (BxN U9 zi Mi) := bxc HBS.out HXi8.out (fun h => by rcases h with h9 | h9 <;> omega)
  have HTi9 : Hid (TL U9 Mi t Ai) := tlc HBS.out HTi8.out (fun b h0 h => by have g0 := HAi.out b h0; rcases h with h9 | h9 <;> omega)
  have HB9 : Hid (Below x w U9) := blc HBS.out HB8.out (by omega) (fun b h => by rcases h with h9 | h9 <;> omega)
  have hsz9 : zi < U9.heap.size := Nat.lt_of_lt_of_le hsz8 HBS.out.size
  clear HB8 hsz8 HBS HXx8 HXy8 HTx8 HTy8 HXi8 HTi8
  have HC := great14 (HTy9.out.le (by omega))
  rw [decide_eq_false (by omega)] at HC
  obtain ⟨ao0, ao1, ao2, ao3, ao4, ao5, ao6, ao7, ao8⟩ := nine' HXy9.out
  go_upto_region 20 with (go_at_call 10; (with_reducible refine HC.mono ?_); rintro e U10 ⟨rfl, hb⟩; have HBS := hid (Chs.of_below (A := No) hb); clear hb HC)
  clear ao0 ao1 ao2 ao3 ao4 ao5 ao6 ao7 ao8
  have HXx10 : Hid (BxN U10 x N) := bxc HBS.out HXx9.out (fun h => h)
  have HXy10 : Hid (BxN U10 y N2) := bxc HBS.out HXy9.out (fun h => h)
  have HTx10 : Hid (TI U10 x N t) := tic HBS.out HTx9.out (by omega) (fun _ h => h.elim)
  have HTy10 : Hid (TI U10 x N2 u) := tic HBS.out HTy9.out (by omega) (fun _ h => h.elim)
  have HXi10 : Hid (BxN U10 zi Mi) := bxc HBS.out HXi9.out (fun h => h)
  have HTi10 : Hid (TL U10 Mi t Ai) := tlc HBS.out HTi9.out (fun _ _ h => h)
  have HSS10 : Hid (SS U10 zl n1 (fun b => b = zl ∨ zi < b)) := HSS9.out.chs HBS.out (fun _ _ h => h)
  have HB10 : Hid (Below x w U10) := blc HBS.out HB9.out (by omega) (fun b h => by exact h.elim)
  have hsz10 : zi < U10.heap.size := Nat.lt_of_lt_of_le hsz9 HBS.out.size
  clear HB9 hsz9 HBS HXx9 HXy9 HTx9 HTy9 HXi9 HTi9 HSS9
  have HC := says14 (K := fun b => b = zl ∨ zi < b) (AT := fun b => b < x) (HTy10.out.le (by omega)) HTy10.out.tp (fun b hb => by omega) HSS10.out (fun b h hb => by first | omega | (rcases h with h1 | h1 <;> omega)) (by omega)
  obtain ⟨ao0, ao1, ao2, ao3, ao4, ao5, ao6, ao7, ao8⟩ := nine' HXy10.out
  go_upto_region 22 with (go_at_call 14; (with_reducible refine HC.mono ?_); rintro e U11 ⟨rfl, ⟨m, hm, hS⟩, hb⟩; have HSN := hid hS; have HMB := hid hm; have HBS := hid hb; clear hS hm hb HC)
  clear ao0 ao1 ao2 ao3 ao4 ao5 ao6 ao7 ao8
  have hm := HMB.out
  obtain ⟨n2, hne⟩ : ∃ k, k = n1 + m := ⟨_, rfl⟩
  rw [← hne] at HSN
  have hbn2 : n2 ≤ n1 + 200000 := by omega
  have HSS11 : Hid (SS U11 zl n2 (fun b => b = zl ∨ zi < b)) := HSN.out.mono (fun b h _ => by rcases h with h | h; exact h; exact .inr (by omega))
  clear HSN HMB hm hne HSS10
  have HXx11 : Hid (BxN U11 x N) := bxc HBS.out HXx10.out (fun h => by rcases h with h9 | h9 <;> omega)
  have HXy11 : Hid (BxN U11 y N2) := bxc HBS.out HXy10.out (fun h => by rcases h with h9 | h9 <;> omega)
  have HTx11 : Hid (TI U11 x N t) := tic HBS.out HTx10.out (by omega) (fun b h => by rcases h with h9 | h9 <;> omega)
  have HTy11 : Hid (TI U11 x N2 u) := tic HBS.out HTy10.out (by omega) (fun b h => by rcases h with h9 | h9 <;> omega)
  have HXi11 : Hid (BxN U11 zi Mi) := bxc HBS.out HXi10.out (fun h => by rcases h with h9 | h9 <;> omega)
  have HTi11 : Hid (TL U11 Mi t Ai) := tlc HBS.out HTi10.out (fun b h0 h => by have g0 := HAi.out b h0; rcases h with h9 | h9 <;> omega)
  have HB11 : Hid (Below x w U11) := blc HBS.out HB10.out (by omega) (fun b h => by rcases h with h9 | h9 <;> omega)
  have hsz11 : zi < U11.heap.size := Nat.lt_of_lt_of_le hsz10 HBS.out.size
  clear HB10 hsz10 HBS HXx10 HXy10 HTx10 HTy10 HXi10 HTi10
  have HC := says14 (K := fun b => b = zl ∨ zi < b) (AT := fun b => b < x) (HTi11.out).ti HTx11.out.tp (fun b hb => by omega) HSS11.out (fun b h hb => by first | omega | (rcases h with h1 | h1 <;> omega)) (by omega)
  obtain ⟨ao0, ao1, ao2, ao3, ao4, ao5, ao6, ao7, ao8⟩ := nine' HXi11.out
  obtain ⟨bo0, bo1, bo2, bo3, bo4, bo5, bo6, bo7, bo8⟩ := nine' HXx11.out
  go_upto_region 23 with (go_at_call 14; (with_reducible refine HC.mono ?_); rintro e U12 ⟨rfl, ⟨m, hm, hS⟩, hb⟩; have HSN := hid hS; have HMB := hid hm; have HBS := hid hb; clear hS hm hb HC)
  clear ao0 ao1 ao2 ao3 ao4 ao5 ao6 ao7 ao8 bo0 bo1 bo2 bo3 bo4 bo5 bo6 bo7 bo8
  have hm := HMB.out
  obtain ⟨n3, hne⟩ : ∃ k, k = n2 + m := ⟨_, rfl⟩
  rw [← hne] at HSN
  have hbn3 : n3 ≤ n2 + 200000 := by omega
  have HSS12 : Hid (SS U12 zl n3 (fun b => b = zl ∨ zi < b)) := HSN.out.mono (fun b h _ => by rcases h with h | h; exact h; exact .inr (by omega))
  clear HSN HMB hm hne HSS11
  have HXx12 : Hid (BxN U12 x N) := bxc HBS.out HXx11.out (fun h => by rcases h with h9 | h9 <;> omega)
  have HXy12 : Hid (BxN U12 y N2) := bxc HBS.out HXy11.out (fun h => by rcases h with h9 | h9 <;> omega)
  have HTx12 : Hid (TI U12 x N t) := tic HBS.out HTx11.out (by omega) (fun b h => by rcases h with h9 | h9 <;> omega)
  have HTy12 : Hid (TI U12 x N2 u) := tic HBS.out HTy11.out (by omega) (fun b h => by rcases h with h9 | h9 <;> omega)
  have HXi12 : Hid (BxN U12 zi Mi) := bxc HBS.out HXi11.out (fun h => by rcases h with h9 | h9 <;> omega)
  have HTi12 : Hid (TL U12 Mi t Ai) := tlc HBS.out HTi11.out (fun b h0 h => by have g0 := HAi.out b h0; rcases h with h9 | h9 <;> omega)
  have HB12 : Hid (Below x w U12) := blc HBS.out HB11.out (by omega) (fun b h => by rcases h with h9 | h9 <;> omega)
  have hsz12 : zi < U12.heap.size := Nat.lt_of_lt_of_le hsz11 HBS.out.size
  clear HB11 hsz11 HBS HXx11 HXy11 HTx11 HTy11 HXi11 HTi11
  have HC := same13 (HTi12.out).ti (HTx12.out.le (by omega))
  obtain ⟨ao0, ao1, ao2, ao3, ao4, ao5, ao6, ao7, ao8⟩ := nine' HXi12.out
  obtain ⟨bo0, bo1, bo2, bo3, bo4, bo5, bo6, bo7, bo8⟩ := nine' HXx12.out
  go_upto_region 24 with (go_at_call 15; (with_reducible refine HC.mono ?_); rintro e U13 ⟨rfl, hb⟩; have HBS := hid (Chs.of_below (A := No) hb); clear hb HC)
  clear ao0 ao1 ao2 ao3 ao4 ao5 ao6 ao7 ao8 bo0 bo1 bo2 bo3 bo4 bo5 bo6 bo7 bo8
  have HXx13 : Hid (BxN U13 x N) := bxc HBS.out HXx12.out (fun h => h)
  have HXy13 : Hid (BxN U13 y N2) := bxc HBS.out HXy12.out (fun h => h)
  have HTx13 : Hid (TI U13 x N t) := tic HBS.out HTx12.out (by omega) (fun _ h => h.elim)
  have HTy13 : Hid (TI U13 x N2 u) := tic HBS.out HTy12.out (by omega) (fun _ h => h.elim)
  have HXi13 : Hid (BxN U13 zi Mi) := bxc HBS.out HXi12.out (fun h => h)
  have HTi13 : Hid (TL U13 Mi t Ai) := tlc HBS.out HTi12.out (fun _ _ h => h)
  have HSS13 : Hid (SS U13 zl n3 (fun b => b = zl ∨ zi < b)) := HSS12.out.chs HBS.out (fun _ _ h => h)
  have HB13 : Hid (Below x w U13) := blc HBS.out HB12.out (by omega) (fun b h => by exact h.elim)
  have hsz13 : zi < U13.heap.size := Nat.lt_of_lt_of_le hsz12 HBS.out.size
  clear HB12 hsz12 HBS HXx12 HXy12 HTx12 HTy12 HXi12 HTi12 HSS12
  have HC := kept14 HTi13.out U13 (fun _ _ => rfl)
  obtain ⟨ao0, ao1, ao2, ao3, ao4, ao5, ao6, ao7, ao8⟩ := nine' HXi13.out
  go_upto_region 27 with (go_at_call 16; (with_reducible refine HC.mono ?_); rintro e U14 ⟨rfl, hb⟩; have HBS := hid (Chs.of_below (A := No) hb); clear hb HC)
  clear ao0 ao1 ao2 ao3 ao4 ao5 ao6 ao7 ao8
  have HXx14 : Hid (BxN U14 x N) := bxc HBS.out HXx13.out (fun h => h)
  have HXy14 : Hid (BxN U14 y N2) := bxc HBS.out HXy13.out (fun h => h)
  have HTx14 : Hid (TI U14 x N t) := tic HBS.out HTx13.out (by omega) (fun _ h => h.elim)
  have HTy14 : Hid (TI U14 x N2 u) := tic HBS.out HTy13.out (by omega) (fun _ h => h.elim)
  have HXi14 : Hid (BxN U14 zi Mi) := bxc HBS.out HXi13.out (fun h => h)
  have HTi14 : Hid (TL U14 Mi t Ai) := tlc HBS.out HTi13.out (fun _ _ h => h)
  have HSS14 : Hid (SS U14 zl n3 (fun b => b = zl ∨ zi < b)) := HSS13.out.chs HBS.out (fun _ _ h => h)
  have HB14 : Hid (Below x w U14) := blc HBS.out HB13.out (by omega) (fun b h => by exact h.elim)
  have hsz14 : zi < U14.heap.size := Nat.lt_of_lt_of_le hsz13 HBS.out.size
  clear HB13 hsz13 HBS HXx13 HXy13 HTx13 HTy13 HXi13 HTi13 HSS13
  have HC := turned15 HTi14.out hd hsm U14 (fun _ _ => rfl)
  obtain ⟨ao0, ao1, ao2, ao3, ao4, ao5, ao6, ao7, ao8⟩ := nine' HXi14.out
  go_upto_region 28 with (go_at_call 17; (with_reducible refine HC.mono ?_); rintro e U15 ⟨rfl, ⟨t', hM, hno', hsm'⟩, hb⟩; have HMM := hid hM; have HBS := hid hb; clear hM hb HC)
  clear ao0 ao1 ao2 ao3 ao4 ao5 ao6 ao7 ao8
  have HXi15 : Hid (BxN U15 zi Mi) := bxc HBS.out HXi14.out (fun h => by have g := HAi.out _ h; omega)
  have HSS15 : Hid (SS U15 zl n3 (fun b => b = zl ∨ zi < b)) := HSS14.out.chs HBS.out (fun b h0 h => by have g0 := HAi.out b h; rcases h0 with h1 | h1 <;> omega)
  have HB15 : Hid (Below x w U15) := blc HBS.out HB14.out (by omega) (fun b h => by have g := HAi.out _ h; omega)
  have hsz15 : zi < U15.heap.size := Nat.lt_of_lt_of_le hsz14 HBS.out.size
  clear HB14 hsz14 HBS HXx14 HXy14 HTx14 HTy14 HXi14 HTi14 HSS14
  have HTi15 : Hid (TL U15 Mi t' Ai) := HMM.out
  clear HMM
  have hd' : t'.nodes ≤ 200000 := by omega
  obtain ⟨zc, hzc⟩ : ∃ z, z + 1 = U15.heap.size := ⟨U15.heap.size - 1, by omega⟩
  have HSSn : Hid (SS U15 zl n3 (fun b => (b = zl ∨ zi < b) ∧ b ≤ zc)) := HSS15.out.mono (fun b h hl => ⟨h, by omega⟩)
  clear HSS15
  have HSS15 := HSSn
  have hzic : zi ≤ zc := by omega
  clear HSSn hsz15
  have hsz15 : zc < U15.heap.size := by omega
  clear hzc
  have HC := copy16 (HTi15.out).ti hd' hsm' U15 (Nat.le_refl _) (fun _ _ => rfl)
  obtain ⟨ao0, ao1, ao2, ao3, ao4, ao5, ao6, ao7, ao8⟩ := nine' HXi15.out
  go_upto_region 29 with (go_at_call 18; (with_reducible refine HC.mono ?_); rintro e Wt ⟨Mt, rfl, hM, hb⟩; have HMM := hid hM; have HBW := hid hb; clear hM hb HC)
  clear ao0 ao1 ao2 ao3 ao4 ao5 ao6 ao7 ao8
  obtain ⟨U16, hU⟩ : ∃ U, U = Wt.alloc (.cells #[.int .i64 Mt.k, .slice Mt.r1 Mt.r2 Mt.r3, .int .i64 Mt.a2, .slice Mt.s1 Mt.s2 Mt.s3, .int .i64 Mt.a4, .int .i64 Mt.a5, .bool Mt.a6, .int .i64 Mt.a7, .string Mt.a8] 25) := ⟨_, rfl⟩
  rw [← hU]
  have HBS : Hid (Chs No U15 U16) := by rw [hU]; exact Chs.of_below (HBW.out.alloc HBW.out.size _)
  have HXt16 : Hid (BxN U16 Wt.heap.size Mt) := by rw [hU]; exact heap_alloc_new Wt _
  have HTt16 : Hid (TP U16 (fun b => zc < b ∧ b < Wt.heap.size) Mt t') := by rw [hU]; exact HMM.out.kept (fun b hb => heap_alloc_old _ _ hb.2) (fun b hb => ⟨by omega, hb.2⟩)
  have hlot : zc < Wt.heap.size := Nat.lt_of_lt_of_le hsz15 HBW.out.size
  have hltt : Wt.heap.size < U16.heap.size := lt_of_block HXt16.out
  clear hU HMM HBW
  obtain ⟨zt, hz⟩ : ∃ z, z = Wt.heap.size := ⟨_, rfl⟩
  rw [← hz] at HXt16 hlot hltt HTt16 ⊢
  clear hz
  have HXi16 : Hid (BxN U16 zi Mi) := bxc HBS.out HXi15.out (fun h => h)
  have HTi16 : Hid (TL U16 Mi t' Ai) := tlc HBS.out HTi15.out (fun _ _ h => h)
  have HSS16 : Hid (SS U16 zl n3 (fun b => (b = zl ∨ zi < b) ∧ b ≤ zc)) := HSS15.out.chs HBS.out (fun _ _ h => h)
  have HB16 : Hid (Below x w U16) := blc HBS.out HB15.out (by omega) (fun b h => by exact h.elim)
  have hsz16 : zc < U16.heap.size := Nat.lt_of_lt_of_le hsz15 HBS.out.size
  clear HB15 hsz15 HBS HXi15 HTi15 HSS15
  clear hsz16
  have hsz16 : zt < U16.heap.size := hltt
  clear hltt
  have HC := says14 (K := fun b => (b = zl ∨ zi < b) ∧ b ≤ zc) (AT := fun b => zc < b ∧ b < zt) (HTi16.out).ti HTt16.out (fun b hb => by omega) HSS16.out (fun b h hb => by first | omega | (rcases h with h1 | h1 <;> omega)) (by omega)
  obtain ⟨ao0, ao1, ao2, ao3, ao4, ao5, ao6, ao7, ao8⟩ := nine' HXi16.out
  obtain ⟨bo0, bo1, bo2, bo3, bo4, bo5, bo6, bo7, bo8⟩ := nine' HXt16.out
  go_upto_region 30 with (go_at_call 14; (with_reducible refine HC.mono ?_); rintro e U17 ⟨rfl, ⟨m, hm, hS⟩, hb⟩; have HSN := hid hS; have HMB := hid hm; have HBS := hid hb; clear hS hm hb HC)
  clear ao0 ao1 ao2 ao3 ao4 ao5 ao6 ao7 ao8 bo0 bo1 bo2 bo3 bo4 bo5 bo6 bo7 bo8
  have hm := HMB.out
  obtain ⟨n4, hne⟩ : ∃ k, k = n3 + m := ⟨_, rfl⟩
  rw [← hne] at HSN
  have hbn4 : n4 ≤ n3 + 200000 := by omega
  have HB17 : Hid (Below x w U17) := blc HBS.out HB16.out (by omega) (fun b h => by rcases h.1 with h9 | h9 <;> omega)
  obtain ⟨v0, v1, RV, SV, ln, lm, XR, XS, hST, hKK⟩ := HSN.out
  have HC := own18 hST (by omega)
  have HKK := hid hKK
  have hszf : zt < U17.heap.size := Nat.lt_of_lt_of_le hsz16 HBS.out.size
  clear hST hKK HSN HMB hm hne
  go_wp2_with (first | (go_at_call 19; (with_reducible refine HC.mono ?_); rintro e U99 ⟨rfl, hb⟩; have HBO := hid hb; clear hb HC))
  go_ret
  refine ⟨rfl, ?_⟩
  rw [← HXE.out]
  exact blc HBO.out HB17.out (by omega) (fun b h => by obtain ⟨p, hp, hb⟩ := h; rcases HKK.out p b hp hb with h1 | h1; rcases h1.1 with h9 | h9 <;> omega; omega)
set_option maxRecDepth 100000 in
set_option maxHeartbeats 32000000 in
theorem says3_deep1 {w : World} {N N2 : Nv} {t u : Tn} (h : TI w w.heap.size N t) (h2 : TI w w.heap.size N2 u) (hsm : t.small = true) (hsm2 : u.small = true) (hd : 4194304 < t.nodes) : Calls Try.prog 3 #[N.v, N2.v] w fun e w' => e = .returned (.bool true) ∧ Below w.heap.size w w' := by
  go_enter Try.func3, Try.ntmps3
  go_upto_region 1 with fail
  obtain ⟨U0, hU⟩ : ∃ U, U = (w.alloc (.cells #[.int .i64 N.k, .slice N.r1 N.r2 N.r3, .int .i64 N.a2, .slice N.s1 N.s2 N.s3, .int .i64 N.a4, .int .i64 N.a5, .bool N.a6, .int .i64 N.a7, .string N.a8] 25)).alloc (.cells #[.int .i64 N2.k, .slice N2.r1 N2.r2 N2.r3, .int .i64 N2.a2, .slice N2.s1 N2.s2 N2.s3, .int .i64 N2.a4, .int .i64 N2.a5, .bool N2.a6, .int .i64 N2.a7, .string N2.a8] 25) := ⟨_, rfl⟩
  rw [← hU]
  have HB0 : Hid (Below w.heap.size w U0) := by rw [hU]; exact below_two' w _ _
  have HXx0 : Hid (BxN U0 w.heap.size N) := by rw [hU]; exact (heap_alloc_old _ _ (by simp)).trans (heap_alloc_new w _)
  have HXy0 : Hid (BxN U0 (w.heap.size + 1) N2) := by rw [hU]; exact two_new w _ _ _
  have HTx0 : Hid (TI U0 w.heap.size N t) := h.kept (fun b hb => HB0.out.block b hb)
  have HTy0 : Hid (TI U0 w.heap.size N2 u) := h2.kept (fun b hb => HB0.out.block b hb)
  clear hU h h2
  obtain ⟨y, hy⟩ : ∃ y, y = w.heap.size + 1 := ⟨_, rfl⟩
  rw [← hy] at HXy0 ⊢
  obtain ⟨x, hx⟩ : ∃ x, x = w.heap.size := ⟨_, rfl⟩
  rw [← hx] at HB0 HXx0 HTx0 HTy0 hy ⊢
  have HXE := hid hx
  have hxy : x < y := by omega
  clear hx hy
  have hsz0 : y < U0.heap.size := lt_of_block HXy0.out
  have HC := deep10 (HTx0.out.le (by omega))
  rw [decide_eq_true hd] at HC
  obtain ⟨ao0, ao1, ao2, ao3, ao4, ao5, ao6, ao7, ao8⟩ := nine' HXx0.out
  go_upto_region 2 with (go_at_call 7; (with_reducible refine HC.mono ?_); rintro e U1 ⟨rfl, hb⟩; have HBS := hid (Chs.of_below (A := No) hb); clear hb HC)
  clear ao0 ao1 ao2 ao3 ao4 ao5 ao6 ao7 ao8
  have HXx1 : Hid (BxN U1 x N) := bxc HBS.out HXx0.out (fun h => h)
  have HXy1 : Hid (BxN U1 y N2) := bxc HBS.out HXy0.out (fun h => h)
  have HTx1 : Hid (TI U1 x N t) := tic HBS.out HTx0.out (by omega) (fun _ h => h.elim)
  have HTy1 : Hid (TI U1 x N2 u) := tic HBS.out HTy0.out (by omega) (fun _ h => h.elim)
  have HB1 : Hid (Below x w U1) := blc HBS.out HB0.out (by omega) (fun b h => by exact h.elim)
  have hsz1 : y < U1.heap.size := Nat.lt_of_lt_of_le hsz0 HBS.out.size
  clear HB0 hsz0 HBS HXx0 HXy0 HTx0 HTy0
  have HC := deep10 (HTy1.out.le (by omega))
  obtain ⟨ao0, ao1, ao2, ao3, ao4, ao5, ao6, ao7, ao8⟩ := nine' HXy1.out
  go_wp2_with (first | (go_at_call 7; (with_reducible refine HC.mono ?_); rintro e U99 ⟨rfl, hb⟩; have HBS := hid (Chs.of_below (A := No) hb); clear hb HC))
  go_ret
  refine ⟨rfl, ?_⟩
  rw [← HXE.out]
  exact blc HBS.out HB1.out (by omega) (fun b h => h.elim)
set_option maxRecDepth 100000 in
set_option maxHeartbeats 32000000 in
theorem says3_deep2 {w : World} {N N2 : Nv} {t u : Tn} (h : TI w w.heap.size N t) (h2 : TI w w.heap.size N2 u) (hsm : t.small = true) (hsm2 : u.small = true) (hd : t.nodes ≤ 4194304) (hd2 : 4194304 < u.nodes) : Calls Try.prog 3 #[N.v, N2.v] w fun e w' => e = .returned (.bool true) ∧ Below w.heap.size w w' := by
  go_enter Try.func3, Try.ntmps3
  go_upto_region 1 with fail
  obtain ⟨U0, hU⟩ : ∃ U, U = (w.alloc (.cells #[.int .i64 N.k, .slice N.r1 N.r2 N.r3, .int .i64 N.a2, .slice N.s1 N.s2 N.s3, .int .i64 N.a4, .int .i64 N.a5, .bool N.a6, .int .i64 N.a7, .string N.a8] 25)).alloc (.cells #[.int .i64 N2.k, .slice N2.r1 N2.r2 N2.r3, .int .i64 N2.a2, .slice N2.s1 N2.s2 N2.s3, .int .i64 N2.a4, .int .i64 N2.a5, .bool N2.a6, .int .i64 N2.a7, .string N2.a8] 25) := ⟨_, rfl⟩
  rw [← hU]
  have HB0 : Hid (Below w.heap.size w U0) := by rw [hU]; exact below_two' w _ _
  have HXx0 : Hid (BxN U0 w.heap.size N) := by rw [hU]; exact (heap_alloc_old _ _ (by simp)).trans (heap_alloc_new w _)
  have HXy0 : Hid (BxN U0 (w.heap.size + 1) N2) := by rw [hU]; exact two_new w _ _ _
  have HTx0 : Hid (TI U0 w.heap.size N t) := h.kept (fun b hb => HB0.out.block b hb)
  have HTy0 : Hid (TI U0 w.heap.size N2 u) := h2.kept (fun b hb => HB0.out.block b hb)
  clear hU h h2
  obtain ⟨y, hy⟩ : ∃ y, y = w.heap.size + 1 := ⟨_, rfl⟩
  rw [← hy] at HXy0 ⊢
  obtain ⟨x, hx⟩ : ∃ x, x = w.heap.size := ⟨_, rfl⟩
  rw [← hx] at HB0 HXx0 HTx0 HTy0 hy ⊢
  have HXE := hid hx
  have hxy : x < y := by omega
  clear hx hy
  have hsz0 : y < U0.heap.size := lt_of_block HXy0.out
  have HC := deep10 (HTx0.out.le (by omega))
  rw [decide_eq_false (by omega)] at HC
  obtain ⟨ao0, ao1, ao2, ao3, ao4, ao5, ao6, ao7, ao8⟩ := nine' HXx0.out
  go_upto_region 2 with (go_at_call 7; (with_reducible refine HC.mono ?_); rintro e U1 ⟨rfl, hb⟩; have HBS := hid (Chs.of_below (A := No) hb); clear hb HC)
  clear ao0 ao1 ao2 ao3 ao4 ao5 ao6 ao7 ao8
  have HXx1 : Hid (BxN U1 x N) := bxc HBS.out HXx0.out (fun h => h)
  have HXy1 : Hid (BxN U1 y N2) := bxc HBS.out HXy0.out (fun h => h)
  have HTx1 : Hid (TI U1 x N t) := tic HBS.out HTx0.out (by omega) (fun _ h => h.elim)
  have HTy1 : Hid (TI U1 x N2 u) := tic HBS.out HTy0.out (by omega) (fun _ h => h.elim)
  have HB1 : Hid (Below x w U1) := blc HBS.out HB0.out (by omega) (fun b h => by exact h.elim)
  have hsz1 : y < U1.heap.size := Nat.lt_of_lt_of_le hsz0 HBS.out.size
  clear HB0 hsz0 HBS HXx0 HXy0 HTx0 HTy0
  have HC := deep10 (HTy1.out.le (by omega))
  rw [decide_eq_true hd2] at HC
  obtain ⟨ao0, ao1, ao2, ao3, ao4, ao5, ao6, ao7, ao8⟩ := nine' HXy1.out
  go_wp2_with (first | (go_at_call 7; (with_reducible refine HC.mono ?_); rintro e U99 ⟨rfl, hb⟩; have HBS := hid (Chs.of_below (A := No) hb); clear hb HC))
  go_ret
  refine ⟨rfl, ?_⟩
  rw [← HXE.out]
  exact blc HBS.out HB1.out (by omega) (fun b h => h.elim)
set_option maxRecDepth 100000 in
set_option maxHeartbeats 32000000 in
theorem says3_great {w : World} {N N2 : Nv} {t u : Tn} (h : TI w w.heap.size N t) (h2 : TI w w.heap.size N2 u) (hsm : t.small = true) (hsm2 : u.small = true) (hd : t.nodes ≤ 4194304) (hd2 : u.nodes ≤ 4194304) (hg : 200000 < t.nodes) : Calls Try.prog 3 #[N.v, N2.v] w fun e w' => e = .returned (.bool true) ∧ Below w.heap.size w w' := by
  go_enter Try.func3, Try.ntmps3
  go_upto_region 1 with fail
  obtain ⟨U0, hU⟩ : ∃ U, U = (w.alloc (.cells #[.int .i64 N.k, .slice N.r1 N.r2 N.r3, .int .i64 N.a2, .slice N.s1 N.s2 N.s3, .int .i64 N.a4, .int .i64 N.a5, .bool N.a6, .int .i64 N.a7, .string N.a8] 25)).alloc (.cells #[.int .i64 N2.k, .slice N2.r1 N2.r2 N2.r3, .int .i64 N2.a2, .slice N2.s1 N2.s2 N2.s3, .int .i64 N2.a4, .int .i64 N2.a5, .bool N2.a6, .int .i64 N2.a7, .string N2.a8] 25) := ⟨_, rfl⟩
  rw [← hU]
  have HB0 : Hid (Below w.heap.size w U0) := by rw [hU]; exact below_two' w _ _
  have HXx0 : Hid (BxN U0 w.heap.size N) := by rw [hU]; exact (heap_alloc_old _ _ (by simp)).trans (heap_alloc_new w _)
  have HXy0 : Hid (BxN U0 (w.heap.size + 1) N2) := by rw [hU]; exact two_new w _ _ _
  have HTx0 : Hid (TI U0 w.heap.size N t) := h.kept (fun b hb => HB0.out.block b hb)
  have HTy0 : Hid (TI U0 w.heap.size N2 u) := h2.kept (fun b hb => HB0.out.block b hb)
  clear hU h h2
  obtain ⟨y, hy⟩ : ∃ y, y = w.heap.size + 1 := ⟨_, rfl⟩
  rw [← hy] at HXy0 ⊢
  obtain ⟨x, hx⟩ : ∃ x, x = w.heap.size := ⟨_, rfl⟩
  rw [← hx] at HB0 HXx0 HTx0 HTy0 hy ⊢
  have HXE := hid hx
  have hxy : x < y := by omega
  clear hx hy
  have hsz0 : y < U0.heap.size := lt_of_block HXy0.out
  have HC := deep10 (HTx0.out.le (by omega))
  rw [decide_eq_false (by omega)] at HC
  obtain ⟨ao0, ao1, ao2, ao3, ao4, ao5, ao6, ao7, ao8⟩ := nine' HXx0.out
  go_upto_region 2 with (go_at_call 7; (with_reducible refine HC.mono ?_); rintro e U1 ⟨rfl, hb⟩; have HBS := hid (Chs.of_below (A := No) hb); clear hb HC)
  clear ao0 ao1 ao2 ao3 ao4 ao5 ao6 ao7 ao8
  have HXx1 : Hid (BxN U1 x N) := bxc HBS.out HXx0.out (fun h => h)
  have HXy1 : Hid (BxN U1 y N2) := bxc HBS.out HXy0.out (fun h => h)
  have HTx1 : Hid (TI U1 x N t) := tic HBS.out HTx0.out (by omega) (fun _ h => h.elim)
  have HTy1 : Hid (TI U1 x N2 u) := tic HBS.out HTy0.out (by omega) (fun _ h => h.elim)
  have HB1 : Hid (Below x w U1) := blc HBS.out HB0.out (by omega) (fun b h => by exact h.elim)
  have hsz1 : y < U1.heap.size := Nat.lt_of_lt_of_le hsz0 HBS.out.size
  clear HB0 hsz0 HBS HXx0 HXy0 HTx0 HTy0
  have HC := deep10 (HTy1.out.le (by omega))
  rw [decide_eq_false (by omega)] at HC
  obtain ⟨ao0, ao1, ao2, ao3, ao4, ao5, ao6, ao7, ao8⟩ := nine' HXy1.out
  go_upto_region 5 with (go_at_call 7; (with_reducible refine HC.mono ?_); rintro e U2 ⟨rfl, hb⟩; have HBS := hid (Chs.of_below (A := No) hb); clear hb HC)
  clear ao0 ao1 ao2 ao3 ao4 ao5 ao6 ao7 ao8
  have HXx2 : Hid (BxN U2 x N) := bxc HBS.out HXx1.out (fun h => h)
  have HXy2 : Hid (BxN U2 y N2) := bxc HBS.out HXy1.out (fun h => h)
  have HTx2 : Hid (TI U2 x N t) := tic HBS.out HTx1.out (by omega) (fun _ h => h.elim)
  have HTy2 : Hid (TI U2 x N2 u) := tic HBS.out HTy1.out (by omega) (fun _ h => h.elim)
  have HB2 : Hid (Below x w U2) := blc HBS.out HB1.out (by omega) (fun b h => by exact h.elim)
  have hsz2 : y < U2.heap.size := Nat.lt_of_lt_of_le hsz1 HBS.out.size
  clear HB1 hsz1 HBS HXx1 HXy1 HTx1 HTy1
  have HC := heavy8 (HTx2.out.le (by omega)) hsm
  obtain ⟨ao0, ao1, ao2, ao3, ao4, ao5, ao6, ao7, ao8⟩ := nine' HXx2.out
  go_upto_region 6 with (go_at_call 8; (with_reducible refine HC.mono ?_); rintro e U3 ⟨h1, rfl, hb⟩; have HBS := hid (Chs.of_below (A := No) hb); clear hb HC)
  clear ao0 ao1 ao2 ao3 ao4 ao5 ao6 ao7 ao8
  have HXx3 : Hid (BxN U3 x N) := bxc HBS.out HXx2.out (fun h => h)
  have HXy3 : Hid (BxN U3 y N2) := bxc HBS.out HXy2.out (fun h => h)
  have HTx3 : Hid (TI U3 x N t) := tic HBS.out HTx2.out (by omega) (fun _ h => h.elim)
  have HTy3 : Hid (TI U3 x N2 u) := tic HBS.out HTy2.out (by omega) (fun _ h => h.elim)
  have HB3 : Hid (Below x w U3) := blc HBS.out HB2.out (by omega) (fun b h => by exact h.elim)
  have hsz3 : y < U3.heap.size := Nat.lt_of_lt_of_le hsz2 HBS.out.size
  clear HB2 hsz2 HBS HXx2 HXy2 HTx2 HTy2
  have HC := heavy8 (HTy3.out.le (by omega)) hsm2
  obtain ⟨ao0, ao1, ao2, ao3, ao4, ao5, ao6, ao7, ao8⟩ := nine' HXy3.out
  go_upto_region 7 with (go_at_call 8; (with_reducible refine HC.mono ?_); rintro e U4 ⟨h2, rfl, hb⟩; have HBS := hid (Chs.of_below (A := No) hb); clear hb HC)
  clear ao0 ao1 ao2 ao3 ao4 ao5 ao6 ao7 ao8
  have HXx4 : Hid (BxN U4 x N) := bxc HBS.out HXx3.out (fun h => h)
  have HXy4 : Hid (BxN U4 y N2) := bxc HBS.out HXy3.out (fun h => h)
  have HTx4 : Hid (TI U4 x N t) := tic HBS.out HTx3.out (by omega) (fun _ h => h.elim)
  have HTy4 : Hid (TI U4 x N2 u) := tic HBS.out HTy3.out (by omega) (fun _ h => h.elim)
  have HB4 : Hid (Below x w U4) := blc HBS.out HB3.out (by omega) (fun b h => by exact h.elim)
  have hsz4 : y < U4.heap.size := Nat.lt_of_lt_of_le hsz3 HBS.out.size
  clear HB3 hsz3 HBS HXx3 HXy3 HTx3 HTy3
  by_cases hh : h1 = true ∨ h2 = true
  · have hor : (if h1 = true then true else h2) = true := by rcases hh with h | h <;> simp [h]
    cases h1 <;> cases h2 <;> simp at hh
    all_goals
      go_wp2
      go_ret
      refine ⟨rfl, ?_⟩
      rw [← HXE.out]
      exact HB4.out
  obtain ⟨rfl, rfl⟩ : h1 = false ∧ h2 = false := by cases h1 <;> cases h2 <;> simp at hh ⊢
  clear hh
  go_upto_region 9 with fail
  have HC := awake9 U4
  go_upto_region 10 with (go_at_call 9; (with_reducible refine HC.mono ?_); rintro e U5 ⟨rfl, hb⟩; have HBS := hid (Chs.of_below (A := No) hb); clear hb HC)
  have HXx5 : Hid (BxN U5 x N) := bxc HBS.out HXx4.out (fun h => h)
  have HXy5 : Hid (BxN U5 y N2) := bxc HBS.out HXy4.out (fun h => h)
  have HTx5 : Hid (TI U5 x N t) := tic HBS.out HTx4.out (by omega) (fun _ h => h.elim)
  have HTy5 : Hid (TI U5 x N2 u) := tic HBS.out HTy4.out (by omega) (fun _ h => h.elim)
  have HB5 : Hid (Below x w U5) := blc HBS.out HB4.out (by omega) (fun b h => by exact h.elim)
  have hsz5 : y < U5.heap.size := Nat.lt_of_lt_of_le hsz4 HBS.out.size
  clear HB4 hsz4 HBS HXx4 HXy4 HTx4 HTy4
  have HC := great14 (HTx5.out.le (by omega))
  rw [decide_eq_true hg] at HC
  obtain ⟨ao0, ao1, ao2, ao3, ao4, ao5, ao6, ao7, ao8⟩ := nine' HXx5.out
  go_upto_region 12 with (go_at_call 10; (with_reducible refine HC.mono ?_); rintro e U6 ⟨rfl, hb⟩; have HBS := hid (Chs.of_below (A := No) hb); clear hb HC)
  clear ao0 ao1 ao2 ao3 ao4 ao5 ao6 ao7 ao8
  have HXx6 : Hid (BxN U6 x N) := bxc HBS.out HXx5.out (fun h => h)
  have HXy6 : Hid (BxN U6 y N2) := bxc HBS.out HXy5.out (fun h => h)
  have HTx6 : Hid (TI U6 x N t) := tic HBS.out HTx5.out (by omega) (fun _ h => h.elim)
  have HTy6 : Hid (TI U6 x N2 u) := tic HBS.out HTy5.out (by omega) (fun _ h => h.elim)
  have HB6 : Hid (Below x w U6) := blc HBS.out HB5.out (by omega) (fun b h => by exact h.elim)
  have hsz6 : y < U6.heap.size := Nat.lt_of_lt_of_le hsz5 HBS.out.size
  clear HB5 hsz5 HBS HXx5 HXy5 HTx5 HTy5
  have hns : t.sound = false := by
    cases hs : t.sound with
    | false => rfl
    | true => simp only [Tn.sound, Bool.and_eq_true, decide_eq_true_eq] at hs; omega
  have herr : errS t = 50 := by unfold errS; rw [hns]; rfl
  have hsz0 : sizeT t = 0 := by unfold sizeT; rw [hns]; rfl
  have HC := simplify11 (HTx6.out.le (by omega))
  rw [herr] at HC
  obtain ⟨ao0, ao1, ao2, ao3, ao4, ao5, ao6, ao7, ao8⟩ := nine' HXx6.out
  go_upto_region 13 with (go_at_call 11; (with_reducible refine HC.mono ?_); rintro e W9 ⟨M9, rfl, AA, hTO, hAA, hb⟩; have HBW := hid hb; clear hb HC hTO hAA)
  clear ao0 ao1 ao2 ao3 ao4 ao5 ao6 ao7 ao8
  obtain ⟨U7, hU⟩ : ∃ U, U = W9.alloc (.cells #[.int .i64 M9.k, .slice M9.r1 M9.r2 M9.r3, .int .i64 M9.a2, .slice M9.s1 M9.s2 M9.s3, .int .i64 M9.a4, .int .i64 M9.a5, .bool M9.a6, .int .i64 M9.a7, .string M9.a8] 25) := ⟨_, rfl⟩
  rw [← hU]
  have HBS : Hid (Chs No U6 U7) := by rw [hU]; exact Chs.of_below (HBW.out.alloc HBW.out.size _)
  clear hU HBW
  have HXx7 : Hid (BxN U7 x N) := bxc HBS.out HXx6.out (fun h => h)
  have HXy7 : Hid (BxN U7 y N2) := bxc HBS.out HXy6.out (fun h => h)
  have HTx7 : Hid (TI U7 x N t) := tic HBS.out HTx6.out (by omega) (fun _ h => h.elim)
  have HTy7 : Hid (TI U7 x N2 u) := tic HBS.out HTy6.out (by omega) (fun _ h => h.elim)
  have HB7 : Hid (Below x w U7) := blc HBS.out HB6.out (by omega) (fun b h => by exact h.elim)
  have hsz7 : y < U7.heap.size := Nat.lt_of_lt_of_le hsz6 HBS.out.size
  clear HB6 hsz6 HBS HXx6 HXy6 HTx6 HTy6
  have HC := size12 (HTx7.out.le (by omega))
  rw [hsz0] at HC
  obtain ⟨ao0, ao1, ao2, ao3, ao4, ao5, ao6, ao7, ao8⟩ := nine' HXx7.out
  go_wp2_with (first | (go_at_call 12; (with_reducible refine HC.mono ?_); rintro e U99 ⟨rfl, hb⟩; have HBS := hid (Chs.of_below (A := No) hb); clear hb HC))
  go_ret
  refine ⟨rfl, ?_⟩
  rw [← HXE.out]
  exact blc HBS.out HB7.out (by omega) (fun b h => h.elim)
theorem says3 {w : World} {N N2 : Nv} {t u : Tn} (h : TI w w.heap.size N t) (h2 : TI w w.heap.size N2 u) (hsm : t.small = true) (hsm2 : u.small = true) : Calls Try.prog 3 #[N.v, N2.v] w fun e w' => e = .returned (.bool true) ∧ Below w.heap.size w w' := by
  by_cases h3 : 4194304 < t.nodes
  · exact says3_deep1 h h2 hsm hsm2 h3
  by_cases h4 : 4194304 < u.nodes
  · exact says3_deep2 h h2 hsm hsm2 (by omega) h4
  by_cases h5 : 200000 < t.nodes
  · exact says3_great h h2 hsm hsm2 (by omega) (by omega) h5
  by_cases h6 : 200000 < u.nodes
  · exact says3_huge h h2 hsm hsm2 (by omega) (by omega) h6
  · exact says3_small h h2 hsm hsm2 (by omega) (by omega) (by omega)
end Go.Proofs.Ytdidopgenhpakaa
namespace Go.Proofs.Ytdidopgenhpakaa
open Go.ChangeShapes Go.WideShapes Go.ChangeAt Go.RowKit
set_option linter.unusedVariables false
set_option linter.unusedSimpArgs false
set_option maxRecDepth 100000 in
theorem saysLifted (os : Os) (started : os.Started) (H : Type) (enc : TypeId × Value → H) :
    ReturnsInHanded {} Try.checked os 3 .any (Rows.simplifySaysSpec.pre6 enc Try.prog Try.f3 Rows.simplifySaysRow.domain false) (Rows.simplifySaysSpec.post enc Try.prog Try.f3 false true false false) := by
  refine returnsInHanded_of_change_sized (C := Try.checked) ownB started (by kernel_rfl) Try.func3
    (ChangeSpec.witness6 (enc := enc) (C := Try.checked) false ⟨#[], #[.agg #[.int .i64 0, .slice none 0 0, .int .i64 0, .slice none 0 0, .int .i64 0, .int .i64 0, .bool false, .int .i64 0, .string ⟨#[]⟩], .agg #[.int .i64 0, .slice none 0 0, .int .i64 0, .slice none 0 0, .int .i64 0, .int .i64 0, .bool false, .int .i64 0, .string ⟨#[]⟩]], []⟩ 8 (by kernel_rfl) (by kernel_rfl) (by kernel_rfl) (by kernel_rfl)) ?_
  intro W base args ds gs before hval0 hW hcnd0 hsz0 hholds
  have hval : ∀ (j : Nat) t v, Try.f3.params[j]? = some t → args[j]? = some v → Value.okWide Try.prog W .any base t v := hval0
  have hW' := hW
  obtain ⟨p, q, hA0, hV, rfl, hfz, hnd⟩ := hW
  have hA : DataW.TrodAll enc Try.prog W 0 (fun _ => true) true Try.f3.params.toList args.toList ds p := hA0
  have hsz : ∀ n ∈ DataW.weightsEach Try.prog (Try.f3.params.toList ++ Rows.simplifySaysSpec.plain.varTypes Try.prog) (ds ++ gs), n ≤ reachBytes := fun n hn => by simpa using List.all_eq_true.1 hsz0 n hn
  rw [Try.params3] at hA hval hsz
  obtain ⟨v0, vs0, d0, ds0, p0, q0, hargs, rfl, rfl, h0, r0⟩ := trodAll_cons hA
  obtain ⟨v1, vs1, d1, ds1, p1, q1, rfl, rfl, rfl, h1, r1⟩ := trodAll_cons r0
  obtain ⟨rfl, rfl, rfl⟩ := trodAll_nil r1
  obtain rfl : args = #[v0, v1] := by cases args; simp_all
  obtain ⟨rfl, rfl⟩ := trodVars_none hV
  have hlt0 : ∀ x ∈ p0, x.block < W.heap.size := fun x hx => by have := hW'.lt x (by simp [hx]); simpa using this
  have hlt1 : ∀ x ∈ p1, x.block < W.heap.size := fun x hx => by have := hW'.lt x (by simp [hx]); simpa using this
  obtain ⟨N, t, rfl, hT, hS⟩ := node_argS (hval 0 25 v0 rfl rfl) h0 (fun n hn => hsz n (DataW.weights_mem_each (j := 0) (by simp) (by simp) n hn))
  obtain ⟨N2, u, rfl, hT2, hS2⟩ := node_argS (hval 1 25 v1 rfl rfl) h1 (fun n hn => hsz n (DataW.weights_mem_each (j := 1) (by simp) (by simp) n hn))
  clear hA0 hval0
  refine (says3 hT hT2 hS hS2).mono fun e W' ⟨he, hb⟩ => ?_
  subst he
  exact ⟨_, rfl, _, _, _, [], p0 ++ (p1 ++ []), [], hW', trodAll_cons_mk (shut_bool Try.underlying4 _) trodAll_mk0, trodAll_cons_mk (Below.trod laidOut (by kernel_rfl) (of_decide_eq_true (by kernel_rfl)) h0 hb hlt0) (trodAll_cons_mk (Below.trod laidOut (by kernel_rfl) (of_decide_eq_true (by kernel_rfl)) h1 hb hlt1) trodAll_mk0), rfl, hb.frame _, fun h => by cases h⟩
theorem simplifySays_holds : Rows.SimplifySaysSaid :=
  OpenClaim.holds_of_wide 3 Try.f3 rfl rfl rfl rfl rfl rfl rfl ⟨rfl, rfl, rfl, rfl, rfl⟩ rfl rfl rfl rfl rfl (by kernel_rfl) Try.func3 (by kernel_rfl)
    (of_decide_eq_true (by kernel_rfl)) (by unfold Func.isWrapper; first | (rw [if_pos (by decide +kernel)]; kernel_rfl) | (rw [if_neg (by decide +kernel)]; exact ⟨rfl, rfl⟩))
    (fun os started H enc _ => saysLifted os started H enc)
end Go.Proofs.Ytdidopgenhpakaa
