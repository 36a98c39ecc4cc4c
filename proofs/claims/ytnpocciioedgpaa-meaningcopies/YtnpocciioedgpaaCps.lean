/- PROVED: the law MeaningCopies of layer 6 answers true for every tree, text and place, and both read afterwards as they read before: a tree and its unfolded form, written as a tree, have the same parses.
   CONDITIONS: none but the form's own (each slice and string at most 2^47 - 4096 bytes). -/
import Derived.Test.YtnpocciioedgpaaK09
import Derived.Test.YtnpocciioedgpaaRows
import Derived.OpenShut
import Derived.SizedLaws
import Derived.Lib.SmallJoins
/- HELPERS: the law MeaningCopies walked. -/
namespace Go.Proofs.Ytnpocciioedgpaa
open Go.RowKit
set_option linter.unusedVariables false
set_option linter.unusedSimpArgs false
theorem PreL.get : ∀ {l l' : List (Int × List Int)}, PreL l l' → l.length = l'.length ∧ ∀ i (h : i < l.length) (h' : i < l'.length), l[i].1 = l'[i].1 ∧ Pre l[i].2 l'[i].2
  | [], [], _ => ⟨rfl, fun i h => by simp at h⟩
  | e :: l, e' :: l', h => by
    obtain ⟨h1, h2, h3⟩ := h
    obtain ⟨q1, q2⟩ := PreL.get h3
    refine ⟨by simp [q1], fun i hi hi' => ?_⟩
    cases i with
    | zero => exact ⟨h1, h2⟩
    | succ i => exact q2 i (by simpa using hi) (by simpa using hi')
  | [], _ :: _, h => h.elim
  | _ :: _, [], h => h.elim
/-- what is told of a tree's parses and of its unfolded form's -/
theorem PS.copies {t : Tn} {G G' : Nat} {tx : List Int} {p : Nat} {l m : List (Int × List Int)} (hf : t.fine = true) (hu : t.spread.fine = true) (hG : t.spread.gi = (G : Int)) (hG' : t.gi = (G' : Int)) (h : PS t (2 * G' + 2) tx p l) (h' : PS t.spread (2 * G + 2) tx p m) :
    m.length = l.length ∧ G ≤ G' ∧ ∀ i (h : i < l.length) (h' : i < m.length), m[i].1 = l[i].1 ∧ l[i].2.length = 2 * G' + 2 ∧ m[i].2.length = 2 * G + 2 ∧ (∀ k, k < 2 * G + 2 → m[i].2.getD k 0 = l[i].2.getD k 0) ∧ ∀ k, 2 * G + 2 ≤ k → k < 2 * G' + 2 → l[i].2.getD k 0 = -1 := by
  obtain ⟨s1, s2⟩ := spread_gi t hf (G' : Int) (by omega)
  obtain ⟨_, s3⟩ := spread_gi t hf (G : Int) (by omega)
  have hGG : G ≤ G' := by have := s1 (by omega); omega
  have hef := s3 (by omega)
  rw [show (2 * (G : Int) + 2).toNat = 2 * G + 2 by omega] at hef
  have hun := h.unset (by omega) hef
  have hw := h.within (by omega) (t.fine_from1 hf)
  have hw' := h'.within (by omega) (t.spread.fine_from1 hu)
  obtain ⟨q1, q2⟩ := (PS.spread (by omega) h' h).get
  refine ⟨q1, hGG, fun i hi hi' => ?_⟩
  obtain ⟨r1, r2, r3⟩ := q2 i hi' hi
  have e1 := (hw l[i] (List.getElem_mem hi)).len
  have e2 := (hw' m[i] (List.getElem_mem hi')).len
  refine ⟨r1, e1, e2, fun k hk => ?_, fun k hk hk' => ?_⟩
  · have := r3 k (by omega)
    simp only [List.getD_eq_getElem?_getD, this]
  · have := hun l[i] (List.getElem_mem hi) k hk
    simp only [List.getD_eq_getElem?_getD, List.getElem?_eq_getElem (show k < l[i].2.length by omega), Option.getD_some] at this ⊢
    exact this
set_option maxRecDepth 100000 in
set_option maxHeartbeats 4000000 in
theorem copies7_out (N : Nv) (t : Tn) (tx : List Int) (ad : Option Addr) (tn tcap : Nat) (at_ : Int) (w : World) (hTI : TI w w.heap.size N t) (htx : Look.TextAt w.heap.size w ad tn tx) (htc : tn ≤ tcap) (hout : mayB t tn at_ = false) :
    Calls Try.prog 7 #[N.v, .agg #[.slice ad tn tcap, .int .i64 at_]] w fun e w' => e = .returned (.bool true) ∧ Below w.heap.size w w' := by
  obtain ⟨W0, hW0⟩ : ∃ W0, W0 = (w.alloc N.ob).alloc (Xob ad tn tcap at_) := ⟨_, rfl⟩
  have hq := boxes (tcap := tcap) (at_ := at_) hTI htx
  rw [← hW0] at hq
  have hs0 : W0.heap.size = w.heap.size + 1 + 1 := by rw [hW0]; simp
  have HB0 : Hid (Below (w.heap.size + 1 + 1) W0 W0) := Below.refl _ _
  have htm : tn ≤ 35184372088832 := htx.2.1
  have c10 : ∀ W, Below (w.heap.size + 1 + 1) W0 W → Calls Try.prog 10 #[N.v] W fun e w' => e = .returned (.bool (decide (4194304 < t.nodes))) ∧ Below W.heap.size W w' := fun W hB => deep10 (hq W hB).2.2.1
  have c11 : ∀ W, Below (w.heap.size + 1 + 1) W0 W → Calls Try.prog 11 #[N.v, .slice ad tn tcap] W fun e w' => e = .returned (.bool (muchB t tn)) ∧ Below W.heap.size W w' := fun W hB => much11 N t ad tn tcap W (hq W hB).2.2.1 htm
  have c12 : ∀ W, Below (w.heap.size + 1 + 1) W0 W → Calls Try.prog 12 #[N.v, .agg #[.slice ad tn tcap, .int .i64 at_]] W fun e w' => e = .returned (.bool (mayB t tn at_)) ∧ Below W.heap.size W w' := fun W hB => may12 N t ad tn tcap at_ W (hq W hB).2.2.1 htm
  rw [hout] at c12
  obtain ⟨dp, hdp⟩ : ∃ dp, dp = decide (4194304 < t.nodes) := ⟨_, rfl⟩
  obtain ⟨mu, hmu⟩ : ∃ mu, mu = muchB t tn := ⟨_, rfl⟩
  rw [← hdp] at c10
  rw [← hmu] at c11
  clear hdp hmu hout
  obtain ⟨k, r1, r2, r3, a2, s1, s2, s3, a4, a5, a6, a7, a8⟩ := N
  dsimp only at hq c10 c11 c12
  have hx : ∀ W, Below (w.heap.size + 1 + 1) W0 W → Below w.heap.size w W := fun W hB => (hq W hB).2.2.2.2
  have HX := hid hx
  have HQ := hid hq
  have HC10 := hid c10
  have HC11 := hid c11
  have HC12 := hid c12
  clear hTI htx hq c10 c11 c12 hx
  go_enter Try.func7, Try.ntmps7
  go_upto_region 1 with fail
  rw [← hW0]
  clear hW0
  obtain ⟨⟨o0, o1, o2, o3, o4, o5, o6, o7, o8⟩, ⟨y0, y1⟩, _⟩ := HQ.out W0 HB0.out
  have HC := HC10.out W0 HB0.out
  cases dp with
  | true =>
    go_wp2_with (first | (go_at_call 10; (with_reducible refine HC.mono ?_); rintro e w1 ⟨rfl, hb1⟩; have HB1 : Hid (Below (w.heap.size + 1 + 1) W0 w1) := HB0.out.trans (Joins.below_le hb1 (by omega)); clear hb1 HC))
    go_ret
    exact ⟨rfl, HX.out _ HB1.out⟩
  | false =>
  go_upto_region 4 with (first | (go_at_call 10; (with_reducible refine HC.mono ?_); rintro e w1 ⟨rfl, hb1⟩; have HB1 : Hid (Below (w.heap.size + 1 + 1) W0 w1) := HB0.out.trans (Joins.below_le hb1 (by omega)); clear hb1 HC o0 o1 o2 o3 o4 o5 o6 o7 o8 y0 y1))
  have hs1' : W0.heap.size ≤ w1.heap.size := HB1.out.size
  obtain ⟨⟨o0, o1, o2, o3, o4, o5, o6, o7, o8⟩, ⟨y0, y1⟩, _⟩ := HQ.out w1 HB1.out
  have HC := HC11.out w1 HB1.out
  cases mu with
  | true =>
    go_wp2_with (first | (go_at_call 11; (with_reducible refine HC.mono ?_); rintro e w2 ⟨rfl, hb2⟩; have HB2 : Hid (Below (w.heap.size + 1 + 1) W0 w2) := HB1.out.trans (Joins.below_le hb2 (by omega)); clear hb2 HC))
    go_ret
    exact ⟨rfl, HX.out _ HB2.out⟩
  | false =>
  go_upto_region 7 with (first | (go_at_call 11; (with_reducible refine HC.mono ?_); rintro e w2 ⟨rfl, hb2⟩; have HB2 : Hid (Below (w.heap.size + 1 + 1) W0 w2) := HB1.out.trans (Joins.below_le hb2 (by omega)); clear hb2 HC o0 o1 o2 o3 o4 o5 o6 o7 o8 y0 y1))
  have hs2' : W0.heap.size ≤ w2.heap.size := HB2.out.size
  obtain ⟨⟨o0, o1, o2, o3, o4, o5, o6, o7, o8⟩, ⟨y0, y1⟩, _⟩ := HQ.out w2 HB2.out
  have HC := awake8 w2
  go_upto_region 8 with (first | (go_at_call 8; (with_reducible refine HC.mono ?_); rintro e w3 ⟨rfl, hb3⟩; have HB3 : Hid (Below (w.heap.size + 1 + 1) W0 w3) := HB2.out.trans (Joins.below_le hb3 (by omega)); clear hb3 HC o0 o1 o2 o3 o4 o5 o6 o7 o8 y0 y1))
  have hs3' : W0.heap.size ≤ w3.heap.size := HB3.out.size
  obtain ⟨⟨o0, o1, o2, o3, o4, o5, o6, o7, o8⟩, ⟨y0, y1⟩, _⟩ := HQ.out w3 HB3.out
  have HC := HC12.out w3 HB3.out
  go_wp2_with (first | (go_at_call 12; (with_reducible refine HC.mono ?_); rintro e w4 ⟨rfl, hb4⟩; have HB4 : Hid (Below (w.heap.size + 1 + 1) W0 w4) := HB3.out.trans (Joins.below_le hb4 (by omega)); clear hb4 HC))
  go_ret
  exact ⟨rfl, HX.out _ HB4.out⟩
set_option maxRecDepth 100000 in
set_option maxHeartbeats 8000000 in
theorem copies7_in (N : Nv) (t : Tn) (tx : List Int) (ad : Option Addr) (tn tcap : Nat) (at_ : Int) (w : World) (hTI : TI w w.heap.size N t) (htx : Look.TextAt w.heap.size w ad tn tx) (htc : tn ≤ tcap) (hin : mayB t tn at_ = true) :
    Calls Try.prog 7 #[N.v, .agg #[.slice ad tn tcap, .int .i64 at_]] w fun e w' => e = .returned (.bool true) ∧ Below w.heap.size w w' := by
  obtain ⟨hsd, hsz, htn, ha0, ha1⟩ := mayB_parts hin
  obtain ⟨hfine, _, hnod⟩ := sound_parts hsd
  obtain ⟨W0, hW0⟩ : ∃ W0, W0 = (w.alloc N.ob).alloc (Xob ad tn tcap at_) := ⟨_, rfl⟩
  have hq := boxes (tcap := tcap) (at_ := at_) hTI htx
  rw [← hW0] at hq
  have hs0 : W0.heap.size = w.heap.size + 1 + 1 := by rw [hW0]; simp
  have HB0 : Hid (Below (w.heap.size + 1 + 1) W0 W0) := Below.refl _ _
  have htm : tn ≤ 35184372088832 := htx.2.1
  have c10 : ∀ W, Below (w.heap.size + 1 + 1) W0 W → Calls Try.prog 10 #[N.v] W fun e w' => e = .returned (.bool false) ∧ Below W.heap.size W w' := fun W hB => by have h := deep10 (hq W hB).2.2.1; rw [decide_eq_false (by omega)] at h; exact h
  have c11 : ∀ W, Below (w.heap.size + 1 + 1) W0 W → Calls Try.prog 11 #[N.v, .slice ad tn tcap] W fun e w' => e = .returned (.bool (muchB t tn)) ∧ Below W.heap.size W w' := fun W hB => much11 N t ad tn tcap W (hq W hB).2.2.1 htm
  have c12 : ∀ W, Below (w.heap.size + 1 + 1) W0 W → Calls Try.prog 12 #[N.v, .agg #[.slice ad tn tcap, .int .i64 at_]] W fun e w' => e = .returned (.bool true) ∧ Below W.heap.size W w' := fun W hB => by have h := may12 N t ad tn tcap at_ W (hq W hB).2.2.1 htm; rw [hin] at h; exact h
  have c13t : ∀ W, Below (w.heap.size + 1 + 1) W0 W → Calls Try.prog 13 #[N.v, .slice ad tn tcap, .int .i64 at_] W fun e w' => ∃ (a : Option Addr) (c : Nat) (l : List (Int × List Int)), e = .returned (.tuple #[.slice a l.length c, .int .i64 0]) ∧ Parsed W.heap.size w' (.slice a l.length c) l ∧ PS t t.notes tx at_.toNat l ∧ l.length ≤ 65 ∧ Below W.heap.size W w' := fun W hB => parses13ok (hq W hB).2.2.1 (hq W hB).2.2.2.1 htc (errP_zero hin hsd (Nat.le_refl _))
  have c17 : ∀ W, Below (w.heap.size + 1 + 1) W0 W → Calls Try.prog 17 #[N.v] W fun e w' => ∃ M : Nv, e = .returned M.v ∧ TI w' w'.heap.size M t.spread ∧ Below W.heap.size W w' := fun W hB => by
    have h0 := (hq W hB).2.2.2.2
    refine (spread17 hTI hfine hnod W h0.size (fun b hb => h0.block b hb)).mono ?_
    rintro e w' ⟨M, rfl, hM, hb⟩
    exact ⟨M, rfl, hM.ti (fun b hb' => by have := hb.size; have := h0.size; rcases hb' with h | h <;> omega), hb⟩
  have c13u : ∀ (M : Nv) W, Below (w.heap.size + 1 + 1) W0 W → TI W W.heap.size M t.spread → Calls Try.prog 13 #[M.v, .slice ad tn tcap, .int .i64 at_] W fun e w' => Answers t.spread tx tn at_ W e w' := fun M W hB hM => parses13g M t.spread tx ad tn tcap at_ W hM (hq W hB).2.2.2.1 htc
  obtain ⟨hg0, hg1⟩ := fine_gi t hfine
  obtain ⟨G', hG'⟩ : ∃ G : Nat, t.gi = (G : Int) := ⟨t.gi.toNat, by omega⟩
  have hK' : t.notes = 2 * G' + 2 := by simp only [Tn.notes, hG']; omega
  rw [hK'] at c13t
  have hG5 : G' ≤ 500 := by omega
  obtain ⟨mu, hmu⟩ : ∃ mu, mu = muchB t tn := ⟨_, rfl⟩
  rw [← hmu] at c11
  have htl : tx.length = tn := htx.1.symm
  clear hmu
  obtain ⟨k, r1, r2, r3, a2, s1, s2, s3, a4, a5, a6, a7, a8⟩ := N
  dsimp only at hq c10 c11 c12 c13t c17
  have hx : ∀ W, Below (w.heap.size + 1 + 1) W0 W → Below w.heap.size w W := fun W hB => (hq W hB).2.2.2.2
  have hsx : ∀ W, Below (w.heap.size + 1 + 1) W0 W → W.cell? ⟨w.heap.size, 0, none⟩ = some (.int .i64 k) ∧ W.cell? ⟨w.heap.size, 1, none⟩ = some (.slice r1 r2 r3) ∧ W.cell? ⟨w.heap.size, 2, none⟩ = some (.int .i64 a2) ∧ W.cell? ⟨w.heap.size, 3, none⟩ = some (.slice s1 s2 s3) ∧ W.cell? ⟨w.heap.size, 4, none⟩ = some (.int .i64 a4) ∧ W.cell? ⟨w.heap.size, 5, none⟩ = some (.int .i64 a5) ∧ W.cell? ⟨w.heap.size, 6, none⟩ = some (.bool a6) ∧ W.cell? ⟨w.heap.size, 7, none⟩ = some (.int .i64 a7) ∧ W.cell? ⟨w.heap.size, 8, none⟩ = some (.string a8) ∧ W.cell? ⟨w.heap.size + 1, 0, none⟩ = some (.slice ad tn tcap) ∧ W.cell? ⟨w.heap.size + 1, 1, none⟩ = some (.int .i64 at_) := fun W hB => by obtain ⟨⟨o0, o1, o2, o3, o4, o5, o6, o7, o8⟩, ⟨y0, y1⟩, _⟩ := hq W hB; exact ⟨o0, o1, o2, o3, o4, o5, o6, o7, o8, y0, y1⟩
  have HX := hid hx
  have HSX := hid hsx
  have HQ := hid hq
  have HC10 := hid c10
  have HC11 := hid c11
  have HC12 := hid c12
  have HC13t := hid c13t
  have HF := hid hfine
  have HTL := hid htl
  have HC17 := hid c17
  have HC13u := hid c13u
  have HG' := hid hG'
  clear hTI htx hq c10 c11 c12 c13t hx hsx hfine htl hsd hsz hnod hin c17 c13u hK' hG' hg0 hg1
  go_enter Try.func7, Try.ntmps7
  go_upto_region 1 with fail
  rw [← hW0]
  clear hW0
  obtain ⟨⟨o0, o1, o2, o3, o4, o5, o6, o7, o8⟩, ⟨y0, y1⟩, _⟩ := HQ.out W0 HB0.out
  have HC := HC10.out W0 HB0.out
  go_upto_region 4 with (first | (go_at_call 10; (with_reducible refine HC.mono ?_); rintro e w1 ⟨rfl, hb1⟩; have HB1 : Hid (Below (w.heap.size + 1 + 1) W0 w1) := HB0.out.trans (Joins.below_le hb1 (by omega)); clear hb1 HC o0 o1 o2 o3 o4 o5 o6 o7 o8 y0 y1))
  have hs1' : W0.heap.size ≤ w1.heap.size := HB1.out.size
  obtain ⟨⟨o0, o1, o2, o3, o4, o5, o6, o7, o8⟩, ⟨y0, y1⟩, _⟩ := HQ.out w1 HB1.out
  have HC := HC11.out w1 HB1.out
  cases mu with
  | true =>
    go_wp2_with (first | (go_at_call 11; (with_reducible refine HC.mono ?_); rintro e w2 ⟨rfl, hb2⟩; have HB2 : Hid (Below (w.heap.size + 1 + 1) W0 w2) := HB1.out.trans (Joins.below_le hb2 (by omega)); clear hb2 HC))
    go_ret
    exact ⟨rfl, HX.out _ HB2.out⟩
  | false =>
  go_upto_region 7 with (first | (go_at_call 11; (with_reducible refine HC.mono ?_); rintro e w2 ⟨rfl, hb2⟩; have HB2 : Hid (Below (w.heap.size + 1 + 1) W0 w2) := HB1.out.trans (Joins.below_le hb2 (by omega)); clear hb2 HC o0 o1 o2 o3 o4 o5 o6 o7 o8 y0 y1))
  have hs2' : W0.heap.size ≤ w2.heap.size := HB2.out.size
  obtain ⟨⟨o0, o1, o2, o3, o4, o5, o6, o7, o8⟩, ⟨y0, y1⟩, _⟩ := HQ.out w2 HB2.out
  have HC := awake8 w2
  go_upto_region 8 with (first | (go_at_call 8; (with_reducible refine HC.mono ?_); rintro e w3 ⟨rfl, hb3⟩; have HB3 : Hid (Below (w.heap.size + 1 + 1) W0 w3) := HB2.out.trans (Joins.below_le hb3 (by omega)); clear hb3 HC o0 o1 o2 o3 o4 o5 o6 o7 o8 y0 y1))
  have hs3' : W0.heap.size ≤ w3.heap.size := HB3.out.size
  obtain ⟨⟨o0, o1, o2, o3, o4, o5, o6, o7, o8⟩, ⟨y0, y1⟩, _⟩ := HQ.out w3 HB3.out
  have HC := HC12.out w3 HB3.out
  go_upto_region 11 with (first | (go_at_call 12; (with_reducible refine HC.mono ?_); rintro e w4 ⟨rfl, hb4⟩; have HB4 : Hid (Below (w.heap.size + 1 + 1) W0 w4) := HB3.out.trans (Joins.below_le hb4 (by omega)); clear hb4 HC o0 o1 o2 o3 o4 o5 o6 o7 o8 y0 y1))
  have hs4' : W0.heap.size ≤ w4.heap.size := HB4.out.size
  obtain ⟨⟨o0, o1, o2, o3, o4, o5, o6, o7, o8⟩, ⟨y0, y1⟩, _⟩ := HQ.out w4 HB4.out
  have HC := HC17.out w4 HB4.out
  go_upto_region 12 with (first | (go_at_call 17; (with_reducible refine HC.mono ?_); rintro e w5 ⟨M, rfl, hTM, hb5⟩; have HB5 : Hid (Below (w.heap.size + 1 + 1) W0 w5) := HB4.out.trans (Joins.below_le hb5 (by omega)); have HTM := hid hTM; clear hb5 hTM HC o0 o1 o2 o3 o4 o5 o6 o7 o8 y0 y1))
  obtain ⟨X, hX⟩ : ∃ X, X = w5.alloc (.cells #[.int .i64 M.k, .slice M.r1 M.r2 M.r3, .int .i64 M.a2, .slice M.s1 M.s2 M.s3, .int .i64 M.a4, .int .i64 M.a5, .bool M.a6, .int .i64 M.a7, .string M.a8] 28) := ⟨_, rfl⟩
  rw [← hX]
  have hXb : Below w5.heap.size w5 X := by rw [hX]; exact Joins.below_alloc1 w5 _
  have hXs : X.heap.size = w5.heap.size + 1 := by rw [hX]; simp
  have hXn : X.heap[w5.heap.size]? = some (.cells #[.int .i64 M.k, .slice M.r1 M.r2 M.r3, .int .i64 M.a2, .slice M.s1 M.s2 M.s3, .int .i64 M.a4, .int .i64 M.a5, .bool M.a6, .int .i64 M.a7, .string M.a8] 28 (0, 0)) := by rw [hX]; exact heap_alloc_new w5 _
  have HBX : Hid (Below (w.heap.size + 1 + 1) W0 X) := HB5.out.trans (Joins.below_le hXb (by have := HB5.out.size; omega))
  have hub : ∀ W, Below X.heap.size X W → (W.cell? ⟨w5.heap.size, 0, none⟩ = some (.int .i64 M.k) ∧ W.cell? ⟨w5.heap.size, 1, none⟩ = some (.slice M.r1 M.r2 M.r3) ∧ W.cell? ⟨w5.heap.size, 2, none⟩ = some (.int .i64 M.a2) ∧ W.cell? ⟨w5.heap.size, 3, none⟩ = some (.slice M.s1 M.s2 M.s3) ∧ W.cell? ⟨w5.heap.size, 4, none⟩ = some (.int .i64 M.a4) ∧ W.cell? ⟨w5.heap.size, 5, none⟩ = some (.int .i64 M.a5) ∧ W.cell? ⟨w5.heap.size, 6, none⟩ = some (.bool M.a6) ∧ W.cell? ⟨w5.heap.size, 7, none⟩ = some (.int .i64 M.a7) ∧ W.cell? ⟨w5.heap.size, 8, none⟩ = some (.string M.a8)) ∧ TI W W.heap.size M t.spread ∧ Below (w.heap.size + 1 + 1) W0 W := fun W hW => by
    refine ⟨nine' ((hW.block _ (by omega)).trans hXn), (HTM.out.kept fun b hb => (hW.block b (by omega)).trans (hXb.block b hb)).le (by have := hW.size; omega), HBX.out.trans (Joins.below_le hW (by have := HBX.out.size; omega))⟩
  have HUB := hid hub
  have HX0 : Hid (Below X.heap.size X X) := Below.refl _ _
  obtain ⟨⟨x0, x1, x2, x3, x4, x5, x6, x7, x8⟩, hTX, _⟩ := hub X HX0.out
  have HC := sound25 hTX
  have hsX : W0.heap.size ≤ X.heap.size := HBX.out.size
  clear hX hXb hXn hub hTX HTM hXs
  obtain ⟨sv, hsv⟩ : ∃ sv : Int, sv = (if t.spread.sound then 0 else 50) := ⟨_, rfl⟩
  rw [← hsv] at HC
  have HSV := hid hsv
  clear hsv
  go_upto_region 13 with (first | (go_at_call 25; (with_reducible refine HC.mono ?_); rintro e w6 ⟨rfl, hb6⟩; have HX6 := hid hb6; clear hb6 HC x0 x1 x2 x3 x4 x5 x6 x7 x8))
  obtain ⟨_, _, hB6⟩ := HUB.out w6 HX6.out
  have HB6 := hid hB6
  clear hB6
  obtain ⟨⟨o0, o1, o2, o3, o4, o5, o6, o7, o8⟩, ⟨y0, y1⟩, _⟩ := HQ.out w6 HB6.out
  have hs6 : X.heap.size ≤ w6.heap.size := HX6.out.size
  have HC := HC13t.out w6 HB6.out
  go_upto_region 14 with (first | (go_at_call 13; (with_reducible refine HC.mono ?_); rintro e w7 ⟨la, lc, l, rfl, hPl, hSl, hLl, hb7⟩; have HX7 : Hid (Below X.heap.size X w7) := HX6.out.trans (Joins.below_le hb7 hs6); have HPl := hid hPl; have HSl := hid hSl; clear hb7 hPl hSl HC o0 o1 o2 o3 o4 o5 o6 o7 o8 y0 y1))
  obtain ⟨⟨x0, x1, x2, x3, x4, x5, x6, x7, x8⟩, hT7, hB7⟩ := HUB.out w7 HX7.out
  have HB7 := hid hB7
  have HC := HC13u.out M w7 hB7 hT7
  obtain ⟨_, ⟨y0, y1⟩, _⟩ := HQ.out w7 hB7
  have hs7 : X.heap.size ≤ w7.heap.size := HX7.out.size
  clear hB7 hT7
  go_upto_region 15 with (first | (go_at_call 13; (with_reducible refine HC.mono ?_); rintro e w8 ⟨pv, m, rfl, hPm, hSm, hNm, hb8⟩; obtain ⟨ma, mc, rfl⟩ := hPm.form; have HB8 : Hid (Below (w.heap.size + 1 + 1) W0 w8) := HB7.out.trans (Joins.below_le hb8 (by omega)); have HPl8 : Hid (Parsed w6.heap.size w8 (.slice la l.length lc) l) := HPl.out.kept hb8; have HPm := hid hPm; have HSm := hid hSm; clear hb8 hPm hSm hNm HC HPl x0 x1 x2 x3 x4 x5 x6 x7 x8 y0 y1))
  obtain ⟨f, hf⟩ : ∃ f, f = errP t.spread tn at_ := ⟨_, rfl⟩
  rw [← hf] at HSm ⊢
  have HFE := hid hf
  clear hf
  have e0 : ((0 : Int) == 0) = true := by decide
  have e0' : ((0 : Int) != 0) = false := by decide
  cases hsd : t.spread.sound with
  | false =>
    have hf50 : f = 50 := by rw [HFE.out]; unfold errP; rw [if_neg (by omega), if_pos hsd]
    have hsv50 : sv = 50 := by rw [HSV.out, hsd]; rfl
    subst hf50 hsv50
    clear hsd
    go_wp2
    go_ret
    exact ⟨by first | rfl | simp, HX.out _ HB8.out⟩
  | true =>
    have hsv0 : sv = 0 := by rw [HSV.out, hsd]; rfl
    subst hsv0
    by_cases hbig : 2000 < t.spread.sz
    · have hf3 : f = 3 := by rw [HFE.out]; unfold errP; rw [if_neg (by omega), if_neg (by simp [hsd]), if_pos hbig]
      subst hf3
      clear hsd hbig
      go_wp2
      go_ret
      exact ⟨by first | rfl | simp, HX.out _ HB8.out⟩
    · have hf0 : f = 0 := by rw [HFE.out]; unfold errP; rw [if_neg (by omega), if_neg (by simp [hsd]), if_neg hbig, if_neg (by omega)]
      subst hf0
      obtain ⟨hPS, hLm⟩ := HSm.out rfl
      obtain ⟨hfu, _, _⟩ := sound_parts hsd
      obtain ⟨hu0, hu1⟩ := fine_gi t.spread hfu
      obtain ⟨G, hG⟩ : ∃ G : Nat, t.spread.gi = (G : Int) := ⟨t.spread.gi.toNat, by omega⟩
      have hK : t.spread.notes = 2 * G + 2 := by simp only [Tn.notes, hG]; omega
      rw [hK] at hPS
      obtain ⟨hlm, hGG, hall⟩ := PS.copies HF.out hfu hG HG'.out HSl.out hPS
      obtain ⟨K, hKK⟩ : ∃ K, K = 2 * G + 2 := ⟨_, rfl⟩
      obtain ⟨K', hKK'⟩ : ∃ K, K = 2 * G' + 2 := ⟨_, rfl⟩
      rw [← hKK, ← hKK'] at hall
      have hKle : K ≤ K' := by omega
      have hK2 : 2 ≤ K := by omega
      have hKb : K' ≤ 1002 := by omega
      have HALL := hid hall
      obtain ⟨ln, hln0⟩ : ∃ ln, ln = l.length := ⟨_, rfl⟩
      have HLL : Hid (l.length = ln) := hln0.symm
      have HLM : Hid (m.length = ln) := hlm.trans hln0.symm
      rw [hlm, ← hln0]
      rw [← hln0] at HPl8 hLl
      rw [hlm, ← hln0] at HPm
      have e1 : ((ln : Int) != (ln : Int)) = false := by simp
      clear hsd hbig hPS hLm hfu hu0 hu1 hG hK hlm hGG hall hKK hKK' hln0 HSm
      go_wp2_with fail
      go_loopw [15] (fun x wq => ∃ i : Nat, x = .int .i64 (i : Int) ∧ i ≤ ln ∧ Hid (Parsed w6.heap.size wq (.slice la ln lc) l) ∧ Hid (Parsed w7.heap.size wq (.slice ma ln mc) m) ∧ Hid (Below (w.heap.size + 1 + 1) W0 wq)) (fun x _ => ln - (intOf x).toNat)
      case atStart => exact ⟨0, rfl, by omega, HPl8, HPm, HB8⟩
      case round =>
        clear HPl8 HPm HB8
        obtain ⟨i, rfl, hi, HPl, HPm, HB⟩ := hrel
        by_cases hlt : i < ln
        · have b1 : decide ((i : Int) < (ln : Int)) = true := by simp; omega
          have b2 : (i : Int) < (ln : Int) := by omega
          have ad1 : IntKind.i64.wrap ((i : Int) + 1) = (i : Int) + 1 := by simp [IntKind.wrap, IntKind.bits, IntKind.signed]; omega
          have hil : i < l.length := by rw [HLL.out]; exact hlt
          have him : i < m.length := by rw [HLM.out]; exact hlt
          obtain ⟨r1, r2, r3, r4, r5⟩ := HALL.out i hil him
          obtain ⟨bl, cl, hla⟩ : ∃ b cap, Value.slice la ln lc = .slice (some ⟨b, 0, none⟩) ln cap := by
            rcases HPl.out.ends with ⟨_, h0⟩ | ⟨b, cap, e, _⟩
            · rw [h0] at hil; simp at hil
            · rw [HLL.out] at e; exact ⟨b, cap, e⟩
          obtain ⟨bm, cm, hma⟩ : ∃ b cap, Value.slice ma ln mc = .slice (some ⟨b, 0, none⟩) ln cap := by
            rcases HPm.out.ends with ⟨_, h0⟩ | ⟨b, cap, e, _⟩
            · rw [h0] at him; simp at him
            · rw [HLM.out] at e; exact ⟨b, cap, e⟩
          simp only [Value.slice.injEq] at hla hma
          obtain ⟨rfl, _, rfl⟩ := hla
          obtain ⟨rfl, _, rfl⟩ := hma
          obtain ⟨cb, cc, v1, v2⟩ := HPl.out.caps i hil (by omega)
          obtain ⟨db, dc, u1, u2⟩ := HPm.out.caps i him (by omega)
          have v0 : wr.cell? ⟨bl, i * 2, none⟩ = some (.int .i64 l[i].1) := by
            rcases HPl.out.ends with ⟨h0, _⟩ | ⟨b', cap', e, _, _, hcc⟩
            · cases h0
            · simp only [Value.slice.injEq, Option.some.injEq, Addr.mk.injEq] at e
              obtain ⟨⟨rfl, _⟩, _⟩ := e
              exact hcc i hil
          have u0 : wr.cell? ⟨bm, i * 2, none⟩ = some (.int .i64 m[i].1) := by
            rcases HPm.out.ends with ⟨h0, _⟩ | ⟨b', cap', e, _, _, hcc⟩
            · cases h0
            · simp only [Value.slice.injEq, Option.some.injEq, Addr.mk.injEq] at e
              obtain ⟨⟨rfl, _⟩, _⟩ := e
              exact hcc i him
          rw [r1] at u0
          rw [r2] at v1 v2
          rw [r3] at u1 u2
          have hvb : cb < wr.heap.size := World.block_lt_of_cell? _ _ (v2 0 (by omega))
          have hdb : db < wr.heap.size := World.block_lt_of_cell? _ _ (u2 0 (by omega))
          obtain ⟨E, hE⟩ : ∃ E, E = l[i].1 := ⟨_, rfl⟩
          obtain ⟨cp, hcp⟩ : ∃ cp, cp = l[i].2 := ⟨_, rfl⟩
          obtain ⟨dp, hdp⟩ : ∃ dp, dp = m[i].2 := ⟨_, rfl⟩
          rw [← hE] at v0 u0
          rw [← hcp] at v2 r4 r5
          rw [← hdp] at u2 r4
          have HV2 := hid v2
          have HU2 := hid u2
          have HR4 := hid r4
          have HR5 := hid r5
          have HVB := hid hvb
          have HDB := hid hdb
          have f3 : (E != E) = false := by simp
          have f4 : decide ((K : Int) > (K' : Int)) = false := by simp; omega
          have f4' : decide ((K' : Int) < (K : Int)) = false := by simp; omega
          obtain ⟨WR, hWR⟩ : ∃ WR, WR = wr := ⟨_, rfl⟩
          subst hWR
          clear v2 u2 r1 r2 r3 r4 r5 hvb hdb hE hcp hdp hil him
          go_wp2_with fail
          go_quiet (fail)
          go_wp2_with fail
          go_loopw [18] (fun x wq => ∃ kk : Nat, x = .int .i64 (kk : Int) ∧ kk ≤ K' ∧ Hid (Below WR.heap.size WR wq)) (fun x _ => K' - (intOf x).toNat)
          case atStart => exact ⟨0, rfl, by omega, by exact below_drewN (Below.refl _ _) _⟩
          case round =>
            obtain ⟨kk, rfl, hkk, BB⟩ := hrel
            by_cases hlk : kk < K'
            · have g1 : decide ((kk : Int) < (K' : Int)) = true := by simp; omega
              have g2 : (kk : Int) < (K' : Int) := by omega
              have ad4 : IntKind.i64.wrap ((kk : Int) + 1) = (kk : Int) + 1 := by simp [IntKind.wrap, IntKind.bits, IntKind.signed]; omega
              have x1 := (BB.out.cell (p := ⟨cb, kk, none⟩) HVB.out).trans (HV2.out kk hlk)
              by_cases hk : kk < K
              · have g3 : decide ((kk : Int) < (K : Int)) = true := by simp; omega
                have g4 : (kk : Int) < (K : Int) := by omega
                have g5 : decide ((kk : Int) ≥ (K : Int)) = false := by simp; omega
                have g5' : decide ((K : Int) ≤ (kk : Int)) = false := by simp; omega
                have g5n : decide (K ≤ kk) = false := by simp; omega
                have x2 := (BB.out.cell (p := ⟨db, kk, none⟩) HDB.out).trans (HU2.out kk hk)
                rw [HR4.out kk hk] at x2
                obtain ⟨Y, hY⟩ : ∃ Y, Y = cp.getD kk 0 := ⟨_, rfl⟩
                rw [← hY] at x1 x2
                have g6 : (Y != Y) = false := by simp
                clear hY
                go_wp2_with fail
                go_quiet (fail)
                go_wp2
                exact ⟨⟨kk + 1, by push_cast; rfl, by omega, by exact below_drewN BB.out _⟩, by simp [intOf]; omega⟩
              · have g3 : decide ((kk : Int) < (K : Int)) = false := by simp; omega
                have g5 : decide ((kk : Int) ≥ (K : Int)) = true := by simp; omega
                have g5' : decide ((K : Int) ≤ (kk : Int)) = true := by simp; omega
                have g5n : decide (K ≤ kk) = true := by simp; omega
                have g3n : decide (kk < K) = false := by simp; omega
                rw [HR5.out kk (by omega) hlk] at x1
                have g6 : ((-1 : Int) != -1) = false := by decide
                go_wp2_with fail
                go_quiet (fail)
                go_wp2
                exact ⟨⟨kk + 1, by push_cast; rfl, by omega, by exact below_drewN BB.out _⟩, by simp [intOf]; omega⟩
            · have g1 : decide ((kk : Int) < (K' : Int)) = false := by simp; omega
              go_wp2
              exact ⟨⟨i + 1, by push_cast; rfl, by omega, by exact HPl.out.kept BB.out, by exact HPm.out.kept BB.out, by exact HB.out.trans (Joins.below_le BB.out (by have := HB.out.size; omega))⟩, by simp [intOf]; omega⟩
        · have b1 : decide ((i : Int) < (ln : Int)) = false := by simp; omega
          go_wp2
          go_ret
          exact ⟨rfl, HX.out _ HB.out⟩
end Go.Proofs.Ytnpocciioedgpaa
/- HELPERS: trees, and texts with a place, that come in as arguments. -/
namespace Go.Proofs.Ytnpocciioedgpaa
open Go.ChangeShapes Go.WideShapes Go.ChangeAt Go.RowKit
set_option linter.unusedVariables false
set_option linter.unusedSimpArgs false
theorem ownB : ownKnob Try.prog.godebug = none := by kernel_rfl
theorem laidOut : laidOutB Try.prog = true := by kernel_rfl
theorem bytesOf3 : Try.prog.bytesOf 3 = 8 := by kernel_rfl
theorem cells3a : Try.prog.cellsOf 3 = 1 := by kernel_rfl
theorem lt_of_cell {w : World} {b o : Nat} {v : Value} (h : w.cell? ⟨b, o, none⟩ = some v) : b < w.heap.size := by
  rcases Nat.lt_or_ge b w.heap.size with h1 | h1
  · exact h1
  · have : w.heap[b]? = none := Array.getElem?_eq_none h1
    simp [World.cell?, this] at h
/-- the fields of a node -/
def nf : Nat → Field
  | 0 => { name := "Kind", type := 3, offset := 0, embedded := false, tag := "", pkgPath := "", byteOffset := 0 }
  | 1 => { name := "Ranges", type := 25, offset := 1, embedded := false, tag := "", pkgPath := "", byteOffset := 8 }
  | 2 => { name := "Assert", type := 3, offset := 2, embedded := false, tag := "", pkgPath := "", byteOffset := 32 }
  | 3 => { name := "Subs", type := 26, offset := 3, embedded := false, tag := "", pkgPath := "", byteOffset := 40 }
  | 4 => { name := "Min", type := 3, offset := 4, embedded := false, tag := "", pkgPath := "", byteOffset := 64 }
  | 5 => { name := "Max", type := 3, offset := 5, embedded := false, tag := "", pkgPath := "", byteOffset := 72 }
  | 6 => { name := "Lazy", type := 4, offset := 6, embedded := false, tag := "", pkgPath := "", byteOffset := 80 }
  | 7 => { name := "Index", type := 3, offset := 7, embedded := false, tag := "", pkgPath := "", byteOffset := 88 }
  | _ => { name := "Name", type := 9, offset := 8, embedded := false, tag := "", pkgPath := "", byteOffset := 96 }
theorem nodeTy : NodeTy Try.prog 28 26 25 70 3 4 9 nf { name := "Lo", type := 3, offset := 0, embedded := false, tag := "", pkgPath := "", byteOffset := 0 } { name := "Hi", type := 3, offset := 1, embedded := false, tag := "", pkgPath := "", byteOffset := 8 } where
  hn := Try.underlying28
  cn := by kernel_rfl
  ty := ⟨rfl, rfl, rfl, rfl, rfl, rfl, rfl, rfl, rfl⟩
  of := fun i hi => by
    match i, hi with
    | 0, _ => rfl
    | 1, _ => rfl
    | 2, _ => rfl
    | 3, _ => rfl
    | 4, _ => rfl
    | 5, _ => rfl
    | 6, _ => rfl
    | 7, _ => rfl
    | 8, _ => rfl
  ci := by kernel_rfl
  cr := by kernel_rfl
  cs := by kernel_rfl
  cb := by kernel_rfl
  cg := by kernel_rfl
  hi := Try.underlying3
  hb := Try.underlying4
  hg := Try.underlying9
  hs := Try.underlying26
  hr := Try.underlying25
  he := Try.underlying70
  ce := by kernel_rfl
  og := ⟨rfl, rfl, rfl, rfl⟩
set_option maxRecDepth 100000
section
variable {H : Type} {enc : TypeId × Value → H} {W : World} {base : Nat} {v : Value} {d : DataW H} {p : List MemPlace}
/-- a tree that came in -/
theorem node_arg (hok : Value.okWide Try.prog W .any base 28 v) (h0 : DataW.Trod enc Try.prog W 0 (fun _ => true) true 28 v d p) : ∃ N t, v = Nv.v N ∧ TI W W.heap.size N t := by
  obtain ⟨cs, rfl, hsz⟩ := okWide_struct Try.underlying28 hok
  obtain ⟨fuel, hf⟩ := h0
  obtain ⟨N, t, h1, h2⟩ := open_node nodeTy fuel _ _ hf
  have h1' : cs.toList = Nv.cs N := h1
  refine ⟨N, t, ?_, h2⟩
  have : cs = (Nv.cs N).toArray := by rw [← h1']
  rw [this]
/-- a []int whose cells are given -/
theorem text_cells {fuel : Nat} {a0 : Option Addr} {len cap : Nat} (hf : DataW.trod enc Try.prog W 0 (fun _ => true) true fuel 29 [.slice a0 len cap] = some (d, p)) (hsz : ∀ elems spare, d = .slice elems spare → (elems.length + spare.length) * 8 ≤ 140737488351232) :
    ∃ l : List Int, len ≤ cap ∧ Look.TextAt W.heap.size W a0 len l := by
  rcases open_ints Try.underlying29 Try.underlying3 cells3a hf with ⟨hcs, hx⟩ | ⟨a, len', cap', zs, hcs, _, hl, hm, hz, hx, hcell, hwz⟩
  · simp at hcs
    obtain ⟨rfl, rfl, rfl⟩ := hcs
    exact ⟨[], Nat.le_refl _, rfl, by omega, .inl rfl⟩
  · simp at hcs
    obtain ⟨rfl, rfl, rfl⟩ := hcs
    simp only [if_true] at hz
    obtain ⟨rfl, rfl⟩ := Prod.mk.inj hx
    have hs := hsz _ _ rfl
    simp only [lits, List.length_map, List.length_take, List.length_drop] at hs
    have htl : (zs.take len).length = len := by rw [List.length_take]; omega
    refine ⟨zs.take len, by omega, htl.symm, by omega, ?_⟩
    by_cases h0 : len = 0
    · left; omega
    · right
      obtain ⟨b, off, rfl, hc⟩ := ints_at hcell (by omega)
      refine ⟨b, off, rfl, lt_of_cell (hc 0 (by omega)), fun k hk => ?_⟩
      rw [hc k (by omega)]
      simp [List.getD_eq_getElem?_getD, List.getElem?_take, hk]
theorem text_arg (hok : Value.okWide Try.prog W .any base 29 v) (h0 : DataW.Trod enc Try.prog W 0 (fun _ => true) true 29 v d p) (hsz : ∀ elems spare, d = .slice elems spare → (elems.length + spare.length) * 8 ≤ 140737488351232) :
    ∃ (l : List Int) (ad : Option Addr) (n cap : Nat), v = .slice ad n cap ∧ n ≤ cap ∧ Look.TextAt W.heap.size W ad n l := by
  obtain ⟨a0, len, cap, rfl⟩ := okWide_slice Try.underlying29 hok
  obtain ⟨fuel, hf⟩ := h0
  obtain ⟨l, h1, h2⟩ := text_cells hf hsz
  exact ⟨l, a0, len, cap, rfl, h1, h2⟩
/-- a text with a place that came in -/
theorem asked_arg (hok : Value.okWide Try.prog W .any base 31 v) (h0 : DataW.Trod enc Try.prog W 0 (fun _ => true) true 31 v d p) (hsz : ∀ elems spare rest, d = .agg (.slice elems spare :: rest) → (elems.length + spare.length) * 8 ≤ 140737488351232) :
    ∃ (l : List Int) (ad : Option Addr) (n cap : Nat) (at_ : Int), v = .agg #[.slice ad n cap, .int .i64 at_] ∧ n ≤ cap ∧ Look.TextAt W.heap.size W ad n l := by
  obtain ⟨v0, v1, y0, y1, n, rfl, rfl, rfl, h1, h2⟩ := Go.Joins.open_agg2 Try.underlying31 (by kernel_rfl) (by kernel_rfl) hok h0
  obtain ⟨x, e1, _, _⟩ := DataW.trod_int Try.underlying3 h2
  simp only [List.cons.injEq, and_true] at e1
  subst e1
  rcases DataW.trod_slice Try.underlying29 h1 with ⟨e0, _⟩ | ⟨a, len, cap, elems, rest, n', hn', e0, _⟩
  · simp only [List.cons.injEq, and_true] at e0
    subst e0
    exact ⟨[], none, 0, 0, x, rfl, Nat.le_refl _, rfl, by omega, .inl rfl⟩
  · simp only [List.cons.injEq, and_true] at e0
    subst e0
    obtain ⟨l, q1, q2⟩ := text_cells (d := y0.1) (p := y0.2) h1 (fun elems spare he => hsz elems spare [y1.1] (by rw [he]))
    exact ⟨l, some a, len, cap, x, rfl, q1, q2⟩
end
theorem sized_asked {H : Type} {ts : List TypeId} {ds : List (DataW H)} (h : (DataW.weightsEach Try.prog ts ds).all (· ≤ reachBytes) = true) {j : Nat} {elems spare rest : List (DataW H)} (ht : ts[j]? = some 31) (hd : ds[j]? = some (.agg (.slice elems spare :: rest))) : (elems.length + spare.length) * 8 ≤ 140737488351232 := by
  have := List.all_eq_true.1 h _ (DataW.weights_mem_each ht hd ((elems.length + spare.length) * Try.prog.bytesOf 3) (by simp [DataW.weights, Try.underlying31, DataW.weightsEach, Try.underlying29]))
  rw [bytesOf3] at this
  exact of_decide_eq_true this
end Go.Proofs.Ytnpocciioedgpaa
namespace Go.Proofs.Ytnpocciioedgpaa
open Go.ChangeShapes Go.WideShapes Go.ChangeAt Go.RowKit
set_option linter.unusedVariables false
set_option linter.unusedSimpArgs false
set_option maxRecDepth 100000 in
theorem meaningCopiesLifted (os : Os) (started : os.Started) (H : Type) (enc : TypeId × Value → H) :
    ReturnsInHanded {} Try.checked os 7 .any (Rows.meaningCopiesSpec.pre6 enc Try.prog Try.f7 Rows.meaningCopiesRow.domain false) (Rows.meaningCopiesSpec.post enc Try.prog Try.f7 false true false false) := by
  refine returnsInHanded_of_change_sized (C := Try.checked) ownB started (by kernel_rfl) Try.func7
    (ChangeSpec.witness6 (enc := enc) (C := Try.checked) false ⟨#[], #[.agg #[.int .i64 0, .slice none 0 0, .int .i64 0, .slice none 0 0, .int .i64 0, .int .i64 0, .bool false, .int .i64 0, .string ⟨#[]⟩], .agg #[.slice none 0 0, .int .i64 0]], []⟩ 8 (by kernel_rfl) (by kernel_rfl) (by kernel_rfl) (by kernel_rfl)) ?_
  intro W base args ds gs before hval0 hW hcnd0 hsz0 hholds
  have hval : ∀ (j : Nat) t v, Try.f7.params[j]? = some t → args[j]? = some v → Value.okWide Try.prog W .any base t v := hval0
  have hsz : (DataW.weightsEach Try.prog (Try.f7.params.toList ++ Rows.meaningCopiesSpec.plain.varTypes Try.prog) (ds ++ gs)).all (· ≤ reachBytes) = true := hsz0
  have hW' := hW
  obtain ⟨p, q, hA0, hV, rfl, hfz, hnd⟩ := hW
  have hA : DataW.TrodAll enc Try.prog W 0 (fun _ => true) true Try.f7.params.toList args.toList ds p := hA0
  rw [Try.params7] at hA hval hsz
  obtain ⟨v0, vs0, d0, ds0, p0, q0, hargs, rfl, rfl, h0, r0⟩ := trodAll_cons hA
  obtain ⟨v1, vs1, d1, ds1, p1, q1, rfl, rfl, rfl, h1, r1⟩ := trodAll_cons r0
  obtain ⟨rfl, rfl, rfl⟩ := trodAll_nil r1
  obtain rfl : args = #[v0, v1] := by cases args; simp_all
  obtain ⟨rfl, rfl⟩ := trodVars_none hV
  have hlt0 : ∀ x ∈ p0, x.block < W.heap.size := fun x hx => by have := hW'.lt x (by simp [hx]); simpa using this
  have hlt1 : ∀ x ∈ p1, x.block < W.heap.size := fun x hx => by have := hW'.lt x (by simp [hx]); simpa using this
  obtain ⟨N, t, rfl, hT⟩ := node_arg (hval 0 28 v0 rfl rfl) h0
  obtain ⟨tx, ad, tn, tcap, at_, rfl, htc, hX⟩ := asked_arg (hval 1 31 v1 rfl rfl) h1 (fun elems spare rest hd => sized_asked hsz (j := 1) rfl (by rw [hd]; rfl))
  clear hA0 hval0
  have HL : Calls Try.prog 7 #[N.v, .agg #[.slice ad tn tcap, .int .i64 at_]] W fun e w' => e = .returned (.bool true) ∧ Below W.heap.size W w' := by
    cases hm : mayB t tn at_ with
    | false => exact copies7_out N t tx ad tn tcap at_ W hT hX htc hm
    | true => exact copies7_in N t tx ad tn tcap at_ W hT hX htc hm
  refine HL.mono fun e W' ⟨he, hb⟩ => ?_
  subst he
  exact ⟨_, rfl, _, _, _, [], p0 ++ (p1 ++ []), [], hW', trodAll_cons_mk (shut_bool Try.underlying4 _) trodAll_mk0, trodAll_cons_mk (Below.trod laidOut (by kernel_rfl) (of_decide_eq_true (by kernel_rfl)) h0 hb hlt0) (trodAll_cons_mk (Below.trod laidOut (by kernel_rfl) (of_decide_eq_true (by kernel_rfl)) h1 hb hlt1) trodAll_mk0), rfl, hb.frame _, fun h => by cases h⟩
theorem meaningCopies_holds : Rows.MeaningCopiesSaid :=
  OpenClaim.holds_of_wide 7 Try.f7 rfl rfl rfl rfl rfl rfl rfl ⟨rfl, rfl, rfl, rfl, rfl⟩ rfl rfl rfl rfl rfl (by kernel_rfl) Try.func7 (by kernel_rfl)
    (of_decide_eq_true (by kernel_rfl)) (by unfold Func.isWrapper; first | (rw [if_pos (by decide +kernel)]; kernel_rfl) | (rw [if_neg (by decide +kernel)]; exact ⟨rfl, rfl⟩))
    (fun os started H enc _ => meaningCopiesLifted os started H enc)
end Go.Proofs.Ytnpocciioedgpaa
