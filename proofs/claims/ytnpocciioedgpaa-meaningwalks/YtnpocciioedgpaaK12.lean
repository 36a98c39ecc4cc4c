/- HELPERS: Es, Xl, Ud. -/
import Derived.Test.YtnpocciioedgpaaK11
/- HELPERS: the law MeaningEnds walked. -/
namespace Go.Proofs.Ytnpocciioedgpaa
open Go.RowKit
set_option linter.unusedVariables false
set_option linter.unusedSimpArgs false
/-- how many -/
def cnt (f : Nat → Bool) (i : Nat) : Nat := ((List.range i).filter f).length
theorem cnt_succ (f : Nat → Bool) (i : Nat) : cnt f (i + 1) = cnt f i + (if f i then 1 else 0) := by
  unfold cnt
  rw [List.range_succ, List.filter_append, List.length_append]
  cases h : f i <;> simp [h]
theorem cnt_le (f : Nat → Bool) (i : Nat) : cnt f i ≤ i := by
  unfold cnt
  have := List.length_filter_le f (List.range i)
  simpa using this
/-- the parses are as many as the places that the table tells -/
theorem PS.count {t : Tn} {K : Nat} {tx : List Int} {p : Nat} {l : List (Int × List Int)} (h : PS t K tx p l) (hf : t.fine = true) (hp : p < tx.length + 1) : (∀ q : Nat, q < tx.length + 1 → decide ((q : Int) ∈ l.map Prod.fst) = tab tx t p q) ∧ l.length = cnt (tab tx t p) (tx.length + 1) := by
  obtain ⟨h1, h2, h3⟩ := h.ends
  have hs := tab_says (tx := tx) t hf
  have hm : ∀ q : Nat, q < tx.length + 1 → ((q : Int) ∈ l.map Prod.fst ↔ tab tx t p q = true) := fun q hq => (h3 q).trans (hs p q hp hq).symm
  refine ⟨fun q hq => by rw [Bool.eq_iff_iff, decide_eq_true_eq]; exact hm q hq, ?_⟩
  have hA : ∀ x ∈ l.map Prod.fst, x ∈ ((List.range (tx.length + 1)).filter (tab tx t p)).map (fun q : Nat => (q : Int)) := fun x hx => by
    obtain ⟨e, he, rfl⟩ := List.mem_map.1 hx
    obtain ⟨q, hq⟩ := h2 e he
    have hx' : (q : Int) ∈ l.map Prod.fst := by rw [← hq]; exact List.mem_map_of_mem he
    have hlt : q < tx.length + 1 := Mt.stay t p q hp ((h3 q).1 hx')
    rw [hq]
    exact List.mem_map_of_mem (f := fun q : Nat => (q : Int)) (List.mem_filter.2 ⟨by simpa using hlt, (hm q hlt).1 hx'⟩)
  have hB : ∀ x ∈ ((List.range (tx.length + 1)).filter (tab tx t p)).map (fun q : Nat => (q : Int)), x ∈ l.map Prod.fst := fun x hx => by
    obtain ⟨q, hq, rfl⟩ := List.mem_map.1 hx
    obtain ⟨q1, q2⟩ := List.mem_filter.1 hq
    exact (hm q (by simpa using q1)).2 q2
  have hnd : (((List.range (tx.length + 1)).filter (tab tx t p)).map (fun q : Nat => (q : Int))).Nodup := by
    refine List.Pairwise.map _ ?_ (List.Pairwise.filter _ List.nodup_range)
    intro a b hab he
    exact hab (by omega)
  have l1 := nodup_le h1 hA
  have l2 := nodup_le hnd hB
  simp only [List.length_map] at l1 l2
  unfold cnt
  omega
theorem PR.caps {N : Nat} {w : World} {cs : List Value} {l : List (Int × List Int)} {F : List Nat} (h : PR N w cs l F) : ∀ (i : Nat) (hi : i < l.length), ∃ cv, cs[i * 2 + 1]? = some cv ∧ w.ownsRow N 3 1 cv l[i].2.length (I64 l[i].2) := by
  induction h with
  | nil => intro i hi; simp at hi
  | cons h hl ih =>
    intro i hi
    cases i with
    | zero => exact ⟨_, by simp, h⟩
    | succ i =>
      obtain ⟨cv, h1, h2⟩ := ih i (by simpa using hi)
      refine ⟨cv, ?_, by simpa using h2⟩
      rw [show (i + 1) * 2 + 1 = i * 2 + 1 + 1 + 1 by omega]
      simpa using h1
theorem Parsed.caps {N : Nat} {w : World} {b cap n : Nat} {l : List (Int × List Int)} (h : Parsed N w (.slice (some ⟨b, 0, none⟩) n cap) l) (i : Nat) (hi : i < l.length) (hc : 0 < l[i].2.length) : ∃ cb cc, w.cell? ⟨b, i * 2 + 1, none⟩ = some (.slice (some ⟨cb, 0, none⟩) l[i].2.length cc) ∧ ∀ j, j < l[i].2.length → w.cell? ⟨cb, j, none⟩ = some (.int .i64 (l[i].2.getD j 0)) := by
  obtain ⟨cs, F, h1, h2⟩ := h
  obtain ⟨cv, q1, q2⟩ := h2.caps i hi
  obtain ⟨cb, cc, rfl⟩ := Joins.ownsRow_form q2 hc
  have hn : n = l.length := by
    rcases h1.2 with ⟨e, h0⟩ | ⟨g, cap', cur, e, _⟩
    · cases e
    · simp only [Value.slice.injEq] at e
      exact e.2.1
  subst hn
  refine ⟨cb, cc, ?_, fun j hj => ?_⟩
  · have hl : cs.length = l.length * 2 := h1.1
    rw [h1.cellAt (i * 2 + 1) (by omega), q1]
  · rw [q2.cellAt j (by simpa using hj)]
    simp [List.getD_eq_getElem?_getD, List.getElem?_eq_getElem hj]
set_option maxRecDepth 100000 in
set_option maxHeartbeats 4000000 in
theorem ends5_out (N : Nv) (t : Tn) (tx : List Int) (ad : Option Addr) (tn tcap : Nat) (at_ : Int) (w : World) (hTI : TI w w.heap.size N t) (htx : Look.TextAt w.heap.size w ad tn tx) (htc : tn ≤ tcap) (hout : mayB t tn at_ = false) :
    Calls Try.prog 5 #[N.v, .agg #[.slice ad tn tcap, .int .i64 at_]] w fun e w' => e = .returned (.bool true) ∧ Below w.heap.size w w' := by
  obtain ⟨W0, hW0⟩ : ∃ W0, W0 = (w.alloc N.ob).alloc (Xob ad tn tcap at_) := ⟨_, rfl⟩
  have hq := boxes (tcap := tcap) (at_ := at_) hTI htx
  rw [← hW0] at hq
  have hs0 : W0.heap.size = w.heap.size + 1 + 1 := by rw [hW0]; simp
  have HB0 : Hid (Below (w.heap.size + 1 + 1) W0 W0) := Below.refl _ _
  have htm : tn ≤ 35184372088832 := htx.2.1
  have c10 : ∀ W, Below (w.heap.size + 1 + 1) W0 W → Calls Try.prog 10 #[N.v] W fun e w' => e = .returned (.bool (decide (4194304 < t.nodes))) ∧ Below W.heap.size W w' := fun W hB => deep10 (hq W hB).2.2.1
  have c11 : ∀ W, Below (w.heap.size + 1 + 1) W0 W → Calls Try.prog 11 #[N.v, .slice ad tn tcap] W fun e w' => e = .returned (.bool (muchB t tn)) ∧ Below W.heap.size W w' := fun W hB => much11 N t ad tn tcap W (hq W hB).2.2.1 htm
  have c12 : ∀ W, Below (w.heap.size + 1 + 1) W0 W → Calls Try.prog 12 #[N.v, .agg #[.slice ad tn tcap, .int .i64 at_]] W fun e w' => e = .returned (.bool (mayB t tn at_)) ∧ Below W.heap.size W w' := fun W hB => may12 N t ad tn tcap at_ W (hq W hB).2.2.1 htm
  rw [hout] at c12
  obtain ⟨dp, hdp⟩ : ∃ dp, dp = decide (4194304 < t.nodes) := ⟨_, rfl⟩
  obtain ⟨mu, hmu⟩ : ∃ mu, mu = muchB t tn := ⟨_, rfl⟩
  rw [← hdp] at c10
  rw [← hmu] at c11
  clear hdp hmu hout
  obtain ⟨k, r1, r2, r3, a2, s1, s2, s3, a4, a5, a6, a7, a8⟩ := N
  dsimp only at hq c10 c11 c12
  have hx : ∀ W, Below (w.heap.size + 1 + 1) W0 W → Below w.heap.size w W := fun W hB => (hq W hB).2.2.2.2
  have HX := hid hx
  have HQ := hid hq
  have HC10 := hid c10
  have HC11 := hid c11
  have HC12 := hid c12
  clear hTI htx hq c10 c11 c12 hx
  go_enter Try.func5, Try.ntmps5
  go_upto_region 1 with fail
  rw [← hW0]
  clear hW0
  obtain ⟨⟨o0, o1, o2, o3, o4, o5, o6, o7, o8⟩, ⟨y0, y1⟩, _⟩ := HQ.out W0 HB0.out
  have HC := HC10.out W0 HB0.out
  cases dp with
  | true =>
    go_wp2_with (first | (go_at_call 10; (with_reducible refine HC.mono ?_); rintro e w1 ⟨rfl, hb1⟩; have HB1 : Hid (Below (w.heap.size + 1 + 1) W0 w1) := HB0.out.trans (Joins.below_le hb1 (by omega)); clear hb1 HC))
    go_ret
    exact ⟨rfl, HX.out _ HB1.out⟩
  | false =>
  go_upto_region 4 with (first | (go_at_call 10; (with_reducible refine HC.mono ?_); rintro e w1 ⟨rfl, hb1⟩; have HB1 : Hid (Below (w.heap.size + 1 + 1) W0 w1) := HB0.out.trans (Joins.below_le hb1 (by omega)); clear hb1 HC o0 o1 o2 o3 o4 o5 o6 o7 o8 y0 y1))
  have hs1' : W0.heap.size ≤ w1.heap.size := HB1.out.size
  obtain ⟨⟨o0, o1, o2, o3, o4, o5, o6, o7, o8⟩, ⟨y0, y1⟩, _⟩ := HQ.out w1 HB1.out
  have HC := HC11.out w1 HB1.out
  cases mu with
  | true =>
    go_wp2_with (first | (go_at_call 11; (with_reducible refine HC.mono ?_); rintro e w2 ⟨rfl, hb2⟩; have HB2 : Hid (Below (w.heap.size + 1 + 1) W0 w2) := HB1.out.trans (Joins.below_le hb2 (by omega)); clear hb2 HC))
    go_ret
    exact ⟨rfl, HX.out _ HB2.out⟩
  | false =>
  go_upto_region 7 with (first | (go_at_call 11; (with_reducible refine HC.mono ?_); rintro e w2 ⟨rfl, hb2⟩; have HB2 : Hid (Below (w.heap.size + 1 + 1) W0 w2) := HB1.out.trans (Joins.below_le hb2 (by omega)); clear hb2 HC o0 o1 o2 o3 o4 o5 o6 o7 o8 y0 y1))
  have hs2' : W0.heap.size ≤ w2.heap.size := HB2.out.size
  obtain ⟨⟨o0, o1, o2, o3, o4, o5, o6, o7, o8⟩, ⟨y0, y1⟩, _⟩ := HQ.out w2 HB2.out
  have HC := awake8 w2
  go_upto_region 8 with (first | (go_at_call 8; (with_reducible refine HC.mono ?_); rintro e w3 ⟨rfl, hb3⟩; have HB3 : Hid (Below (w.heap.size + 1 + 1) W0 w3) := HB2.out.trans (Joins.below_le hb3 (by omega)); clear hb3 HC o0 o1 o2 o3 o4 o5 o6 o7 o8 y0 y1))
  have hs3' : W0.heap.size ≤ w3.heap.size := HB3.out.size
  obtain ⟨⟨o0, o1, o2, o3, o4, o5, o6, o7, o8⟩, ⟨y0, y1⟩, _⟩ := HQ.out w3 HB3.out
  have HC := HC12.out w3 HB3.out
  go_wp2_with (first | (go_at_call 12; (with_reducible refine HC.mono ?_); rintro e w4 ⟨rfl, hb4⟩; have HB4 : Hid (Below (w.heap.size + 1 + 1) W0 w4) := HB3.out.trans (Joins.below_le hb4 (by omega)); clear hb4 HC))
  go_ret
  exact ⟨rfl, HX.out _ HB4.out⟩
set_option maxRecDepth 100000 in
set_option maxHeartbeats 8000000 in
theorem ends5_in (N : Nv) (t : Tn) (tx : List Int) (ad : Option Addr) (tn tcap : Nat) (at_ : Int) (w : World) (hTI : TI w w.heap.size N t) (htx : Look.TextAt w.heap.size w ad tn tx) (htc : tn ≤ tcap) (hin : mayB t tn at_ = true) :
    Calls Try.prog 5 #[N.v, .agg #[.slice ad tn tcap, .int .i64 at_]] w fun e w' => e = .returned (.bool true) ∧ Below w.heap.size w w' := by
  obtain ⟨hsd, hsz, htn, ha0, ha1⟩ := mayB_parts hin
  obtain ⟨hfine, _, hnod⟩ := sound_parts hsd
  obtain ⟨W0, hW0⟩ : ∃ W0, W0 = (w.alloc N.ob).alloc (Xob ad tn tcap at_) := ⟨_, rfl⟩
  have hq := boxes (tcap := tcap) (at_ := at_) hTI htx
  rw [← hW0] at hq
  have hs0 : W0.heap.size = w.heap.size + 1 + 1 := by rw [hW0]; simp
  have HB0 : Hid (Below (w.heap.size + 1 + 1) W0 W0) := Below.refl _ _
  have htm : tn ≤ 35184372088832 := htx.2.1
  have c10 : ∀ W, Below (w.heap.size + 1 + 1) W0 W → Calls Try.prog 10 #[N.v] W fun e w' => e = .returned (.bool false) ∧ Below W.heap.size W w' := fun W hB => by have h := deep10 (hq W hB).2.2.1; rw [decide_eq_false (by omega)] at h; exact h
  have c11 : ∀ W, Below (w.heap.size + 1 + 1) W0 W → Calls Try.prog 11 #[N.v, .slice ad tn tcap] W fun e w' => e = .returned (.bool (muchB t tn)) ∧ Below W.heap.size W w' := fun W hB => much11 N t ad tn tcap W (hq W hB).2.2.1 htm
  have c12 : ∀ W, Below (w.heap.size + 1 + 1) W0 W → Calls Try.prog 12 #[N.v, .agg #[.slice ad tn tcap, .int .i64 at_]] W fun e w' => e = .returned (.bool true) ∧ Below W.heap.size W w' := fun W hB => by have h := may12 N t ad tn tcap at_ W (hq W hB).2.2.1 htm; rw [hin] at h; exact h
  have c13t : ∀ W, Below (w.heap.size + 1 + 1) W0 W → Calls Try.prog 13 #[N.v, .slice ad tn tcap, .int .i64 at_] W fun e w' => ∃ (a : Option Addr) (c : Nat) (l : List (Int × List Int)), e = .returned (.tuple #[.slice a l.length c, .int .i64 0]) ∧ Parsed W.heap.size w' (.slice a l.length c) l ∧ PS t t.notes tx at_.toNat l ∧ l.length ≤ 65 ∧ Below W.heap.size W w' := fun W hB => parses13ok (hq W hB).2.2.1 (hq W hB).2.2.2.1 htc (errP_zero hin hsd (Nat.le_refl _))
  obtain ⟨p, hpp⟩ : ∃ p : Nat, at_ = (p : Int) := ⟨at_.toNat, by omega⟩
  subst hpp
  obtain ⟨hg0, hg1⟩ := fine_gi t hfine
  obtain ⟨G, hG⟩ : ∃ G : Nat, t.gi = (G : Int) := ⟨t.gi.toNat, by omega⟩
  have hK : t.notes = 2 * G + 2 := by simp only [Tn.notes, hG]; omega
  have c20 : ∀ W, Below (w.heap.size + 1 + 1) W0 W → Calls Try.prog 20 #[N.v, .slice ad tn tcap] W (TabC W (tn + 1) (tab tx t)) := fun W hB => by
    have h0 := (hq W hB).2.2.2.2
    exact table20 hTI tx ad tn tcap (tn + 1) htx rfl htn hfine hnod W h0.size (fun b hb => h0.block b hb)
  have c15 : ∀ W, Below (w.heap.size + 1 + 1) W0 W → Calls Try.prog 15 #[N.v] W fun e w' => e = .returned (.int .i64 (G : Int)) ∧ Below W.heap.size W w' := fun W hB => by
    have h0 := (hq W hB).2.2.2.2
    have := greatest15 hTI W h0.size (fun b hb => h0.block b hb)
    rw [hG] at this
    exact this
  have hpl : p < tx.length + 1 := by have := htx.1; omega
  rw [hK] at c13t
  have hG5 : G ≤ 500 := by omega
  obtain ⟨mu, hmu⟩ : ∃ mu, mu = muchB t tn := ⟨_, rfl⟩
  rw [← hmu] at c11
  have htl : tx.length = tn := htx.1.symm
  clear hmu
  obtain ⟨k, r1, r2, r3, a2, s1, s2, s3, a4, a5, a6, a7, a8⟩ := N
  dsimp only at hq c10 c11 c12 c13t c20 c15
  have hx : ∀ W, Below (w.heap.size + 1 + 1) W0 W → Below w.heap.size w W := fun W hB => (hq W hB).2.2.2.2
  have hsx : ∀ W, Below (w.heap.size + 1 + 1) W0 W → W.cell? ⟨w.heap.size, 0, none⟩ = some (.int .i64 k) ∧ W.cell? ⟨w.heap.size, 1, none⟩ = some (.slice r1 r2 r3) ∧ W.cell? ⟨w.heap.size, 2, none⟩ = some (.int .i64 a2) ∧ W.cell? ⟨w.heap.size, 3, none⟩ = some (.slice s1 s2 s3) ∧ W.cell? ⟨w.heap.size, 4, none⟩ = some (.int .i64 a4) ∧ W.cell? ⟨w.heap.size, 5, none⟩ = some (.int .i64 a5) ∧ W.cell? ⟨w.heap.size, 6, none⟩ = some (.bool a6) ∧ W.cell? ⟨w.heap.size, 7, none⟩ = some (.int .i64 a7) ∧ W.cell? ⟨w.heap.size, 8, none⟩ = some (.string a8) ∧ W.cell? ⟨w.heap.size + 1, 0, none⟩ = some (.slice ad tn tcap) ∧ W.cell? ⟨w.heap.size + 1, 1, none⟩ = some (.int .i64 (p : Int)) := fun W hB => by obtain ⟨⟨o0, o1, o2, o3, o4, o5, o6, o7, o8⟩, ⟨y0, y1⟩, _⟩ := hq W hB; exact ⟨o0, o1, o2, o3, o4, o5, o6, o7, o8, y0, y1⟩
  have HX := hid hx
  have HSX := hid hsx
  have HQ := hid hq
  have HC10 := hid c10
  have HC11 := hid c11
  have HC12 := hid c12
  have HC13t := hid c13t
  have HF := hid hfine
  have HTL := hid htl
  have HC20 := hid c20
  have HC15 := hid c15
  have HPL := hid hpl
  have hf1 := t.fine_from1 HF.out
  have HF1 := hid hf1
  clear hTI htx hq c10 c11 c12 c13t hx hsx hfine htl hsd hsz hnod hin c20 c15 hpl hK hG hg0 hg1 hf1
  go_enter Try.func5, Try.ntmps5
  go_upto_region 1 with fail
  rw [← hW0]
  clear hW0
  obtain ⟨⟨o0, o1, o2, o3, o4, o5, o6, o7, o8⟩, ⟨y0, y1⟩, _⟩ := HQ.out W0 HB0.out
  have HC := HC10.out W0 HB0.out
  go_upto_region 4 with (first | (go_at_call 10; (with_reducible refine HC.mono ?_); rintro e w1 ⟨rfl, hb1⟩; have HB1 : Hid (Below (w.heap.size + 1 + 1) W0 w1) := HB0.out.trans (Joins.below_le hb1 (by omega)); clear hb1 HC o0 o1 o2 o3 o4 o5 o6 o7 o8 y0 y1))
  have hs1' : W0.heap.size ≤ w1.heap.size := HB1.out.size
  obtain ⟨⟨o0, o1, o2, o3, o4, o5, o6, o7, o8⟩, ⟨y0, y1⟩, _⟩ := HQ.out w1 HB1.out
  have HC := HC11.out w1 HB1.out
  cases mu with
  | true =>
    go_wp2_with (first | (go_at_call 11; (with_reducible refine HC.mono ?_); rintro e w2 ⟨rfl, hb2⟩; have HB2 : Hid (Below (w.heap.size + 1 + 1) W0 w2) := HB1.out.trans (Joins.below_le hb2 (by omega)); clear hb2 HC))
    go_ret
    exact ⟨rfl, HX.out _ HB2.out⟩
  | false =>
  go_upto_region 7 with (first | (go_at_call 11; (with_reducible refine HC.mono ?_); rintro e w2 ⟨rfl, hb2⟩; have HB2 : Hid (Below (w.heap.size + 1 + 1) W0 w2) := HB1.out.trans (Joins.below_le hb2 (by omega)); clear hb2 HC o0 o1 o2 o3 o4 o5 o6 o7 o8 y0 y1))
  have hs2' : W0.heap.size ≤ w2.heap.size := HB2.out.size
  obtain ⟨⟨o0, o1, o2, o3, o4, o5, o6, o7, o8⟩, ⟨y0, y1⟩, _⟩ := HQ.out w2 HB2.out
  have HC := awake8 w2
  go_upto_region 8 with (first | (go_at_call 8; (with_reducible refine HC.mono ?_); rintro e w3 ⟨rfl, hb3⟩; have HB3 : Hid (Below (w.heap.size + 1 + 1) W0 w3) := HB2.out.trans (Joins.below_le hb3 (by omega)); clear hb3 HC o0 o1 o2 o3 o4 o5 o6 o7 o8 y0 y1))
  have hs3' : W0.heap.size ≤ w3.heap.size := HB3.out.size
  obtain ⟨⟨o0, o1, o2, o3, o4, o5, o6, o7, o8⟩, ⟨y0, y1⟩, _⟩ := HQ.out w3 HB3.out
  have HC := HC12.out w3 HB3.out
  go_upto_region 11 with (first | (go_at_call 12; (with_reducible refine HC.mono ?_); rintro e w4 ⟨rfl, hb4⟩; have HB4 : Hid (Below (w.heap.size + 1 + 1) W0 w4) := HB3.out.trans (Joins.below_le hb4 (by omega)); clear hb4 HC o0 o1 o2 o3 o4 o5 o6 o7 o8 y0 y1))
  have hs4' : W0.heap.size ≤ w4.heap.size := HB4.out.size
  obtain ⟨⟨o0, o1, o2, o3, o4, o5, o6, o7, o8⟩, ⟨y0, y1⟩, _⟩ := HQ.out w4 HB4.out
  have HC := HC13t.out w4 HB4.out
  go_upto_region 12 with (first | (go_at_call 13; (with_reducible refine HC.mono ?_); rintro e w5 ⟨la, lc, l, rfl, hPl, hSl, hLl, hb5⟩; have HB5 : Hid (Below (w.heap.size + 1 + 1) W0 w5) := HB4.out.trans (Joins.below_le hb5 (by omega)); have HPl := hid hPl; have HSl := hid hSl; clear hPl hSl; clear hb5 HC o0 o1 o2 o3 o4 o5 o6 o7 o8 y0 y1))
  have hs5' : W0.heap.size ≤ w5.heap.size := HB5.out.size
  obtain ⟨⟨o0, o1, o2, o3, o4, o5, o6, o7, o8⟩, ⟨y0, y1⟩, _⟩ := HQ.out w5 HB5.out
  have hcount := HSl.out.count HF.out (by have := HPL.out; simpa using this)
  have hwithin := HSl.out.within (by omega) HF1.out
  simp only [Int.toNat_natCast] at hcount hwithin
  rw [HTL.out] at hcount
  obtain ⟨f, hf⟩ : ∃ f, f = tab tx t p := ⟨_, rfl⟩
  rw [← hf] at hcount
  have HCN := hid hcount
  have HWI := hid hwithin
  have HFE := hid hf
  have HB5d : Hid (Below (w.heap.size + 1 + 1) W0 w5.drew) := HB5.out.drew
  have hs5d : W0.heap.size ≤ w5.drew.heap.size := HB5d.out.size
  have HPl5d : Hid (Parsed w4.heap.size w5.drew (.slice la l.length lc) l) := HPl.out.kept ((Below.refl _ _).drew)
  have HC := HC20.out w5.drew HB5d.out
  have hptn : p < tn + 1 := by have := HPL.out; have := HTL.out; omega
  have hptI : (p : Int) < ((tn + 1 : Nat) : Int) := by omega
  have hptJ : (p : Int) < (tn : Int) + 1 := by omega
  clear hcount hwithin HPl hf
  go_cut [11] from 47 to 54 (fun x wx => ∃ (r : Nat), x = .slice (some ⟨r, 0, none⟩) (tn + 1) (tn + 1) ∧ Hid (Parsed w4.heap.size wx (.slice la l.length lc) l) ∧ Hid (BR wx r (tn + 1) f) ∧ Hid (Below (w.heap.size + 1 + 1) W0 wx))
  case first =>
    go_region_with (first | (go_at_call 20; (with_reducible refine HC.mono ?_); rintro e w6 ⟨g, cap, rs, rfl, hT6, hb6⟩; have HB6 : Hid (Below (w.heap.size + 1 + 1) W0 w6) := HB5d.out.trans (Joins.below_le hb6 (by omega)); have HPl6 : Hid (Parsed w4.heap.size w6 (.slice la l.length lc) l) := HPl5d.out.kept hb6; have y16 := (HSX.out w6 HB6.out).2.2.2.2.2.2.2.2.2.2; have u1 := hT6.outer hptn; have HR6 : Hid (BR w6 (rs.getD p 0) (tn + 1) f) := (by rw [HFE.out]; exact hT6.br p hptn); obtain ⟨r, hr⟩ : ∃ r, r = rs.getD p 0 := ⟨_, rfl⟩; rw [← hr] at u1 HR6; clear hb6 hT6 hr HC))
    all_goals
      go_wp2
      go_meet
      exact ⟨r, rfl, HPl6, HR6, HB6⟩
  case rest =>
  obtain ⟨r, rfl, HPl, HR, HB⟩ := hcut
  obtain ⟨⟨o0, o1, o2, o3, o4, o5, o6, o7, o8⟩, ⟨y0, y1⟩, _⟩ := HQ.out wc HB.out
  have hsc : W0.heap.size ≤ wc.heap.size := HB.out.size
  have HC := ends22 _ _ l tn htn hLl wc HPl.out
  have eqq : decide (∀ j, j < tn + 1 → decide ((j : Int) ∈ l.map Prod.fst) = f j) = true := by
    simp only [decide_eq_true_eq]
    exact HCN.out.1
  have EQQ := hid eqq
  have HLL : Hid (l.length = cnt f (tn + 1)) := HCN.out.2
  clear eqq HPl5d HB5d
  go_upto_region 14 with (first | (go_at_call 22; (with_reducible refine HC.mono ?_); rintro e w7 ⟨rfl, hR7, hb7⟩; have HB7 : Hid (Below (w.heap.size + 1 + 1) W0 w7) := HB.out.trans (Joins.below_le hb7 (by omega)); have hs7 : W0.heap.size ≤ w7.heap.size := HB7.out.size; have HPl7 : Hid (Parsed w4.heap.size w7 (.slice la l.length lc) l) := HPl.out.kept hb7; have HR7 : Hid (BR w7 r (tn + 1) f) := HR.out.kept (hb7.block _ HR.out.lt); have HC2 := alike21 _ _ (tn + 1) (tn + 1) (tn + 1) _ _ (by omega) w7 hR7 HR7.out; rw [EQQ.out] at HC2; clear hb7 hR7 HC) | (go_at_call 21; (with_reducible refine HC2.mono ?_); rintro e w8 ⟨rfl, hb8⟩; have HB8 : Hid (Below (w.heap.size + 1 + 1) W0 w8) := HB7.out.trans (Joins.below_le hb8 (by omega)); have HPl8 : Hid (Parsed w4.heap.size w8 (.slice la l.length lc) l) := HPl7.out.kept hb8; have HR8 : Hid (BR w8 r (tn + 1) f) := HR7.out.kept (hb8.block _ HR7.out.lt); clear hb8 HC2))
  clear HPl HR HB HPl7 HR7 o0 o1 o2 o3 o4 o5 o6 o7 o8 y0 y1
  obtain ⟨n, hn⟩ : ∃ n, n = tn + 1 := ⟨_, rfl⟩
  rw [← hn] at HR8 HLL ⊢
  have HNN := hid hn
  have hn65 : n ≤ 65 := by omega
  clear hn hptn hptI hptJ
  go_wp2_with fail
  go_loopw [13, 14] (fun c x wq => ∃ (i m : Nat), c = .int .i64 (m : Int) ∧ x = .int .i64 (i : Int) ∧ i ≤ n ∧ m ≤ 65 ∧ Hid (m = cnt f i) ∧ wq = w8) (fun _ x _ => n - (intOf x).toNat)
  case atStart => exact ⟨0, 0, rfl, rfl, by omega, by omega, by exact rfl, rfl⟩
  case round =>
    obtain ⟨i, m, rfl, rfl, hi, hm, HM, rfl⟩ := hrel
    by_cases hlt : i < n
    · have b1 : decide ((i : Int) < (n : Int)) = true := by simp; omega
      have b2 : (i : Int) < (n : Int) := by omega
      have ad1 : IntKind.i64.wrap ((i : Int) + 1) = (i : Int) + 1 := by simp [IntKind.wrap, IntKind.bits, IntKind.signed]; omega
      have ad2 : IntKind.i64.wrap ((m : Int) + 1) = (m : Int) + 1 := by simp [IntKind.wrap, IntKind.bits, IntKind.signed]; omega
      have u1 := HR8.out.cell hlt
      have hstep := cnt_succ f i
      have hle := cnt_le f (i + 1)
      rw [← HM.out] at hstep
      cases hfi : f i with
      | true =>
        rw [hfi] at u1 hstep
        simp only [if_true] at hstep
        have HST := hid hstep.symm
        have hm1 : m + 1 ≤ 65 := by omega
        clear hstep hle hfi
        go_wp2
        exact ⟨⟨i + 1, m + 1, by push_cast; rfl, by push_cast; rfl, by omega, hm1, HST, by first | rfl | trivial⟩, by simp [intOf]; omega⟩
      | false =>
        rw [hfi] at u1 hstep
        simp only [Bool.false_eq_true, if_false, Nat.add_zero] at hstep
        have HST := hid hstep.symm
        clear hstep hle hfi
        go_wp2
        exact ⟨⟨i + 1, m, rfl, by push_cast; rfl, by omega, hm, HST, by first | rfl | trivial⟩, by simp [intOf]; omega⟩
    · have b1 : decide ((i : Int) < (n : Int)) = false := by simp; omega
      obtain rfl : i = n := by omega
      have hlm : l.length = m := by rw [HLL.out, HM.out]
      have HLM := hid hlm
      rw [hlm] at HPl8 ⊢
      have e0 : ((0 : Int) != 0) = false := by decide
      have e1 : ((m : Int) != (m : Int)) = false := by simp
      clear hlm HM HLL
      obtain ⟨⟨o0, o1, o2, o3, o4, o5, o6, o7, o8⟩, ⟨y0, y1⟩, _⟩ := HQ.out wr HB8.out
      have hs8 : W0.heap.size ≤ wr.heap.size := HB8.out.size
      have HC := HC15.out wr HB8.out
      obtain ⟨G2, hG2⟩ : ∃ G2 : Int, G2 = 2 * (G : Int) := ⟨_, rfl⟩
      obtain ⟨K, hK⟩ : ∃ K : Nat, K = 2 * G + 2 := ⟨_, rfl⟩
      have wk1 : IntKind.i64.wrap (2 * (G : Int)) = G2 := by simp [IntKind.wrap, IntKind.bits, IntKind.signed]; omega
      have wk2 : IntKind.i64.wrap (G2 + 2) = (K : Int) := by simp [IntKind.wrap, IntKind.bits, IntKind.signed]; omega
      have hKb : K ≤ 1002 := by omega
      have HK := hid hK
      rw [← hK] at HWI
      clear hK hG2
      go_wp2_with (first | (go_at_call 15; (with_reducible refine HC.mono ?_); rintro e w9 ⟨rfl, hb9⟩; have HB9 : Hid (Below (w.heap.size + 1 + 1) W0 w9) := HB8.out.trans (Joins.below_le hb9 (by omega)); have HPl9 : Hid (Parsed w4.heap.size w9 (.slice la m lc) l) := HPl8.out.kept hb9; clear hb9 HC o0 o1 o2 o3 o4 o5 o6 o7 o8 y0 y1))
      go_loopw [16] (fun x wq => ∃ i : Nat, x = .int .i64 (i : Int) ∧ i ≤ m ∧ Hid (Parsed w4.heap.size wq (.slice la m lc) l) ∧ Hid (Below (w.heap.size + 1 + 1) W0 wq)) (fun x _ => m - (intOf x).toNat)
      case atStart => exact ⟨0, rfl, by omega, HPl9, HB9⟩
      case round =>
        clear HPl9 HB9 HPl8 HB8
        obtain ⟨c, rfl, hc, HP, HBB⟩ := hrel
        by_cases hlc : c < m
        · have c1 : decide ((c : Int) < (m : Int)) = true := by simp; omega
          have c2 : (c : Int) < (m : Int) := by omega
          have ad3 : IntKind.i64.wrap ((c : Int) + 1) = (c : Int) + 1 := by simp [IntKind.wrap, IntKind.bits, IntKind.signed]; omega
          have hcl : c < l.length := by rw [HLM.out]; exact hlc
          have hW := HWI.out l[c] (List.getElem_mem hcl)
          obtain ⟨b, cap, hla⟩ : ∃ b cap, Value.slice la m lc = .slice (some ⟨b, 0, none⟩) m cap := by
            rcases HP.out.ends with ⟨_, h0⟩ | ⟨b, cap, e, _⟩
            · rw [h0] at hcl; simp at hcl
            · rw [HLM.out] at e; exact ⟨b, cap, e⟩
          simp only [Value.slice.injEq] at hla
          obtain ⟨rfl, _, rfl⟩ := hla
          obtain ⟨cb, cc, v1, v2⟩ := HP.out.caps c hcl (by rw [hW.len]; have := HK.out; omega)
          have v0 : wr.cell? ⟨b, c * 2, none⟩ = some (.int .i64 l[c].1) := by
            rcases HP.out.ends with ⟨h0, _⟩ | ⟨b', cap', e, _, _, hcc⟩
            · cases h0
            · simp only [Value.slice.injEq, Option.some.injEq, Addr.mk.injEq] at e
              obtain ⟨⟨rfl, _⟩, _⟩ := e
              exact hcc c hcl
          rw [hW.len] at v1 v2
          have k0 := v2 0 (by have := HK.out; omega)
          have k1 := v2 1 (by have := HK.out; omega)
          rw [hW.zero] at k0
          rw [hW.one] at k1
          have hblk : cb < wr.heap.size := World.block_lt_of_cell? _ _ k0
          have hgrp := hW.grp
          obtain ⟨E, hE⟩ : ∃ E, E = l[c].1 := ⟨_, rfl⟩
          obtain ⟨cp, hcp⟩ : ∃ cp, cp = l[c].2 := ⟨_, rfl⟩
          rw [← hE] at v0 k1 hgrp
          rw [← hcp] at v2 hgrp
          obtain ⟨⟨o0, o1, o2, o3, o4, o5, o6, o7, o8⟩, ⟨y0, y1⟩, _⟩ := HQ.out wr HBB.out
          have HV2 := hid v2
          have HGR := hid hgrp
          have HBL := hid hblk
          have f1 : ((K : Int) != (K : Int)) = false := by simp
          have f2 : ((p : Int) != (p : Int)) = false := by simp
          have f3 : (E != E) = false := by simp
          have i0 : (0 : Int) < (K : Int) := by have := HK.out; omega
          have i1 : (1 : Int) < (K : Int) := by have := HK.out; omega
          have hbb : b < wr.heap.size := World.block_lt_of_cell? _ _ v0
          have HBBB := hid hbb
          obtain ⟨WR, hWR⟩ : ∃ WR, WR = wr := ⟨_, rfl⟩
          subst hWR
          clear v2 hgrp hblk hE hcp hW hcl o0 o1 o2 o3 o4 o5 o6 o7 o8 y0 hbb
          go_wp2_with fail
          go_quiet (fail)
          go_wp2_with fail
          go_loopw [18] (fun x wq => ∃ kk : Nat, x = .int .i64 (kk : Int) ∧ kk ≤ K ∧ Hid (∃ j, kk = 2 * j ∧ 1 ≤ j) ∧ Hid (Below WR.heap.size WR wq)) (fun x _ => K - (intOf x).toNat)
          case atStart => exact ⟨2, rfl, by have := HK.out; omega, by exact ⟨1, rfl, Nat.le_refl _⟩, by exact below_drewN (Below.refl _ _) _⟩
          case round =>
            obtain ⟨kk, rfl, hkk, HJ, BB⟩ := hrel
            by_cases hlk : kk < K
            · obtain ⟨j, hj1, hj2⟩ := HJ.out
              have hk1K : kk + 1 < K := by have := HK.out; omega
              have g1 : decide ((kk : Int) < (K : Int)) = true := by simp; omega
              have g2 : (kk : Int) < (K : Int) := by omega
              obtain ⟨k1', hk1⟩ : ∃ k1 : Nat, k1 = kk + 1 := ⟨_, rfl⟩
              obtain ⟨k2', hk2⟩ : ∃ k2 : Nat, k2 = kk + 2 := ⟨_, rfl⟩
              have ad4 : IntKind.i64.wrap ((kk : Int) + 1) = (k1' : Int) := by simp [IntKind.wrap, IntKind.bits, IntKind.signed]; omega
              have ad5 : IntKind.i64.wrap ((kk : Int) + 2) = (k2' : Int) := by simp [IntKind.wrap, IntKind.bits, IntKind.signed]; omega
              have g3 : (k1' : Int) < (K : Int) := by omega
              have x1 := (BB.out.cell (p := ⟨cb, kk, none⟩) HBL.out).trans (HV2.out kk hlk)
              have x2 := (BB.out.cell (p := ⟨cb, k1', none⟩) HBL.out).trans (HV2.out k1' (by omega))
              have hg := HGR.out j hj2 (by omega)
              rw [← hj1, ← hk1] at hg
              have v0' := (BB.out.cell (p := ⟨b, c * 2, none⟩) HBBB.out).trans v0
              have y1' := (BB.out.cell (p := ⟨w.heap.size + 1, 1, none⟩) (by show w.heap.size + 1 < WR.heap.size; have := HBB.out.size; omega)).trans y1
              have HJ2 : Hid (∃ j, k2' = 2 * j ∧ 1 ≤ j) := ⟨j + 1, by omega, by omega⟩
              have HK2 := hid hk2
              obtain ⟨X, hX⟩ : ∃ X, X = cp.getD kk 0 := ⟨_, rfl⟩
              obtain ⟨Y, hY⟩ : ∃ Y, Y = cp.getD k1' 0 := ⟨_, rfl⟩
              rw [← hX] at x1 hg
              rw [← hY] at x2 hg
              clear hj1 hj2 hX hY hk1 hk2 HJ
              rcases hg with ⟨rfl, rfl⟩ | ⟨q1, q2, q3⟩
              · go_wp2
                exact ⟨⟨k2', rfl, by have := HK2.out; have := HK.out; obtain ⟨j, hj, _⟩ := HJ2.out; omega, HJ2, BB⟩, by have := HK2.out; simp [intOf]; omega⟩
              · have r1 : (X == -1) = false := by simp; omega
                have r2 : decide (X < (p : Int)) = false := by simp; omega
                have r3 : decide (X > Y) = false := by simp; omega
                have r3' : decide (Y < X) = false := by simp; omega
                have r4 : decide (Y > E) = false := by simp; omega
                have r4' : decide (E < Y) = false := by simp; omega
                clear q1 q2 q3
                go_wp2_with fail
                go_quiet (fail)
                go_wp2
                exact ⟨⟨k2', rfl, by have := HK2.out; have := HK.out; obtain ⟨j, hj, _⟩ := HJ2.out; omega, HJ2, by exact below_drewN BB.out _⟩, by have := HK2.out; simp [intOf]; omega⟩
            · have g1 : decide ((kk : Int) < (K : Int)) = false := by simp; omega
              go_wp2
              exact ⟨⟨c + 1, by push_cast; rfl, by omega, by exact HP.out.kept BB.out, by exact HBB.out.trans (Joins.below_le BB.out (by have := HBB.out.size; omega))⟩, by simp [intOf]; omega⟩
        · have c1 : decide ((c : Int) < (m : Int)) = false := by simp; omega
          go_wp2
          go_ret
          exact ⟨rfl, HX.out _ HBB.out⟩
end Go.Proofs.Ytnpocciioedgpaa
/- HELPERS: two lists of parses that hold the same are the same. -/
namespace Go.Proofs.Ytnpocciioedgpaa
open Go.RowKit
set_option linter.unusedVariables false
set_option linter.unusedSimpArgs false
theorem lt_cell {w : World} {b o : Nat} {v : Value} (h : w.cell? ⟨b, o, none⟩ = some v) : b < w.heap.size := by
  by_cases hb : b < w.heap.size
  · exact hb
  · simp [World.cell?, Array.getElem?_eq_none (Nat.le_of_not_lt hb)] at h
theorem below_drew1 (w : World) : Below w.heap.size w w.drew := ⟨rfl, rfl, rfl, Nat.le_refl _, fun _ _ => rfl⟩
theorem text_lt {N : Nat} {w : World} {ad : Option Addr} {n : Nat} {l : List Int} (h : Look.TextAt N w ad n l) (hN : N ≤ w.heap.size) : Look.TextAt w.heap.size w ad n l := by
  obtain ⟨h1, h2, h | ⟨b, off, ha, hb, hc⟩⟩ := h
  · exact ⟨h1, h2, .inl h⟩
  · exact ⟨h1, h2, .inr ⟨b, off, ha, by omega, hc⟩⟩
set_option maxRecDepth 100000 in
set_option maxHeartbeats 4000000 in
theorem sameInts41 (L : List Int) (a1 a2 : Option Addr) (n c1 c2 : Nat) (w : World) (h1 : Look.TextAt w.heap.size w a1 n L) (h2 : Look.TextAt w.heap.size w a2 n L) :
    Calls Try.prog 41 #[.slice a1 n c1, .slice a2 n c2] w fun e w' => e = .returned (.bool true) ∧ Below w.heap.size w w' := by
  have hm : n ≤ 35184372088832 := h1.2.1
  have H1 := hid h1
  have H2 := hid h2
  have hnn : ((n : Int) != (n : Int)) = false := by simp
  clear h1 h2
  go_enter Try.func41, Try.ntmps41
  go_wp2_with fail
  go_loopw [5] (fun y wq => ∃ i : Nat, y = .int .i64 (i : Int) ∧ i ≤ n ∧ Hid (Below w.heap.size w wq)) (fun y _ => n - (intOf y).toNat)
  case atStart => exact ⟨0, rfl, by omega, hid (Below.refl _ _)⟩
  case round =>
    obtain ⟨i, rfl, hi, HB⟩ := hrel
    by_cases hlt : i < n
    · have b1 : decide ((i : Int) < (n : Int)) = true := by simp; omega
      have b2 : (i : Int) < (n : Int) := by omega
      have ad1 : IntKind.i64.wrap ((i : Int) + 1) = (i : Int) + 1 := by simp [IntKind.wrap, IntKind.bits, IntKind.signed]; omega
      obtain ⟨x, xo, rfl, -, hx⟩ := text_cell (H1.out.below HB.out) hlt
      obtain ⟨z, zo, rfl, -, hz⟩ := text_cell (H2.out.below HB.out) hlt
      obtain ⟨c, hc⟩ : ∃ c, c = L.getD i 0 := ⟨_, rfl⟩
      rw [← hc] at hx hz
      have g1 : (c != c) = false := by simp
      have HB2 := hid (HB.out.trans (Joins.below_le (below_drew1 wr) HB.out.size))
      clear hc
      go_wp2_with fail
      go_region
      all_goals
        go_wp2_with fail
        exact ⟨⟨i + 1, by push_cast; rfl, by omega, HB2⟩, by simp [intOf]; omega⟩
    · have b1 : decide ((i : Int) < (n : Int)) = false := by simp; omega
      go_wp2_with fail
      go_ret
      exact ⟨rfl, HB.out⟩
/-- a parse's captures, as a row that may be read -/
theorem Parsed.row {N : Nat} {w : World} {v : Value} {l : List (Int × List Int)} (h : Parsed N w v l) (i : Nat) (hi : i < l.length) (hl : l[i].2.length ≤ 35184372088832) : ∃ b cap ad c, v = .slice (some ⟨b, 0, none⟩) l.length cap ∧ w.cell? ⟨b, i * 2, none⟩ = some (.int .i64 l[i].1) ∧ w.cell? ⟨b, i * 2 + 1, none⟩ = some (.slice ad l[i].2.length c) ∧ Look.TextAt w.heap.size w ad l[i].2.length l[i].2 := by
  obtain ⟨cs, F, h1, h2⟩ := h
  obtain ⟨cv, h3, h4⟩ := h2.caps i hi
  have h5 := h2.ends i hi
  rcases Joins.ownsRow_forms h1 with ⟨_, e⟩ | ⟨b, cap, e⟩
  · omega
  · subst e
    obtain ⟨ad, c, rfl, _, ht⟩ := own_text h4 hl
    have hcs := h1.1
    refine ⟨b, cap, ad, c, rfl, ?_, ?_, ht⟩
    · rw [h1.cellAt (i * 2) (by omega), h5]
    · rw [h1.cellAt (i * 2 + 1) (by omega), h3]
theorem en41 : ∀ (args : Array Value) (w : World), (callFunc 41 args).run Try.prog w = .ok (.enter 41 args) w := enter_of Try.func41 (by kernel_rfl) rfl
set_option maxRecDepth 100000 in
set_option maxHeartbeats 4000000 in
theorem same19 {N1 N2 : Nat} (l : List (Int × List Int)) (v1 v2 : Value) (w : World) (h1 : Parsed N1 w v1 l) (h2 : Parsed N2 w v2 l) (hl : l.length ≤ 1000000) (hc : ∀ x ∈ l, x.2.length ≤ 1000000) :
    Calls Try.prog 19 #[v1, v2] w fun e w' => e = .returned (.bool true) ∧ Below w.heap.size w w' := by
  obtain ⟨a1, c1, rfl⟩ := h1.form
  obtain ⟨a2, c2, rfl⟩ := h2.form
  obtain ⟨n, hn⟩ : ∃ n, n = l.length := ⟨_, rfl⟩
  have HN := hid hn
  have H1 := hid h1
  have H2 := hid h2
  have HCC := hid hc
  rw [← hn] at hl ⊢
  have hnn : ((n : Int) != (n : Int)) = false := by simp
  clear h1 h2 hc hn
  go_enter Try.func19, Try.ntmps19
  go_wp2_with fail
  go_loopw [5] (fun y wq => ∃ i : Nat, y = .int .i64 (i : Int) ∧ i ≤ n ∧ Hid (Below w.heap.size w wq)) (fun y _ => n - (intOf y).toNat)
  case atStart => exact ⟨0, rfl, by omega, hid (Below.refl _ _)⟩
  case round =>
    obtain ⟨i, rfl, hi, HB⟩ := hrel
    by_cases hlt : i < n
    · have b1 : decide ((i : Int) < (n : Int)) = true := by simp; omega
      have b2 : (i : Int) < (n : Int) := by omega
      have ad1 : IntKind.i64.wrap ((i : Int) + 1) = (i : Int) + 1 := by simp [IntKind.wrap, IntKind.bits, IntKind.signed]; omega
      have hil : i < l.length := by rw [← HN.out]; exact hlt
      have hcl := HCC.out l[i] (List.getElem_mem hil)
      have K1 : ∀ V, Below w.heap.size w V → ∃ b ad c, a1 = some ⟨b, 0, none⟩ ∧ V.cell? ⟨b, i * 2, none⟩ = some (.int .i64 l[i].1) ∧ V.cell? ⟨b, i * 2 + 1, none⟩ = some (.slice ad l[i].2.length c) ∧ Look.TextAt V.heap.size V ad l[i].2.length l[i].2 := fun V hV => by
        obtain ⟨b, cap, ad, c, e, x1, x2, x3⟩ := (H1.out.kept hV).row i hil (by omega)
        simp only [Value.slice.injEq] at e
        exact ⟨b, ad, c, e.1, x1, x2, x3⟩
      have K2 : ∀ V, Below w.heap.size w V → ∃ b ad c, a2 = some ⟨b, 0, none⟩ ∧ V.cell? ⟨b, i * 2, none⟩ = some (.int .i64 l[i].1) ∧ V.cell? ⟨b, i * 2 + 1, none⟩ = some (.slice ad l[i].2.length c) ∧ Look.TextAt V.heap.size V ad l[i].2.length l[i].2 := fun V hV => by
        obtain ⟨b, cap, ad, c, e, x1, x2, x3⟩ := (H2.out.kept hV).row i hil (by omega)
        simp only [Value.slice.injEq] at e
        exact ⟨b, ad, c, e.1, x1, x2, x3⟩
      obtain ⟨p, ad, cc, rfl, x1, x2, x3⟩ := K1 wr HB.out
      obtain ⟨q, ad2, cc2, rfl, y1, y2, y3⟩ := K2 wr HB.out
      obtain ⟨m, hm⟩ : ∃ m, m = l[i].2.length := ⟨_, rfl⟩
      obtain ⟨e, he⟩ : ∃ e, e = l[i].1 := ⟨_, rfl⟩
      rw [← hm] at x2 y2 x3 y3
      rw [← he] at x1 y1
      have HC := sameInts41 l[i].2 ad ad2 m cc cc2 wr.drew x3 y3
      have HS : Hid (∀ V, Below wr.heap.size wr V → (V.cell? ⟨p, i * 2, none⟩ = some (.int .i64 e) ∧ V.cell? ⟨q, i * 2, none⟩ = some (.int .i64 e)) ∧ V.cell? ⟨p, i * 2 + 1, none⟩ = some (.slice ad m cc) ∧ V.cell? ⟨q, i * 2 + 1, none⟩ = some (.slice ad2 m cc2)) := fun V hV => by
        have hp := lt_cell x1
        have hq := lt_cell y1
        exact ⟨⟨(cell_eq (hV.block p hp) _).trans x1, (cell_eq (hV.block q hq) _).trans y1⟩, (cell_eq (hV.block p hp) _).trans x2, (cell_eq (hV.block q hq) _).trans y2⟩
      have g1 : (e != e) = false := by simp
      clear hm he x3 y3 K1 K2 hcl
      go_upto_region 6 with fail
      refine wp_region_lexF [0, 1, 2, 3, 4, 5, 6, 7, 8, 9] [10, 11] (fun W => W.cell? ⟨p, i * 2 + 1, none⟩ = some (.slice ad m cc) ∧ W.cell? ⟨q, i * 2 + 1, none⟩ = some (.slice ad2 m cc2)) (by kernel_rfl) (by kernel_rfl) rfl (by kernel_rfl) (by kernel_rfl) ⟨x2, y2⟩ ?_
      simp only [opsAt, opsNo, List.getElem?_toArray, List.getElem?_cons_zero, List.getElem?_cons_succ]
      iterate 10
        refine lex_cons ?_ rfl (fun W hW => ?_) (fun _ _ _ h => h) ?_
        rotate_left
        · obtain ⟨s0, s1'⟩ := hW
          go_simp <;> with_reducible rfl
        simp only [Act.put, List.setIfInBounds_toArray, List.set_cons_zero, List.set_cons_succ]
      refine lex_nil (tailK_cons fun K hK => ?_)
      refine step_call2 rfl 41 (.tmp 22) (.tmp 27) 29 29 rfl en41 ?_
      refine HC.mono ?_
      rintro e' w3 ⟨rfl, hb3⟩
      have hb3' : Below wr.heap.size wr w3 := (below_drew1 wr).trans hb3
      obtain ⟨⟨t1, t2⟩, t3⟩ := HS.out w3 hb3'
      refine ⟨_, rfl, hK.out _ _ (fun _ => t3) (tailK_cons fun K hK => ?_)⟩
      simp only [Act.put, List.setIfInBounds_toArray, List.set_cons_zero, List.set_cons_succ]
      go_simp
      refine hK.out _ _ (fun _ => t3) (tailK_nil ?_)
      try simp only [Act.put, List.setIfInBounds_toArray, List.set_cons_zero, List.set_cons_succ]
      have HB3 : Hid (Below w.heap.size w w3) := hid (HB.out.trans (Joins.below_le hb3' HB.out.size))
      have HB4 : Hid (Below w.heap.size w w3.drew) := hid (HB3.out.trans (Joins.below_le (below_drew1 w3) HB3.out.size))
      clear hb3 hb3' HC x1 x2 y1 y2 t3
      go_wp2_with fail
      go_region
      all_goals
        go_wp2_with fail
        exact ⟨⟨i + 1, by push_cast; rfl, by omega, HB4⟩, by simp [intOf]; omega⟩
    · have b1 : decide ((i : Int) < (n : Int)) = false := by simp; omega
      go_wp2_with fail
      go_ret
      exact ⟨rfl, HB.out⟩
end Go.Proofs.Ytnpocciioedgpaa
/- HELPERS: counts and rows of trees, written as trees. -/
namespace Go.Proofs.Ytnpocciioedgpaa
open Go.RowKit
set_option linter.unusedVariables false
set_option linter.unusedSimpArgs false
theorem n9_block {w : World} {b : Nat} {N : Nv} {t : TypeId} (h : w.heap[b]? = some (.cells #[.int .i64 N.k, .slice N.r1 N.r2 N.r3, .int .i64 N.a2, .slice N.s1 N.s2 N.s3, .int .i64 N.a4, .int .i64 N.a5, .bool N.a6, .int .i64 N.a7, .string N.a8] t (0, 0))) : N9 w b 0 0 N := by
  have := nine' h
  simpa [N9] using this
theorem i64_0 : I64ok 0 := by decide
theorem i64_1 : I64ok 1 := by decide
theorem i64_4 : I64ok 4 := by decide
theorem i64_6 : I64ok 6 := by decide
theorem size_0 : (⟨#[]⟩ : ByteArray).size ≤ maxLen := by decide
theorem le_0 : 0 ≤ 0 ∧ 0 ≤ maxLen := by simp [maxLen]
theorem le_1 : 1 ≤ 1 ∧ 1 ≤ maxLen := by simp [maxLen]
set_option maxRecDepth 100000 in
set_option maxHeartbeats 4000000 in
theorem loop33 (X : Nv) (x : Tn) (A : Nat → Prop) (mn mx : Int) (lz : Bool) (w : World) (hX : TP w A X x) (hA : ∀ b, A b → b < w.heap.size) (hmn : I64ok mn) (hmx : I64ok mx) :
    Calls Try.prog 33 #[X.v, .int .i64 mn, .int .i64 mx, .bool lz] w fun e w' => ∃ M : Nv, e = .returned M.v ∧ TP w' (fun b => A b ∨ w.heap.size ≤ b ∧ b < w'.heap.size) M (loopN x mn mx lz) ∧ Below w.heap.size w w' := by
  have HX := hid hX
  have HA := hid hA
  obtain ⟨k, r1, r2, r3, a2, s1, s2, s3, a4, a5, a6, a7, a8⟩ := X
  clear hX hA
  go_enter Try.func33, Try.ntmps33
  go_wp2
  obtain ⟨V, hV⟩ : ∃ V, V = ((w.alloc (.cells #[.int .i64 k, .slice r1 r2 r3, .int .i64 a2, .slice s1 s2 s3, .int .i64 a4, .int .i64 a5, .bool a6, .int .i64 a7, .string a8] 28)).alloc (.cells #[.int .i64 6, .slice none 0 0, .int .i64 0, .slice (some ⟨w.heap.size + 1 + 1, 0, none⟩) 1 1, .int .i64 mn, .int .i64 mx, .bool lz, .int .i64 0, .string ⟨#[]⟩] 28)).alloc (.cells #[.int .i64 k, .slice r1 r2 r3, .int .i64 a2, .slice s1 s2 s3, .int .i64 a4, .int .i64 a5, .bool a6, .int .i64 a7, .string a8] 28) := ⟨_, rfl⟩
  rw [← hV]
  have y1 : V.heap[w.heap.size + 1]? = some (.cells #[.int .i64 6, .slice none 0 0, .int .i64 0, .slice (some ⟨w.heap.size + 1 + 1, 0, none⟩) 1 1, .int .i64 mn, .int .i64 mx, .bool lz, .int .i64 0, .string ⟨#[]⟩] 28 (0, 0)) := by
    rw [hV]
    exact (heap_alloc_old _ _ (by simp)).trans (two_new w _ _ _)
  have y2 : V.heap[w.heap.size + 1 + 1]? = some (.cells #[.int .i64 k, .slice r1 r2 r3, .int .i64 a2, .slice s1 s2 s3, .int .i64 a4, .int .i64 a5, .bool a6, .int .i64 a7, .string a8] 28 (0, 0)) := by
    rw [hV]
    have h := heap_alloc_new ((w.alloc (.cells #[.int .i64 k, .slice r1 r2 r3, .int .i64 a2, .slice s1 s2 s3, .int .i64 a4, .int .i64 a5, .bool a6, .int .i64 a7, .string a8] 28)).alloc (.cells #[.int .i64 6, .slice none 0 0, .int .i64 0, .slice (some ⟨w.heap.size + 1 + 1, 0, none⟩) 1 1, .int .i64 mn, .int .i64 mx, .bool lz, .int .i64 0, .string ⟨#[]⟩] 28)) (.cells #[.int .i64 k, .slice r1 r2 r3, .int .i64 a2, .slice s1 s2 s3, .int .i64 a4, .int .i64 a5, .bool a6, .int .i64 a7, .string a8] 28)
    simpa using h
  have hs : V.heap.size = w.heap.size + 1 + 1 + 1 := by rw [hV]; simp
  have hb : Below w.heap.size w V := by
    rw [hV]
    exact (below_two' w _ _).trans (Joins.below_le (Joins.below_alloc1 _ _) (by simp; omega))
  clear hV
  refine bodyPost_ret (results_cell_row rfl _ _ (w.heap.size + 1) 28 _ (0, 0) _ rfl y1 Try.underlying28 rfl (by kernel_rfl)) rfl ?_
  refine ⟨⟨6, none, 0, 0, 0, some ⟨w.heap.size + 1 + 1, 0, none⟩, 1, 1, mn, mx, lz, 0, ⟨#[]⟩⟩, rfl, ?_, hb⟩
  refine TP.mk (ts := [x]) (R := []) (ND := fun _ => ⟨k, r1, r2, r3, a2, s1, s2, s3, a4, a5, a6, a7, a8⟩) ⟨i64_6, i64_0, hmn, hmx, i64_0, size_0, le_0, le_1⟩ rfl (fun h => absurd rfl h) (fun x hx => by cases hx) rfl (fun _ => ⟨w.heap.size + 1 + 1, 0, rfl, .inr ⟨by omega, by omega⟩, fun i hi => ?_⟩) (fun i hi => ?_)
  · simp at hi
    subst hi
    exact n9_block (N := ⟨k, r1, r2, r3, a2, s1, s2, s3, a4, a5, a6, a7, a8⟩) y2
  · simp at hi
    subst hi
    exact HX.out.kept (fun b hb' => hb.block b (HA.out b hb')) (fun b hb' => .inl hb')
set_option maxRecDepth 100000 in
set_option maxHeartbeats 4000000 in
theorem row34 {base B : Nat} (w : World) (a1 : Option Addr) (n cap : Nat) (MS : List Nv) (us : List Tn) (A : Nat → Prop) (h : RowN base B w (.slice a1 n cap) MS us A) (hn : n ≤ 1000000) :
    Calls Try.prog 34 #[.slice a1 n cap] w fun e w' => ∃ M : Nv, e = .returned M.v ∧ TP w' (fun b => A b ∨ (Value.slice a1 n cap).ownBlock = some b) M (rowN us) ∧ Below w.heap.size w w' := by
  have hl := h.len
  have hnl : n = MS.length := by
    rcases h.row.2 with ⟨e, h0⟩ | ⟨g, cap, cur, e, _⟩
    · simp only [Value.slice.injEq] at e; omega
    · simp only [Value.slice.injEq] at e; exact e.2.1
  have H := hid h
  have HL := hid hl
  have HNL := hid hnl
  by_cases c0 : n = 0
  · subst c0
    have hus : us = [] := List.length_eq_zero_iff.1 (by omega)
    subst hus
    clear h hl hnl
    go_enter Try.func34, Try.ntmps34
    go_wp2
    have y1 := heap_alloc_new w (.cells #[.int .i64 1, .slice none 0 0, .int .i64 0, .slice none 0 0, .int .i64 0, .int .i64 0, .bool false, .int .i64 0, .string ⟨#[]⟩] 28)
    refine bodyPost_ret (results_cell_row rfl _ _ w.heap.size 28 _ (0, 0) _ rfl y1 Try.underlying28 rfl (by kernel_rfl)) rfl ?_
    exact ⟨⟨1, none, 0, 0, 0, none, 0, 0, 0, 0, false, 0, ⟨#[]⟩⟩, rfl, TP.mk (ts := []) (R := []) (ND := fun _ => default) ⟨i64_1, i64_0, i64_0, i64_0, i64_0, size_0, le_0, le_0⟩ rfl (fun h => absurd rfl h) (fun x hx => by cases hx) rfl (fun h => absurd h (by simp)) (fun i hi => absurd hi (by simp)), Joins.below_alloc1 w _⟩
  · obtain ⟨b, cap', hf⟩ : ∃ b cap', Value.slice a1 n cap = .slice (some ⟨b, 0, none⟩) n cap' := by
      have := Joins.ownsRow_forms h.row
      rw [← hnl] at this
      rcases this with ⟨e, h0⟩ | ⟨b, cap', e⟩
      · omega
      · exact ⟨b, cap', e⟩
    simp only [Value.slice.injEq] at hf
    obtain ⟨rfl, _, rfl⟩ := hf
    have b0 : ((n : Int) == 0) = false := by simp; omega
    by_cases c1 : n = 1
    · subst c1
      obtain ⟨u, rfl⟩ : ∃ u, us = [u] := List.length_eq_one_iff.1 (by omega)
      obtain ⟨M, rfl⟩ : ∃ M, MS = [M] := List.length_eq_one_iff.1 (by omega)
      have hc := h.cells 0 (by simp)
      have htp := h.tp 0 (by simp) (by simp)
      simp only [List.getElem_cons_zero] at hc htp
      obtain ⟨n0', n1', n2', n3', n4', n5', n6', n7', n8'⟩ := hc
      simp only [Nat.zero_mul, Nat.add_zero, Nat.zero_add] at n0' n1' n2' n3' n4' n5' n6' n7' n8'
      have HTP := hid htp
      have hbl : b < w.heap.size := (h.row.lt b rfl).2
      clear h hl hnl htp c0
      go_enter Try.func34, Try.ntmps34
      go_wp2
      have y1 := heap_alloc_new w (.cells #[.int .i64 M.k, .slice M.r1 M.r2 M.r3, .int .i64 M.a2, .slice M.s1 M.s2 M.s3, .int .i64 M.a4, .int .i64 M.a5, .bool M.a6, .int .i64 M.a7, .string M.a8] 28)
      refine bodyPost_ret (results_cell_row rfl _ _ w.heap.size 28 _ (0, 0) _ rfl y1 Try.underlying28 rfl (by kernel_rfl)) rfl ?_
      exact ⟨M, rfl, HTP.out.kept (fun b' hb' => heap_alloc_old w _ (H.out.low b' hb')) (fun b' hb' => .inl hb'), Joins.below_alloc1 w _⟩
    · have b1 : ((n : Int) == 1) = false := by simp; omega
      have hrow : rowN us = .mk 4 [] 0 us 0 0 false 0 ⟨#[]⟩ := by
        have hul : 2 ≤ us.length := by omega
        match us, hul with
        | [], hl => simp at hl
        | [_], hl => simp at hl
        | _ :: _ :: _, _ => rfl
      rw [hrow]
      have HROW := hid hrow
      clear h hl hnl hrow c0 c1
      go_enter Try.func34, Try.ntmps34
      go_wp2
      have y1 := heap_alloc_new w (.cells #[.int .i64 4, .slice none 0 0, .int .i64 0, .slice (some ⟨b, 0, none⟩) n cap, .int .i64 0, .int .i64 0, .bool false, .int .i64 0, .string ⟨#[]⟩] 28)
      refine bodyPost_ret (results_cell_row rfl _ _ w.heap.size 28 _ (0, 0) _ rfl y1 Try.underlying28 rfl (by kernel_rfl)) rfl ?_
      have hcap : n ≤ cap ∧ cap ≤ maxLen := by
        rcases H.out.row.2 with ⟨e, h0⟩ | ⟨g, cap', cur, e, _, _, h2, h3, _⟩
        · cases e
        · simp only [Value.slice.injEq] at e
          obtain ⟨_, e2, rfl⟩ := e
          exact ⟨by omega, h3⟩
      have hTP := H.out.node (N := ⟨4, none, 0, 0, 0, some ⟨b, 0, none⟩, n, cap, 0, 0, false, 0, ⟨#[]⟩⟩) (R := []) ⟨i64_4, i64_0, i64_0, i64_0, i64_0, size_0, le_0, hcap⟩ rfl (fun h => absurd rfl h) (fun x hx => by cases hx) rfl
      refine ⟨⟨4, none, 0, 0, 0, some ⟨b, 0, none⟩, n, cap, 0, 0, false, 0, ⟨#[]⟩⟩, rfl, hTP.kept (fun b' hb' => heap_alloc_old w _ ?_) (fun b' hb' => hb'), Joins.below_alloc1 w _⟩
      rcases hb' with hb' | hb'
      · exact H.out.low b' hb'
      · exact (H.out.row.lt b' hb').2
end Go.Proofs.Ytnpocciioedgpaa
