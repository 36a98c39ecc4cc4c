/- PROVED: the law MeaningEnds of layer 6 answers true for every tree, text and place, and both read afterwards as they read before: the ends of the parses are just the places that tables from place to place tell, each once; captures lie within.
   CONDITIONS: none but the form's own (each slice and string at most 2^47 - 4096 bytes). -/
import Derived.Test.YtnpocciioedgpaaK08
import Derived.Test.YtnpocciioedgpaaRows
import Derived.OpenShut
import Derived.SizedLaws
import Derived.Lib.SmallJoins
/- HELPERS: the law MeaningEnds walked. -/
namespace Go.Proofs.Ytnpocciioedgpaa
open Go.RowKit
set_option linter.unusedVariables false
set_option linter.unusedSimpArgs false
/-- how many -/
def cnt (f : Nat → Bool) (i : Nat) : Nat := ((List.range i).filter f).length
theorem cnt_succ (f : Nat → Bool) (i : Nat) : cnt f (i + 1) = cnt f i + (if f i then 1 else 0) := by
  unfold cnt
  rw [List.range_succ, List.filter_append, List.length_append]
  cases h : f i <;> simp [h]
theorem cnt_le (f : Nat → Bool) (i : Nat) : cnt f i ≤ i := by
  unfold cnt
  have := List.length_filter_le f (List.range i)
  simpa using this
/-- the parses are as many as the places that the table tells -/
theorem PS.count {t : Tn} {K : Nat} {tx : List Int} {p : Nat} {l : List (Int × List Int)} (h : PS t K tx p l) (hf : t.fine = true) (hp : p < tx.length + 1) : (∀ q : Nat, q < tx.length + 1 → decide ((q : Int) ∈ l.map Prod.fst) = tab tx t p q) ∧ l.length = cnt (tab tx t p) (tx.length + 1) := by
  obtain ⟨h1, h2, h3⟩ := h.ends
  have hs := tab_says (tx := tx) t hf
  have hm : ∀ q : Nat, q < tx.length + 1 → ((q : Int) ∈ l.map Prod.fst ↔ tab tx t p q = true) := fun q hq => (h3 q).trans (hs p q hp hq).symm
  refine ⟨fun q hq => by rw [Bool.eq_iff_iff, decide_eq_true_eq]; exact hm q hq, ?_⟩
  have hA : ∀ x ∈ l.map Prod.fst, x ∈ ((List.range (tx.length + 1)).filter (tab tx t p)).map (fun q : Nat => (q : Int)) := fun x hx => by
    obtain ⟨e, he, rfl⟩ := List.mem_map.1 hx
    obtain ⟨q, hq⟩ := h2 e he
    have hx' : (q : Int) ∈ l.map Prod.fst := by rw [← hq]; exact List.mem_map_of_mem he
    have hlt : q < tx.length + 1 := Mt.stay t p q hp ((h3 q).1 hx')
    rw [hq]
    exact List.mem_map_of_mem (f := fun q : Nat => (q : Int)) (List.mem_filter.2 ⟨by simpa using hlt, (hm q hlt).1 hx'⟩)
  have hB : ∀ x ∈ ((List.range (tx.length + 1)).filter (tab tx t p)).map (fun q : Nat => (q : Int)), x ∈ l.map Prod.fst := fun x hx => by
    obtain ⟨q, hq, rfl⟩ := List.mem_map.1 hx
    obtain ⟨q1, q2⟩ := List.mem_filter.1 hq
    exact (hm q (by simpa using q1)).2 q2
  have hnd : (((List.range (tx.length + 1)).filter (tab tx t p)).map (fun q : Nat => (q : Int))).Nodup := by
    refine List.Pairwise.map _ ?_ (List.Pairwise.filter _ List.nodup_range)
    intro a b hab he
    exact hab (by omega)
  have l1 := nodup_le h1 hA
  have l2 := nodup_le hnd hB
  simp only [List.length_map] at l1 l2
  unfold cnt
  omega
theorem PR.caps {N : Nat} {w : World} {cs : List Value} {l : List (Int × List Int)} {F : List Nat} (h : PR N w cs l F) : ∀ (i : Nat) (hi : i < l.length), ∃ cv, cs[i * 2 + 1]? = some cv ∧ w.ownsRow N 3 1 cv l[i].2.length (I64 l[i].2) := by
  induction h with
  | nil => intro i hi; simp at hi
  | cons h hl ih =>
    intro i hi
    cases i with
    | zero => exact ⟨_, by simp, h⟩
    | succ i =>
      obtain ⟨cv, h1, h2⟩ := ih i (by simpa using hi)
      refine ⟨cv, ?_, by simpa using h2⟩
      rw [show (i + 1) * 2 + 1 = i * 2 + 1 + 1 + 1 by omega]
      simpa using h1
theorem Parsed.caps {N : Nat} {w : World} {b cap n : Nat} {l : List (Int × List Int)} (h : Parsed N w (.slice (some ⟨b, 0, none⟩) n cap) l) (i : Nat) (hi : i < l.length) (hc : 0 < l[i].2.length) : ∃ cb cc, w.cell? ⟨b, i * 2 + 1, none⟩ = some (.slice (some ⟨cb, 0, none⟩) l[i].2.length cc) ∧ ∀ j, j < l[i].2.length → w.cell? ⟨cb, j, none⟩ = some (.int .i64 (l[i].2.getD j 0)) := by
  obtain ⟨cs, F, h1, h2⟩ := h
  obtain ⟨cv, q1, q2⟩ := h2.caps i hi
  obtain ⟨cb, cc, rfl⟩ := Joins.ownsRow_form q2 hc
  have hn : n = l.length := by
    rcases h1.2 with ⟨e, h0⟩ | ⟨g, cap', cur, e, _⟩
    · cases e
    · simp only [Value.slice.injEq] at e
      exact e.2.1
  subst hn
  refine ⟨cb, cc, ?_, fun j hj => ?_⟩
  · have hl : cs.length = l.length * 2 := h1.1
    rw [h1.cellAt (i * 2 + 1) (by omega), q1]
  · rw [q2.cellAt j (by simpa using hj)]
    simp [List.getD_eq_getElem?_getD, List.getElem?_eq_getElem hj]
set_option maxRecDepth 100000 in
set_option maxHeartbeats 4000000 in
theorem ends5_out (N : Nv) (t : Tn) (tx : List Int) (ad : Option Addr) (tn tcap : Nat) (at_ : Int) (w : World) (hTI : TI w w.heap.size N t) (htx : Look.TextAt w.heap.size w ad tn tx) (htc : tn ≤ tcap) (hout : mayB t tn at_ = false) :
    Calls Try.prog 5 #[N.v, .agg #[.slice ad tn tcap, .int .i64 at_]] w fun e w' => e = .returned (.bool true) ∧ Below w.heap.size w w' := by
  obtain ⟨W0, hW0⟩ : ∃ W0, W0 = (w.alloc N.ob).alloc (Xob ad tn tcap at_) := ⟨_, rfl⟩
  have hq := boxes (tcap := tcap) (at_ := at_) hTI htx
  rw [← hW0] at hq
  have hs0 : W0.heap.size = w.heap.size + 1 + 1 := by rw [hW0]; simp
  have HB0 : Hid (Below (w.heap.size + 1 + 1) W0 W0) := Below.refl _ _
  have htm : tn ≤ 35184372088832 := htx.2.1
  have c10 : ∀ W, Below (w.heap.size + 1 + 1) W0 W → Calls Try.prog 10 #[N.v] W fun e w' => e = .returned (.bool (decide (4194304 < t.nodes))) ∧ Below W.heap.size W w' := fun W hB => deep10 (hq W hB).2.2.1
  have c11 : ∀ W, Below (w.heap.size + 1 + 1) W0 W → Calls Try.prog 11 #[N.v, .slice ad tn tcap] W fun e w' => e = .returned (.bool (muchB t tn)) ∧ Below W.heap.size W w' := fun W hB => much11 N t ad tn tcap W (hq W hB).2.2.1 htm
  have c12 : ∀ W, Below (w.heap.size + 1 + 1) W0 W → Calls Try.prog 12 #[N.v, .agg #[.slice ad tn tcap, .int .i64 at_]] W fun e w' => e = .returned (.bool (mayB t tn at_)) ∧ Below W.heap.size W w' := fun W hB => may12 N t ad tn tcap at_ W (hq W hB).2.2.1 htm
  rw [hout] at c12
  obtain ⟨dp, hdp⟩ : ∃ dp, dp = decide (4194304 < t.nodes) := ⟨_, rfl⟩
  obtain ⟨mu, hmu⟩ : ∃ mu, mu = muchB t tn := ⟨_, rfl⟩
  rw [← hdp] at c10
  rw [← hmu] at c11
  clear hdp hmu hout
  obtain ⟨k, r1, r2, r3, a2, s1, s2, s3, a4, a5, a6, a7, a8⟩ := N
  dsimp only at hq c10 c11 c12
  have hx : ∀ W, Below (w.heap.size + 1 + 1) W0 W → Below w.heap.size w W := fun W hB => (hq W hB).2.2.2.2
  have HX := hid hx
  have HQ := hid hq
  have HC10 := hid c10
  have HC11 := hid c11
  have HC12 := hid c12
  clear hTI htx hq c10 c11 c12 hx
  go_enter Try.func5, Try.ntmps5
  go_upto_region 1 with fail
  rw [← hW0]
  clear hW0
  obtain ⟨⟨o0, o1, o2, o3, o4, o5, o6, o7, o8⟩, ⟨y0, y1⟩, _⟩ := HQ.out W0 HB0.out
  have HC := HC10.out W0 HB0.out
  cases dp with
  | true =>
    go_wp2_with (first | (go_at_call 10; (with_reducible refine HC.mono ?_); rintro e w1 ⟨rfl, hb1⟩; have HB1 : Hid (Below (w.heap.size + 1 + 1) W0 w1) := HB0.out.trans (Joins.below_le hb1 (by omega)); clear hb1 HC))
    go_ret
    exact ⟨rfl, HX.out _ HB1.out⟩
  | false =>
  go_upto_region 4 with (first | (go_at_call 10; (with_reducible refine HC.mono ?_); rintro e w1 ⟨rfl, hb1⟩; have HB1 : Hid (Below (w.heap.size + 1 + 1) W0 w1) := HB0.out.trans (Joins.below_le hb1 (by omega)); clear hb1 HC o0 o1 o2 o3 o4 o5 o6 o7 o8 y0 y1))
  have hs1' : W0.heap.size ≤ w1.heap.size := HB1.out.size
  obtain ⟨⟨o0, o1, o2, o3, o4, o5, o6, o7, o8⟩, ⟨y0, y1⟩, _⟩ := HQ.out w1 HB1.out
  have HC := HC11.out w1 HB1.out
  cases mu with
  | true =>
    go_wp2_with (first | (go_at_call 11; (with_reducible refine HC.mono ?_); rintro e w2 ⟨rfl, hb2⟩; have HB2 : Hid (Below (w.heap.size + 1 + 1) W0 w2) := HB1.out.trans (Joins.below_le hb2 (by omega)); clear hb2 HC))
    go_ret
    exact ⟨rfl, HX.out _ HB2.out⟩
  | false =>
  go_upto_region 7 with (first | (go_at_call 11; (with_reducible refine HC.mono ?_); rintro e w2 ⟨rfl, hb2⟩; have HB2 : Hid (Below (w.heap.size + 1 + 1) W0 w2) := HB1.out.trans (Joins.below_le hb2 (by omega)); clear hb2 HC o0 o1 o2 o3 o4 o5 o6 o7 o8 y0 y1))
  have hs2' : W0.heap.size ≤ w2.heap.size := HB2.out.size
  obtain ⟨⟨o0, o1, o2, o3, o4, o5, o6, o7, o8⟩, ⟨y0, y1⟩, _⟩ := HQ.out w2 HB2.out
  have HC := awake8 w2
  go_upto_region 8 with (first | (go_at_call 8; (with_reducible refine HC.mono ?_); rintro e w3 ⟨rfl, hb3⟩; have HB3 : Hid (Below (w.heap.size + 1 + 1) W0 w3) := HB2.out.trans (Joins.below_le hb3 (by omega)); clear hb3 HC o0 o1 o2 o3 o4 o5 o6 o7 o8 y0 y1))
  have hs3' : W0.heap.size ≤ w3.heap.size := HB3.out.size
  obtain ⟨⟨o0, o1, o2, o3, o4, o5, o6, o7, o8⟩, ⟨y0, y1⟩, _⟩ := HQ.out w3 HB3.out
  have HC := HC12.out w3 HB3.out
  go_wp2_with (first | (go_at_call 12; (with_reducible refine HC.mono ?_); rintro e w4 ⟨rfl, hb4⟩; have HB4 : Hid (Below (w.heap.size + 1 + 1) W0 w4) := HB3.out.trans (Joins.below_le hb4 (by omega)); clear hb4 HC))
  go_ret
  exact ⟨rfl, HX.out _ HB4.out⟩
set_option maxRecDepth 100000 in
set_option maxHeartbeats 8000000 in
theorem ends5_in (N : Nv) (t : Tn) (tx : List Int) (ad : Option Addr) (tn tcap : Nat) (at_ : Int) (w : World) (hTI : TI w w.heap.size N t) (htx : Look.TextAt w.heap.size w ad tn tx) (htc : tn ≤ tcap) (hin : mayB t tn at_ = true) :
    Calls Try.prog 5 #[N.v, .agg #[.slice ad tn tcap, .int .i64 at_]] w fun e w' => e = .returned (.bool true) ∧ Below w.heap.size w w' := by
  obtain ⟨hsd, hsz, htn, ha0, ha1⟩ := mayB_parts hin
  obtain ⟨hfine, _, hnod⟩ := sound_parts hsd
  obtain ⟨W0, hW0⟩ : ∃ W0, W0 = (w.alloc N.ob).alloc (Xob ad tn tcap at_) := ⟨_, rfl⟩
  have hq := boxes (tcap := tcap) (at_ := at_) hTI htx
  rw [← hW0] at hq
  have hs0 : W0.heap.size = w.heap.size + 1 + 1 := by rw [hW0]; simp
  have HB0 : Hid (Below (w.heap.size + 1 + 1) W0 W0) := Below.refl _ _
  have htm : tn ≤ 35184372088832 := htx.2.1
  have c10 : ∀ W, Below (w.heap.size + 1 + 1) W0 W → Calls Try.prog 10 #[N.v] W fun e w' => e = .returned (.bool false) ∧ Below W.heap.size W w' := fun W hB => by have h := deep10 (hq W hB).2.2.1; rw [decide_eq_false (by omega)] at h; exact h
  have c11 : ∀ W, Below (w.heap.size + 1 + 1) W0 W → Calls Try.prog 11 #[N.v, .slice ad tn tcap] W fun e w' => e = .returned (.bool (muchB t tn)) ∧ Below W.heap.size W w' := fun W hB => much11 N t ad tn tcap W (hq W hB).2.2.1 htm
  have c12 : ∀ W, Below (w.heap.size + 1 + 1) W0 W → Calls Try.prog 12 #[N.v, .agg #[.slice ad tn tcap, .int .i64 at_]] W fun e w' => e = .returned (.bool true) ∧ Below W.heap.size W w' := fun W hB => by have h := may12 N t ad tn tcap at_ W (hq W hB).2.2.1 htm; rw [hin] at h; exact h
  have c13t : ∀ W, Below (w.heap.size + 1 + 1) W0 W → Calls Try.prog 13 #[N.v, .slice ad tn tcap, .int .i64 at_] W fun e w' => ∃ (a : Option Addr) (c : Nat) (l : List (Int × List Int)), e = .returned (.tuple #[.slice a l.length c, .int .i64 0]) ∧ Parsed W.heap.size w' (.slice a l.length c) l ∧ PS t t.notes tx at_.toNat l ∧ l.length ≤ 65 ∧ Below W.heap.size W w' := fun W hB => parses13ok (hq W hB).2.2.1 (hq W hB).2.2.2.1 htc (errP_zero hin hsd (Nat.le_refl _))
  obtain ⟨p, hpp⟩ : ∃ p : Nat, at_ = (p : Int) := ⟨at_.toNat, by omega⟩
  subst hpp
  obtain ⟨hg0, hg1⟩ := fine_gi t hfine
  obtain ⟨G, hG⟩ : ∃ G : Nat, t.gi = (G : Int) := ⟨t.gi.toNat, by omega⟩
  have hK : t.notes = 2 * G + 2 := by simp only [Tn.notes, hG]; omega
  have c20 : ∀ W, Below (w.heap.size + 1 + 1) W0 W → Calls Try.prog 20 #[N.v, .slice ad tn tcap] W (TabC W (tn + 1) (tab tx t)) := fun W hB => by
    have h0 := (hq W hB).2.2.2.2
    exact table20 hTI tx ad tn tcap (tn + 1) htx rfl htn hfine hnod W h0.size (fun b hb => h0.block b hb)
  have c15 : ∀ W, Below (w.heap.size + 1 + 1) W0 W → Calls Try.prog 15 #[N.v] W fun e w' => e = .returned (.int .i64 (G : Int)) ∧ Below W.heap.size W w' := fun W hB => by
    have h0 := (hq W hB).2.2.2.2
    have := greatest15 hTI W h0.size (fun b hb => h0.block b hb)
    rw [hG] at this
    exact this
  have hpl : p < tx.length + 1 := by have := htx.1; omega
  rw [hK] at c13t
  have hG5 : G ≤ 500 := by omega
  obtain ⟨mu, hmu⟩ : ∃ mu, mu = muchB t tn := ⟨_, rfl⟩
  rw [← hmu] at c11
  have htl : tx.length = tn := htx.1.symm
  clear hmu
  obtain ⟨k, r1, r2, r3, a2, s1, s2, s3, a4, a5, a6, a7, a8⟩ := N
  dsimp only at hq c10 c11 c12 c13t c20 c15
  have hx : ∀ W, Below (w.heap.size + 1 + 1) W0 W → Below w.heap.size w W := fun W hB => (hq W hB).2.2.2.2
  have hsx : ∀ W, Below (w.heap.size + 1 + 1) W0 W → W.cell? ⟨w.heap.size, 0, none⟩ = some (.int .i64 k) ∧ W.cell? ⟨w.heap.size, 1, none⟩ = some (.slice r1 r2 r3) ∧ W.cell? ⟨w.heap.size, 2, none⟩ = some (.int .i64 a2) ∧ W.cell? ⟨w.heap.size, 3, none⟩ = some (.slice s1 s2 s3) ∧ W.cell? ⟨w.heap.size, 4, none⟩ = some (.int .i64 a4) ∧ W.cell? ⟨w.heap.size, 5, none⟩ = some (.int .i64 a5) ∧ W.cell? ⟨w.heap.size, 6, none⟩ = some (.bool a6) ∧ W.cell? ⟨w.heap.size, 7, none⟩ = some (.int .i64 a7) ∧ W.cell? ⟨w.heap.size, 8, none⟩ = some (.string a8) ∧ W.cell? ⟨w.heap.size + 1, 0, none⟩ = some (.slice ad tn tcap) ∧ W.cell? ⟨w.heap.size + 1, 1, none⟩ = some (.int .i64 (p : Int)) := fun W hB => by obtain ⟨⟨o0, o1, o2, o3, o4, o5, o6, o7, o8⟩, ⟨y0, y1⟩, _⟩ := hq W hB; exact ⟨o0, o1, o2, o3, o4, o5, o6, o7, o8, y0, y1⟩
  have HX := hid hx
  have HSX := hid hsx
  have HQ := hid hq
  have HC10 := hid c10
  have HC11 := hid c11
  have HC12 := hid c12
  have HC13t := hid c13t
  have HF := hid hfine
  have HTL := hid htl
  have HC20 := hid c20
  have HC15 := hid c15
  have HPL := hid hpl
  have hf1 := t.fine_from1 HF.out
  have HF1 := hid hf1
  clear hTI htx hq c10 c11 c12 c13t hx hsx hfine htl hsd hsz hnod hin c20 c15 hpl hK hG hg0 hg1 hf1
  go_enter Try.func5, Try.ntmps5
  go_upto_region 1 with fail
  rw [← hW0]
  clear hW0
  obtain ⟨⟨o0, o1, o2, o3, o4, o5, o6, o7, o8⟩, ⟨y0, y1⟩, _⟩ := HQ.out W0 HB0.out
  have HC := HC10.out W0 HB0.out
  go_upto_region 4 with (first | (go_at_call 10; (with_reducible refine HC.mono ?_); rintro e w1 ⟨rfl, hb1⟩; have HB1 : Hid (Below (w.heap.size + 1 + 1) W0 w1) := HB0.out.trans (Joins.below_le hb1 (by omega)); clear hb1 HC o0 o1 o2 o3 o4 o5 o6 o7 o8 y0 y1))
  have hs1' : W0.heap.size ≤ w1.heap.size := HB1.out.size
  obtain ⟨⟨o0, o1, o2, o3, o4, o5, o6, o7, o8⟩, ⟨y0, y1⟩, _⟩ := HQ.out w1 HB1.out
  have HC := HC11.out w1 HB1.out
  cases mu with
  | true =>
    go_wp2_with (first | (go_at_call 11; (with_reducible refine HC.mono ?_); rintro e w2 ⟨rfl, hb2⟩; have HB2 : Hid (Below (w.heap.size + 1 + 1) W0 w2) := HB1.out.trans (Joins.below_le hb2 (by omega)); clear hb2 HC))
    go_ret
    exact ⟨rfl, HX.out _ HB2.out⟩
  | false =>
  go_upto_region 7 with (first | (go_at_call 11; (with_reducible refine HC.mono ?_); rintro e w2 ⟨rfl, hb2⟩; have HB2 : Hid (Below (w.heap.size + 1 + 1) W0 w2) := HB1.out.trans (Joins.below_le hb2 (by omega)); clear hb2 HC o0 o1 o2 o3 o4 o5 o6 o7 o8 y0 y1))
  have hs2' : W0.heap.size ≤ w2.heap.size := HB2.out.size
  obtain ⟨⟨o0, o1, o2, o3, o4, o5, o6, o7, o8⟩, ⟨y0, y1⟩, _⟩ := HQ.out w2 HB2.out
  have HC := awake8 w2
  go_upto_region 8 with (first | (go_at_call 8; (with_reducible refine HC.mono ?_); rintro e w3 ⟨rfl, hb3⟩; have HB3 : Hid (Below (w.heap.size + 1 + 1) W0 w3) := HB2.out.trans (Joins.below_le hb3 (by omega)); clear hb3 HC o0 o1 o2 o3 o4 o5 o6 o7 o8 y0 y1))
  have hs3' : W0.heap.size ≤ w3.heap.size := HB3.out.size
  obtain ⟨⟨o0, o1, o2, o3, o4, o5, o6, o7, o8⟩, ⟨y0, y1⟩, _⟩ := HQ.out w3 HB3.out
  have HC := HC12.out w3 HB3.out
  go_upto_region 11 with (first | (go_at_call 12; (with_reducible refine HC.mono ?_); rintro e w4 ⟨rfl, hb4⟩; have HB4 : Hid (Below (w.heap.size + 1 + 1) W0 w4) := HB3.out.trans (Joins.below_le hb4 (by omega)); clear hb4 HC o0 o1 o2 o3 o4 o5 o6 o7 o8 y0 y1))
  have hs4' : W0.heap.size ≤ w4.heap.size := HB4.out.size
  obtain ⟨⟨o0, o1, o2, o3, o4, o5, o6, o7, o8⟩, ⟨y0, y1⟩, _⟩ := HQ.out w4 HB4.out
  have HC := HC13t.out w4 HB4.out
  go_upto_region 12 with (first | (go_at_call 13; (with_reducible refine HC.mono ?_); rintro e w5 ⟨la, lc, l, rfl, hPl, hSl, hLl, hb5⟩; have HB5 : Hid (Below (w.heap.size + 1 + 1) W0 w5) := HB4.out.trans (Joins.below_le hb5 (by omega)); have HPl := hid hPl; have HSl := hid hSl; clear hPl hSl; clear hb5 HC o0 o1 o2 o3 o4 o5 o6 o7 o8 y0 y1))
  have hs5' : W0.heap.size ≤ w5.heap.size := HB5.out.size
  obtain ⟨⟨o0, o1, o2, o3, o4, o5, o6, o7, o8⟩, ⟨y0, y1⟩, _⟩ := HQ.out w5 HB5.out
  have hcount := HSl.out.count HF.out (by have := HPL.out; simpa using this)
  have hwithin := HSl.out.within (by omega) HF1.out
  simp only [Int.toNat_natCast] at hcount hwithin
  rw [HTL.out] at hcount
  obtain ⟨f, hf⟩ : ∃ f, f = tab tx t p := ⟨_, rfl⟩
  rw [← hf] at hcount
  have HCN := hid hcount
  have HWI := hid hwithin
  have HFE := hid hf
  have HB5d : Hid (Below (w.heap.size + 1 + 1) W0 w5.drew) := HB5.out.drew
  have hs5d : W0.heap.size ≤ w5.drew.heap.size := HB5d.out.size
  have HPl5d : Hid (Parsed w4.heap.size w5.drew (.slice la l.length lc) l) := HPl.out.kept ((Below.refl _ _).drew)
  have HC := HC20.out w5.drew HB5d.out
  have hptn : p < tn + 1 := by have := HPL.out; have := HTL.out; omega
  have hptI : (p : Int) < ((tn + 1 : Nat) : Int) := by omega
  have hptJ : (p : Int) < (tn : Int) + 1 := by omega
  clear hcount hwithin HPl hf
  go_cut [11] from 47 to 54 (fun x wx => ∃ (r : Nat), x = .slice (some ⟨r, 0, none⟩) (tn + 1) (tn + 1) ∧ Hid (Parsed w4.heap.size wx (.slice la l.length lc) l) ∧ Hid (BR wx r (tn + 1) f) ∧ Hid (Below (w.heap.size + 1 + 1) W0 wx))
  case first =>
    go_region_with (first | (go_at_call 20; (with_reducible refine HC.mono ?_); rintro e w6 ⟨g, cap, rs, rfl, hT6, hb6⟩; have HB6 : Hid (Below (w.heap.size + 1 + 1) W0 w6) := HB5d.out.trans (Joins.below_le hb6 (by omega)); have HPl6 : Hid (Parsed w4.heap.size w6 (.slice la l.length lc) l) := HPl5d.out.kept hb6; have y16 := (HSX.out w6 HB6.out).2.2.2.2.2.2.2.2.2.2; have u1 := hT6.outer hptn; have HR6 : Hid (BR w6 (rs.getD p 0) (tn + 1) f) := (by rw [HFE.out]; exact hT6.br p hptn); obtain ⟨r, hr⟩ : ∃ r, r = rs.getD p 0 := ⟨_, rfl⟩; rw [← hr] at u1 HR6; clear hb6 hT6 hr HC))
    all_goals
      go_wp2
      go_meet
      exact ⟨r, rfl, HPl6, HR6, HB6⟩
  case rest =>
  obtain ⟨r, rfl, HPl, HR, HB⟩ := hcut
  obtain ⟨⟨o0, o1, o2, o3, o4, o5, o6, o7, o8⟩, ⟨y0, y1⟩, _⟩ := HQ.out wc HB.out
  have hsc : W0.heap.size ≤ wc.heap.size := HB.out.size
  have HC := ends22 _ _ l tn htn hLl wc HPl.out
  have eqq : decide (∀ j, j < tn + 1 → decide ((j : Int) ∈ l.map Prod.fst) = f j) = true := by
    simp only [decide_eq_true_eq]
    exact HCN.out.1
  have EQQ := hid eqq
  have HLL : Hid (l.length = cnt f (tn + 1)) := HCN.out.2
  clear eqq HPl5d HB5d
  go_upto_region 14 with (first | (go_at_call 22; (with_reducible refine HC.mono ?_); rintro e w7 ⟨rfl, hR7, hb7⟩; have HB7 : Hid (Below (w.heap.size + 1 + 1) W0 w7) := HB.out.trans (Joins.below_le hb7 (by omega)); have hs7 : W0.heap.size ≤ w7.heap.size := HB7.out.size; have HPl7 : Hid (Parsed w4.heap.size w7 (.slice la l.length lc) l) := HPl.out.kept hb7; have HR7 : Hid (BR w7 r (tn + 1) f) := HR.out.kept (hb7.block _ HR.out.lt); have HC2 := alike21 _ _ (tn + 1) (tn + 1) (tn + 1) _ _ (by omega) w7 hR7 HR7.out; rw [EQQ.out] at HC2; clear hb7 hR7 HC) | (go_at_call 21; (with_reducible refine HC2.mono ?_); rintro e w8 ⟨rfl, hb8⟩; have HB8 : Hid (Below (w.heap.size + 1 + 1) W0 w8) := HB7.out.trans (Joins.below_le hb8 (by omega)); have HPl8 : Hid (Parsed w4.heap.size w8 (.slice la l.length lc) l) := HPl7.out.kept hb8; have HR8 : Hid (BR w8 r (tn + 1) f) := HR7.out.kept (hb8.block _ HR7.out.lt); clear hb8 HC2))
  clear HPl HR HB HPl7 HR7 o0 o1 o2 o3 o4 o5 o6 o7 o8 y0 y1
  obtain ⟨n, hn⟩ : ∃ n, n = tn + 1 := ⟨_, rfl⟩
  rw [← hn] at HR8 HLL ⊢
  have HNN := hid hn
  have hn65 : n ≤ 65 := by omega
  clear hn hptn hptI hptJ
  go_wp2_with fail
  go_loopw [13, 14] (fun c x wq => ∃ (i m : Nat), c = .int .i64 (m : Int) ∧ x = .int .i64 (i : Int) ∧ i ≤ n ∧ m ≤ 65 ∧ Hid (m = cnt f i) ∧ wq = w8) (fun _ x _ => n - (intOf x).toNat)
  case atStart => exact ⟨0, 0, rfl, rfl, by omega, by omega, by exact rfl, rfl⟩
  case round =>
    obtain ⟨i, m, rfl, rfl, hi, hm, HM, rfl⟩ := hrel
    by_cases hlt : i < n
    · have b1 : decide ((i : Int) < (n : Int)) = true := by simp; omega
      have b2 : (i : Int) < (n : Int) := by omega
      have ad1 : IntKind.i64.wrap ((i : Int) + 1) = (i : Int) + 1 := by simp [IntKind.wrap, IntKind.bits, IntKind.signed]; omega
      have ad2 : IntKind.i64.wrap ((m : Int) + 1) = (m : Int) + 1 := by simp [IntKind.wrap, IntKind.bits, IntKind.signed]; omega
      have u1 := HR8.out.cell hlt
      have hstep := cnt_succ f i
      have hle := cnt_le f (i + 1)
      rw [← HM.out] at hstep
      cases hfi : f i with
      | true =>
        rw [hfi] at u1 hstep
        simp only [if_true] at hstep
        have HST := hid hstep.symm
        have hm1 : m + 1 ≤ 65 := by omega
        clear hstep hle hfi
        go_wp2
        exact ⟨⟨i + 1, m + 1, by push_cast; rfl, by push_cast; rfl, by omega, hm1, HST, by first | rfl | trivial⟩, by simp [intOf]; omega⟩
      | false =>
        rw [hfi] at u1 hstep
        simp only [Bool.false_eq_true, if_false, Nat.add_zero] at hstep
        have HST := hid hstep.symm
        clear hstep hle hfi
        go_wp2
        exact ⟨⟨i + 1, m, rfl, by push_cast; rfl, by omega, hm, HST, by first | rfl | trivial⟩, by simp [intOf]; omega⟩
    · have b1 : decide ((i : Int) < (n : Int)) = false := by simp; omega
      obtain rfl : i = n := by omega
      have hlm : l.length = m := by rw [HLL.out, HM.out]
      have HLM := hid hlm
      rw [hlm] at HPl8 ⊢
      have e0 : ((0 : Int) != 0) = false := by decide
      have e1 : ((m : Int) != (m : Int)) = false := by simp
      clear hlm HM HLL
      obtain ⟨⟨o0, o1, o2, o3, o4, o5, o6, o7, o8⟩, ⟨y0, y1⟩, _⟩ := HQ.out wr HB8.out
      have hs8 : W0.heap.size ≤ wr.heap.size := HB8.out.size
      have HC := HC15.out wr HB8.out
      obtain ⟨G2, hG2⟩ : ∃ G2 : Int, G2 = 2 * (G : Int) := ⟨_, rfl⟩
      obtain ⟨K, hK⟩ : ∃ K : Nat, K = 2 * G + 2 := ⟨_, rfl⟩
      have wk1 : IntKind.i64.wrap (2 * (G : Int)) = G2 := by simp [IntKind.wrap, IntKind.bits, IntKind.signed]; omega
      have wk2 : IntKind.i64.wrap (G2 + 2) = (K : Int) := by simp [IntKind.wrap, IntKind.bits, IntKind.signed]; omega
      have hKb : K ≤ 1002 := by omega
      have HK := hid hK
      rw [← hK] at HWI
      clear hK hG2
      go_wp2_with (first | (go_at_call 15; (with_reducible refine HC.mono ?_); rintro e w9 ⟨rfl, hb9⟩; have HB9 : Hid (Below (w.heap.size + 1 + 1) W0 w9) := HB8.out.trans (Joins.below_le hb9 (by omega)); have HPl9 : Hid (Parsed w4.heap.size w9 (.slice la m lc) l) := HPl8.out.kept hb9; clear hb9 HC o0 o1 o2 o3 o4 o5 o6 o7 o8 y0 y1))
      go_loopw [16] (fun x wq => ∃ i : Nat, x = .int .i64 (i : Int) ∧ i ≤ m ∧ Hid (Parsed w4.heap.size wq (.slice la m lc) l) ∧ Hid (Below (w.heap.size + 1 + 1) W0 wq)) (fun x _ => m - (intOf x).toNat)
      case atStart => exact ⟨0, rfl, by omega, HPl9, HB9⟩
      case round =>
        clear HPl9 HB9 HPl8 HB8
        obtain ⟨c, rfl, hc, HP, HBB⟩ := hrel
        by_cases hlc : c < m
        · have c1 : decide ((c : Int) < (m : Int)) = true := by simp; omega
          have c2 : (c : Int) < (m : Int) := by omega
          have ad3 : IntKind.i64.wrap ((c : Int) + 1) = (c : Int) + 1 := by simp [IntKind.wrap, IntKind.bits, IntKind.signed]; omega
          have hcl : c < l.length := by rw [HLM.out]; exact hlc
          have hW := HWI.out l[c] (List.getElem_mem hcl)
          obtain ⟨b, cap, hla⟩ : ∃ b cap, Value.slice la m lc = .slice (some ⟨b, 0, none⟩) m cap := by
            rcases HP.out.ends with ⟨_, h0⟩ | ⟨b, cap, e, _⟩
            · rw [h0] at hcl; simp at hcl
            · rw [HLM.out] at e; exact ⟨b, cap, e⟩
          simp only [Value.slice.injEq] at hla
          obtain ⟨rfl, _, rfl⟩ := hla
          obtain ⟨cb, cc, v1, v2⟩ := HP.out.caps c hcl (by rw [hW.len]; have := HK.out; omega)
          have v0 : wr.cell? ⟨b, c * 2, none⟩ = some (.int .i64 l[c].1) := by
            rcases HP.out.ends with ⟨h0, _⟩ | ⟨b', cap', e, _, _, hcc⟩
            · cases h0
            · simp only [Value.slice.injEq, Option.some.injEq, Addr.mk.injEq] at e
              obtain ⟨⟨rfl, _⟩, _⟩ := e
              exact hcc c hcl
          rw [hW.len] at v1 v2
          have k0 := v2 0 (by have := HK.out; omega)
          have k1 := v2 1 (by have := HK.out; omega)
          rw [hW.zero] at k0
          rw [hW.one] at k1
          have hblk : cb < wr.heap.size := World.block_lt_of_cell? _ _ k0
          have hgrp := hW.grp
          obtain ⟨E, hE⟩ : ∃ E, E = l[c].1 := ⟨_, rfl⟩
          obtain ⟨cp, hcp⟩ : ∃ cp, cp = l[c].2 := ⟨_, rfl⟩
          rw [← hE] at v0 k1 hgrp
          rw [← hcp] at v2 hgrp
          obtain ⟨⟨o0, o1, o2, o3, o4, o5, o6, o7, o8⟩, ⟨y0, y1⟩, _⟩ := HQ.out wr HBB.out
          have HV2 := hid v2
          have HGR := hid hgrp
          have HBL := hid hblk
          have f1 : ((K : Int) != (K : Int)) = false := by simp
          have f2 : ((p : Int) != (p : Int)) = false := by simp
          have f3 : (E != E) = false := by simp
          have i0 : (0 : Int) < (K : Int) := by have := HK.out; omega
          have i1 : (1 : Int) < (K : Int) := by have := HK.out; omega
          have hbb : b < wr.heap.size := World.block_lt_of_cell? _ _ v0
          have HBBB := hid hbb
          obtain ⟨WR, hWR⟩ : ∃ WR, WR = wr := ⟨_, rfl⟩
          subst hWR
          clear v2 hgrp hblk hE hcp hW hcl o0 o1 o2 o3 o4 o5 o6 o7 o8 y0 hbb
          go_wp2_with fail
          go_quiet (fail)
          go_wp2_with fail
          go_loopw [18] (fun x wq => ∃ kk : Nat, x = .int .i64 (kk : Int) ∧ kk ≤ K ∧ Hid (∃ j, kk = 2 * j ∧ 1 ≤ j) ∧ Hid (Below WR.heap.size WR wq)) (fun x _ => K - (intOf x).toNat)
          case atStart => exact ⟨2, rfl, by have := HK.out; omega, by exact ⟨1, rfl, Nat.le_refl _⟩, by exact below_drewN (Below.refl _ _) _⟩
          case round =>
            obtain ⟨kk, rfl, hkk, HJ, BB⟩ := hrel
            by_cases hlk : kk < K
            · obtain ⟨j, hj1, hj2⟩ := HJ.out
              have hk1K : kk + 1 < K := by have := HK.out; omega
              have g1 : decide ((kk : Int) < (K : Int)) = true := by simp; omega
              have g2 : (kk : Int) < (K : Int) := by omega
              obtain ⟨k1', hk1⟩ : ∃ k1 : Nat, k1 = kk + 1 := ⟨_, rfl⟩
              obtain ⟨k2', hk2⟩ : ∃ k2 : Nat, k2 = kk + 2 := ⟨_, rfl⟩
              have ad4 : IntKind.i64.wrap ((kk : Int) + 1) = (k1' : Int) := by simp [IntKind.wrap, IntKind.bits, IntKind.signed]; omega
              have ad5 : IntKind.i64.wrap ((kk : Int) + 2) = (k2' : Int) := by simp [IntKind.wrap, IntKind.bits, IntKind.signed]; omega
              have g3 : (k1' : Int) < (K : Int) := by omega
              have x1 := (BB.out.cell (p := ⟨cb, kk, none⟩) HBL.out).trans (HV2.out kk hlk)
              have x2 := (BB.out.cell (p := ⟨cb, k1', none⟩) HBL.out).trans (HV2.out k1' (by omega))
              have hg := HGR.out j hj2 (by omega)
              rw [← hj1, ← hk1] at hg
              have v0' := (BB.out.cell (p := ⟨b, c * 2, none⟩) HBBB.out).trans v0
              have y1' := (BB.out.cell (p := ⟨w.heap.size + 1, 1, none⟩) (by show w.heap.size + 1 < WR.heap.size; have := HBB.out.size; omega)).trans y1
              have HJ2 : Hid (∃ j, k2' = 2 * j ∧ 1 ≤ j) := ⟨j + 1, by omega, by omega⟩
              have HK2 := hid hk2
              obtain ⟨X, hX⟩ : ∃ X, X = cp.getD kk 0 := ⟨_, rfl⟩
              obtain ⟨Y, hY⟩ : ∃ Y, Y = cp.getD k1' 0 := ⟨_, rfl⟩
              rw [← hX] at x1 hg
              rw [← hY] at x2 hg
              clear hj1 hj2 hX hY hk1 hk2 HJ
              rcases hg with ⟨rfl, rfl⟩ | ⟨q1, q2, q3⟩
              · go_wp2
                exact ⟨⟨k2', rfl, by have := HK2.out; have := HK.out; obtain ⟨j, hj, _⟩ := HJ2.out; omega, HJ2, BB⟩, by have := HK2.out; simp [intOf]; omega⟩
              · have r1 : (X == -1) = false := by simp; omega
                have r2 : decide (X < (p : Int)) = false := by simp; omega
                have r3 : decide (X > Y) = false := by simp; omega
                have r3' : decide (Y < X) = false := by simp; omega
                have r4 : decide (Y > E) = false := by simp; omega
                have r4' : decide (E < Y) = false := by simp; omega
                clear q1 q2 q3
                go_wp2_with fail
                go_quiet (fail)
                go_wp2
                exact ⟨⟨k2', rfl, by have := HK2.out; have := HK.out; obtain ⟨j, hj, _⟩ := HJ2.out; omega, HJ2, by exact below_drewN BB.out _⟩, by have := HK2.out; simp [intOf]; omega⟩
            · have g1 : decide ((kk : Int) < (K : Int)) = false := by simp; omega
              go_wp2
              exact ⟨⟨c + 1, by push_cast; rfl, by omega, by exact HP.out.kept BB.out, by exact HBB.out.trans (Joins.below_le BB.out (by have := HBB.out.size; omega))⟩, by simp [intOf]; omega⟩
        · have c1 : decide ((c : Int) < (m : Int)) = false := by simp; omega
          go_wp2
          go_ret
          exact ⟨rfl, HX.out _ HBB.out⟩
end Go.Proofs.Ytnpocciioedgpaa
/- HELPERS: trees, and texts with a place, that come in as arguments. -/
namespace Go.Proofs.Ytnpocciioedgpaa
open Go.ChangeShapes Go.WideShapes Go.ChangeAt Go.RowKit
set_option linter.unusedVariables false
set_option linter.unusedSimpArgs false
theorem ownB : ownKnob Try.prog.godebug = none := by kernel_rfl
theorem laidOut : laidOutB Try.prog = true := by kernel_rfl
theorem bytesOf3 : Try.prog.bytesOf 3 = 8 := by kernel_rfl
theorem cells3a : Try.prog.cellsOf 3 = 1 := by kernel_rfl
theorem lt_of_cell {w : World} {b o : Nat} {v : Value} (h : w.cell? ⟨b, o, none⟩ = some v) : b < w.heap.size := by
  rcases Nat.lt_or_ge b w.heap.size with h1 | h1
  · exact h1
  · have : w.heap[b]? = none := Array.getElem?_eq_none h1
    simp [World.cell?, this] at h
/-- the fields of a node -/
def nf : Nat → Field
  | 0 => { name := "Kind", type := 3, offset := 0, embedded := false, tag := "", pkgPath := "", byteOffset := 0 }
  | 1 => { name := "Ranges", type := 25, offset := 1, embedded := false, tag := "", pkgPath := "", byteOffset := 8 }
  | 2 => { name := "Assert", type := 3, offset := 2, embedded := false, tag := "", pkgPath := "", byteOffset := 32 }
  | 3 => { name := "Subs", type := 26, offset := 3, embedded := false, tag := "", pkgPath := "", byteOffset := 40 }
  | 4 => { name := "Min", type := 3, offset := 4, embedded := false, tag := "", pkgPath := "", byteOffset := 64 }
  | 5 => { name := "Max", type := 3, offset := 5, embedded := false, tag := "", pkgPath := "", byteOffset := 72 }
  | 6 => { name := "Lazy", type := 4, offset := 6, embedded := false, tag := "", pkgPath := "", byteOffset := 80 }
  | 7 => { name := "Index", type := 3, offset := 7, embedded := false, tag := "", pkgPath := "", byteOffset := 88 }
  | _ => { name := "Name", type := 9, offset := 8, embedded := false, tag := "", pkgPath := "", byteOffset := 96 }
theorem nodeTy : NodeTy Try.prog 28 26 25 70 3 4 9 nf { name := "Lo", type := 3, offset := 0, embedded := false, tag := "", pkgPath := "", byteOffset := 0 } { name := "Hi", type := 3, offset := 1, embedded := false, tag := "", pkgPath := "", byteOffset := 8 } where
  hn := Try.underlying28
  cn := by kernel_rfl
  ty := ⟨rfl, rfl, rfl, rfl, rfl, rfl, rfl, rfl, rfl⟩
  of := fun i hi => by
    match i, hi with
    | 0, _ => rfl
    | 1, _ => rfl
    | 2, _ => rfl
    | 3, _ => rfl
    | 4, _ => rfl
    | 5, _ => rfl
    | 6, _ => rfl
    | 7, _ => rfl
    | 8, _ => rfl
  ci := by kernel_rfl
  cr := by kernel_rfl
  cs := by kernel_rfl
  cb := by kernel_rfl
  cg := by kernel_rfl
  hi := Try.underlying3
  hb := Try.underlying4
  hg := Try.underlying9
  hs := Try.underlying26
  hr := Try.underlying25
  he := Try.underlying70
  ce := by kernel_rfl
  og := ⟨rfl, rfl, rfl, rfl⟩
set_option maxRecDepth 100000
section
variable {H : Type} {enc : TypeId × Value → H} {W : World} {base : Nat} {v : Value} {d : DataW H} {p : List MemPlace}
/-- a tree that came in -/
theorem node_arg (hok : Value.okWide Try.prog W .any base 28 v) (h0 : DataW.Trod enc Try.prog W 0 (fun _ => true) true 28 v d p) : ∃ N t, v = Nv.v N ∧ TI W W.heap.size N t := by
  obtain ⟨cs, rfl, hsz⟩ := okWide_struct Try.underlying28 hok
  obtain ⟨fuel, hf⟩ := h0
  obtain ⟨N, t, h1, h2⟩ := open_node nodeTy fuel _ _ hf
  have h1' : cs.toList = Nv.cs N := h1
  refine ⟨N, t, ?_, h2⟩
  have : cs = (Nv.cs N).toArray := by rw [← h1']
  rw [this]
/-- a []int whose cells are given -/
theorem text_cells {fuel : Nat} {a0 : Option Addr} {len cap : Nat} (hf : DataW.trod enc Try.prog W 0 (fun _ => true) true fuel 29 [.slice a0 len cap] = some (d, p)) (hsz : ∀ elems spare, d = .slice elems spare → (elems.length + spare.length) * 8 ≤ 140737488351232) :
    ∃ l : List Int, len ≤ cap ∧ Look.TextAt W.heap.size W a0 len l := by
  rcases open_ints Try.underlying29 Try.underlying3 cells3a hf with ⟨hcs, hx⟩ | ⟨a, len', cap', zs, hcs, _, hl, hm, hz, hx, hcell, hwz⟩
  · simp at hcs
    obtain ⟨rfl, rfl, rfl⟩ := hcs
    exact ⟨[], Nat.le_refl _, rfl, by omega, .inl rfl⟩
  · simp at hcs
    obtain ⟨rfl, rfl, rfl⟩ := hcs
    simp only [if_true] at hz
    obtain ⟨rfl, rfl⟩ := Prod.mk.inj hx
    have hs := hsz _ _ rfl
    simp only [lits, List.length_map, List.length_take, List.length_drop] at hs
    have htl : (zs.take len).length = len := by rw [List.length_take]; omega
    refine ⟨zs.take len, by omega, htl.symm, by omega, ?_⟩
    by_cases h0 : len = 0
    · left; omega
    · right
      obtain ⟨b, off, rfl, hc⟩ := ints_at hcell (by omega)
      refine ⟨b, off, rfl, lt_of_cell (hc 0 (by omega)), fun k hk => ?_⟩
      rw [hc k (by omega)]
      simp [List.getD_eq_getElem?_getD, List.getElem?_take, hk]
theorem text_arg (hok : Value.okWide Try.prog W .any base 29 v) (h0 : DataW.Trod enc Try.prog W 0 (fun _ => true) true 29 v d p) (hsz : ∀ elems spare, d = .slice elems spare → (elems.length + spare.length) * 8 ≤ 140737488351232) :
    ∃ (l : List Int) (ad : Option Addr) (n cap : Nat), v = .slice ad n cap ∧ n ≤ cap ∧ Look.TextAt W.heap.size W ad n l := by
  obtain ⟨a0, len, cap, rfl⟩ := okWide_slice Try.underlying29 hok
  obtain ⟨fuel, hf⟩ := h0
  obtain ⟨l, h1, h2⟩ := text_cells hf hsz
  exact ⟨l, a0, len, cap, rfl, h1, h2⟩
/-- a text with a place that came in -/
theorem asked_arg (hok : Value.okWide Try.prog W .any base 31 v) (h0 : DataW.Trod enc Try.prog W 0 (fun _ => true) true 31 v d p) (hsz : ∀ elems spare rest, d = .agg (.slice elems spare :: rest) → (elems.length + spare.length) * 8 ≤ 140737488351232) :
    ∃ (l : List Int) (ad : Option Addr) (n cap : Nat) (at_ : Int), v = .agg #[.slice ad n cap, .int .i64 at_] ∧ n ≤ cap ∧ Look.TextAt W.heap.size W ad n l := by
  obtain ⟨v0, v1, y0, y1, n, rfl, rfl, rfl, h1, h2⟩ := Go.Joins.open_agg2 Try.underlying31 (by kernel_rfl) (by kernel_rfl) hok h0
  obtain ⟨x, e1, _, _⟩ := DataW.trod_int Try.underlying3 h2
  simp only [List.cons.injEq, and_true] at e1
  subst e1
  rcases DataW.trod_slice Try.underlying29 h1 with ⟨e0, _⟩ | ⟨a, len, cap, elems, rest, n', hn', e0, _⟩
  · simp only [List.cons.injEq, and_true] at e0
    subst e0
    exact ⟨[], none, 0, 0, x, rfl, Nat.le_refl _, rfl, by omega, .inl rfl⟩
  · simp only [List.cons.injEq, and_true] at e0
    subst e0
    obtain ⟨l, q1, q2⟩ := text_cells (d := y0.1) (p := y0.2) h1 (fun elems spare he => hsz elems spare [y1.1] (by rw [he]))
    exact ⟨l, some a, len, cap, x, rfl, q1, q2⟩
end
theorem sized_asked {H : Type} {ts : List TypeId} {ds : List (DataW H)} (h : (DataW.weightsEach Try.prog ts ds).all (· ≤ reachBytes) = true) {j : Nat} {elems spare rest : List (DataW H)} (ht : ts[j]? = some 31) (hd : ds[j]? = some (.agg (.slice elems spare :: rest))) : (elems.length + spare.length) * 8 ≤ 140737488351232 := by
  have := List.all_eq_true.1 h _ (DataW.weights_mem_each ht hd ((elems.length + spare.length) * Try.prog.bytesOf 3) (by simp [DataW.weights, Try.underlying31, DataW.weightsEach, Try.underlying29]))
  rw [bytesOf3] at this
  exact of_decide_eq_true this
end Go.Proofs.Ytnpocciioedgpaa
namespace Go.Proofs.Ytnpocciioedgpaa
open Go.ChangeShapes Go.WideShapes Go.ChangeAt Go.RowKit
set_option linter.unusedVariables false
set_option linter.unusedSimpArgs false
set_option maxRecDepth 100000 in
theorem meaningEndsLifted (os : Os) (started : os.Started) (H : Type) (enc : TypeId × Value → H) :
    ReturnsInHanded {} Try.checked os 5 .any (Rows.meaningEndsSpec.pre6 enc Try.prog Try.f5 Rows.meaningEndsRow.domain false) (Rows.meaningEndsSpec.post enc Try.prog Try.f5 false true false false) := by
  refine returnsInHanded_of_change_sized (C := Try.checked) ownB started (by kernel_rfl) Try.func5
    (ChangeSpec.witness6 (enc := enc) (C := Try.checked) false ⟨#[], #[.agg #[.int .i64 0, .slice none 0 0, .int .i64 0, .slice none 0 0, .int .i64 0, .int .i64 0, .bool false, .int .i64 0, .string ⟨#[]⟩], .agg #[.slice none 0 0, .int .i64 0]], []⟩ 8 (by kernel_rfl) (by kernel_rfl) (by kernel_rfl) (by kernel_rfl)) ?_
  intro W base args ds gs before hval0 hW hcnd0 hsz0 hholds
  have hval : ∀ (j : Nat) t v, Try.f5.params[j]? = some t → args[j]? = some v → Value.okWide Try.prog W .any base t v := hval0
  have hsz : (DataW.weightsEach Try.prog (Try.f5.params.toList ++ Rows.meaningEndsSpec.plain.varTypes Try.prog) (ds ++ gs)).all (· ≤ reachBytes) = true := hsz0
  have hW' := hW
  obtain ⟨p, q, hA0, hV, rfl, hfz, hnd⟩ := hW
  have hA : DataW.TrodAll enc Try.prog W 0 (fun _ => true) true Try.f5.params.toList args.toList ds p := hA0
  rw [Try.params5] at hA hval hsz
  obtain ⟨v0, vs0, d0, ds0, p0, q0, hargs, rfl, rfl, h0, r0⟩ := trodAll_cons hA
  obtain ⟨v1, vs1, d1, ds1, p1, q1, rfl, rfl, rfl, h1, r1⟩ := trodAll_cons r0
  obtain ⟨rfl, rfl, rfl⟩ := trodAll_nil r1
  obtain rfl : args = #[v0, v1] := by cases args; simp_all
  obtain ⟨rfl, rfl⟩ := trodVars_none hV
  have hlt0 : ∀ x ∈ p0, x.block < W.heap.size := fun x hx => by have := hW'.lt x (by simp [hx]); simpa using this
  have hlt1 : ∀ x ∈ p1, x.block < W.heap.size := fun x hx => by have := hW'.lt x (by simp [hx]); simpa using this
  obtain ⟨N, t, rfl, hT⟩ := node_arg (hval 0 28 v0 rfl rfl) h0
  obtain ⟨tx, ad, tn, tcap, at_, rfl, htc, hX⟩ := asked_arg (hval 1 31 v1 rfl rfl) h1 (fun elems spare rest hd => sized_asked hsz (j := 1) rfl (by rw [hd]; rfl))
  clear hA0 hval0
  have HL : Calls Try.prog 5 #[N.v, .agg #[.slice ad tn tcap, .int .i64 at_]] W fun e w' => e = .returned (.bool true) ∧ Below W.heap.size W w' := by
    cases hm : mayB t tn at_ with
    | false => exact ends5_out N t tx ad tn tcap at_ W hT hX htc hm
    | true => exact ends5_in N t tx ad tn tcap at_ W hT hX htc hm
  refine HL.mono fun e W' ⟨he, hb⟩ => ?_
  subst he
  exact ⟨_, rfl, _, _, _, [], p0 ++ (p1 ++ []), [], hW', trodAll_cons_mk (shut_bool Try.underlying4 _) trodAll_mk0, trodAll_cons_mk (Below.trod laidOut (by kernel_rfl) (of_decide_eq_true (by kernel_rfl)) h0 hb hlt0) (trodAll_cons_mk (Below.trod laidOut (by kernel_rfl) (of_decide_eq_true (by kernel_rfl)) h1 hb hlt1) trodAll_mk0), rfl, hb.frame _, fun h => by cases h⟩
theorem meaningEnds_holds : Rows.MeaningEndsSaid :=
  OpenClaim.holds_of_wide 5 Try.f5 rfl rfl rfl rfl rfl rfl rfl ⟨rfl, rfl, rfl, rfl, rfl⟩ rfl rfl rfl rfl rfl (by kernel_rfl) Try.func5 (by kernel_rfl)
    (of_decide_eq_true (by kernel_rfl)) (by unfold Func.isWrapper; first | (rw [if_pos (by decide +kernel)]; kernel_rfl) | (rw [if_neg (by decide +kernel)]; exact ⟨rfl, rfl⟩))
    (fun os started H enc _ => meaningEndsLifted os started H enc)
end Go.Proofs.Ytnpocciioedgpaa
