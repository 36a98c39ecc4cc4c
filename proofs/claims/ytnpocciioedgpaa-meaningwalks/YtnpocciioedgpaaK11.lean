/- HELPERS: Bx, By, Bz. -/
import Derived.Test.YtnpocciioedgpaaK10
import Derived.Deep.RegionHeld2
/- HELPERS: the table of a tree, in memory. -/
namespace Go.Proofs.Ytnpocciioedgpaa
open Go.RowKit
set_option linter.unusedVariables false
set_option linter.unusedSimpArgs false
/-- the box of a node, at every world behind -/
theorem box1 {w : World} (N : Nv) : ∀ W, Below (w.heap.size + 1) (w.alloc (.cells #[.int .i64 N.k, .slice N.r1 N.r2 N.r3, .int .i64 N.a2, .slice N.s1 N.s2 N.s3, .int .i64 N.a4, .int .i64 N.a5, .bool N.a6, .int .i64 N.a7, .string N.a8] 28)) W → (W.cell? ⟨w.heap.size, 0, none⟩ = some (.int .i64 N.k) ∧ W.cell? ⟨w.heap.size, 1, none⟩ = some (.slice N.r1 N.r2 N.r3) ∧ W.cell? ⟨w.heap.size, 2, none⟩ = some (.int .i64 N.a2) ∧ W.cell? ⟨w.heap.size, 3, none⟩ = some (.slice N.s1 N.s2 N.s3) ∧ W.cell? ⟨w.heap.size, 4, none⟩ = some (.int .i64 N.a4) ∧ W.cell? ⟨w.heap.size, 5, none⟩ = some (.int .i64 N.a5) ∧ W.cell? ⟨w.heap.size, 6, none⟩ = some (.bool N.a6) ∧ W.cell? ⟨w.heap.size, 7, none⟩ = some (.int .i64 N.a7) ∧ W.cell? ⟨w.heap.size, 8, none⟩ = some (.string N.a8)) ∧ Below w.heap.size w W ∧ w.heap.size + 1 ≤ W.heap.size := fun W hW => by
  have h := (hW.block w.heap.size (by omega)).trans (heap_alloc_new w _)
  refine ⟨nine' h, (Joins.below_alloc1 w _).trans (Joins.below_le hW (by omega)), ?_⟩
  have := hW.size
  simpa using this
/-- what a tree's table is asked for -/
abbrev TabC (w : World) (n : Nat) (F : Tb) (e : Ending) (w' : World) : Prop := ∃ g cap rs, e = .returned (.slice (some ⟨g, 0, none⟩) n cap) ∧ TB w.heap.size w' g cap n rs F ∧ Below w.heap.size w w'
set_option maxRecDepth 100000 in
set_option maxHeartbeats 8000000 in
theorem tab1 (r1 s1 : Option Addr) (r2 r3 s2 s3 : Nat) (a2 a4 a5 a7 : Int) (a6 : Bool) (a8 : ByteArray) (ad : Option Addr) (tn tcap n : Nat) (hn : n = tn + 1) (htn : tn ≤ 64) (w : World) : Calls Try.prog 20 #[(Nv.mk 1 r1 r2 r3 a2 s1 s2 s3 a4 a5 a6 a7 a8).v, .slice ad tn tcap] w (TabC w n Tb.stays) := by
  have hn65 : n ≤ 65 := by omega
  have h1 : 1 ≤ n := by omega
  have hlen : IntKind.i64.wrap ((tn : Int) + 1) = (n : Int) := by simp [IntKind.wrap, IntKind.bits, IntKind.signed]; omega
  have hbx := box1 (w := w) (Nv.mk 1 r1 r2 r3 a2 s1 s2 s3 a4 a5 a6 a7 a8)
  obtain ⟨W0, hW0⟩ : ∃ W0, W0 = w.alloc (.cells #[.int .i64 1, .slice r1 r2 r3, .int .i64 a2, .slice s1 s2 s3, .int .i64 a4, .int .i64 a5, .bool a6, .int .i64 a7, .string a8] 28) := ⟨_, rfl⟩
  dsimp only at hbx
  rw [← hW0] at hbx
  have hs0 : W0.heap.size = w.heap.size + 1 := by rw [hW0]; simp
  have HBX := hid hbx
  have HB0 : Hid (Below (w.heap.size + 1) W0 W0) := Below.refl _ _
  have HC0 := lines42 n hn65 h1 W0
  have HN := hid hn
  clear hbx hn
  go_enter Try.func20, Try.ntmps20
  go_upto_region 2 with fail
  rw [← hW0]
  clear hW0
  go_wp2_with (first | (go_at_call 42; (with_reducible refine HC0.mono ?_); rintro e w1 ⟨g0, cap0, rs0, rfl, hT, hb1⟩; have HB1 : Hid (Below (w.heap.size + 1) W0 w1) := HB0.out.trans (Joins.below_le hb1 (by omega)); have HT : Hid (TB (w.heap.size + 1) w1 g0 cap0 n rs0 (fun _ _ => false)) := hT.le (by omega); obtain ⟨⟨o0, o1, o2, o3, o4, o5, o6, o7, o8⟩, hbw1, hsw1⟩ := HBX.out w1 HB1.out; have HBW1 := hid hbw1; have HC1 := stays43 n hn65 h1 w1; clear hT hb1 HC0 hbw1) | (go_at_call 43; (with_reducible refine HC1.mono ?_); rintro e w2 ⟨g1, cap1, rs1, rfl, hT1, hb2⟩; have HB2 : Hid (Below (w.heap.size + 1) W0 w2) := HB1.out.trans (Joins.below_le hb2 (by omega)); have HT1 : Hid (TB w.heap.size w2 g1 cap1 n rs1 Tb.stays) := hT1.le (by omega); clear hT1 hb2 HC1 o0 o1 o2 o3 o4 o5 o6 o7 o8))
  go_ret
  exact ⟨g1, cap1, rs1, rfl, HT1.out, (HBX.out w2 HB2.out).2.1⟩
/-- the table of a class, so far -/
def clsS (R : List (Int × Int)) (tx : List Int) (i k : Nat) : Tb := fun p q => decide (q = p + 1) && (if p < i then hasB R (tx.getD p 0) else if p = i then hasB (R.take k) (tx.getD p 0) else false)
theorem hasB_take {R : List (Int × Int)} {k : Nat} (h : k < R.length) (c : Int) : hasB (R.take (k + 1)) c = (hasB (R.take k) c || (decide (R[k].1 ≤ c) && decide (c ≤ R[k].2))) := by
  rw [List.take_succ_eq_append_getElem h]
  simp only [hasB, List.any_append, List.any_cons, List.any_nil, Bool.or_false]
theorem clsS_step {R : List (Int × Int)} {tx : List Int} {i k : Nat} (h : k < R.length) (p q : Nat) : (if p = i ∧ q = i + 1 then (clsS R tx i k i (i + 1) || (decide (R[k].1 ≤ tx.getD i 0) && decide (tx.getD i 0 ≤ R[k].2))) else clsS R tx i k p q) = clsS R tx i (k + 1) p q := by
  by_cases e : p = i ∧ q = i + 1
  · obtain ⟨rfl, rfl⟩ := e
    simp only [clsS, hasB_take h]
    simp
  · rw [if_neg e]
    simp only [clsS]
    by_cases h1 : p < i
    · simp [h1]
    · by_cases h2 : p = i
      · subst h2
        have : decide (q = p + 1) = false := by simp; exact fun h => e ⟨rfl, h⟩
        simp [this]
      · simp [h1, h2]
theorem clsS_next {R : List (Int × Int)} {tx : List Int} {i : Nat} (p q : Nat) : clsS R tx i R.length p q = clsS R tx (i + 1) 0 p q := by
  simp only [clsS, List.take_length, List.take_zero]
  congr 1
  by_cases h1 : p < i
  · simp [h1, show p < i + 1 by omega]
  · by_cases h2 : p = i
    · subst h2; simp
    · by_cases h3 : p = i + 1
      · subst h3; simp [hasB, show ¬ i + 1 < i by omega]
      · simp [h1, h2, h3, show ¬ p < i + 1 by omega]
set_option maxRecDepth 100000 in
set_option maxHeartbeats 8000000 in
theorem tab2 (r1 s1 : Option Addr) (r2 r3 s2 s3 : Nat) (a2 a4 a5 a7 : Int) (a6 : Bool) (a8 : ByteArray) (ad : Option Addr) (tn tcap n : Nat) (hn : n = tn + 1) (htn : tn ≤ 64) (w : World) (tx : List Int) (R : List (Int × Int)) {w0 : World} {B : Nat} (htx : Look.TextAt B w0 ad tn tx) (hr : r2 = R.length) (hR : R2 w0 B r1 R) (hR5 : R.length ≤ 5000) (hB : B ≤ w.heap.size) (hw : ∀ b, b < B → w.heap[b]? = w0.heap[b]?) :
    Calls Try.prog 20 #[(Nv.mk 2 r1 r2 r3 a2 s1 s2 s3 a4 a5 a6 a7 a8).v, .slice ad tn tcap] w (TabC w n (fun p q => decide (p < tx.length) && hasB R (tx.getD p 0) && decide (q = p + 1))) := by
  have htl : tn = tx.length := htx.1
  have htc : ∀ W, Below w.heap.size w W → ∀ i, i < tn → ∃ b o, ad = some ⟨b, o, none⟩ ∧ W.cell? ⟨b, o + i, none⟩ = some (.int .i64 (tx.getD i 0)) := fun W hW i hi => by
    rcases htx.2.2 with h0 | ⟨b, off, ha, hb, hc⟩
    · omega
    · exact ⟨b, off, ha, (cell_eq ((hW.block b (by omega)).trans (hw b hb)) _).trans (hc i hi)⟩
  have hrc : ∀ W, Below w.heap.size w W → ∀ k (hk : k < R.length), ∃ b o, r1 = some ⟨b, o, none⟩ ∧ W.cell? ⟨b, o + k * 2, none⟩ = some (.int .i64 R[k].1) ∧ W.cell? ⟨b, o + k * 2 + 1, none⟩ = some (.int .i64 R[k].2) := fun W hW k hk => by
    obtain ⟨b, o, ha, hb, hc⟩ := hR (by intro h; rw [h] at hk; simp at hk)
    exact ⟨b, o, ha, (cell_eq ((hW.block b (by omega)).trans (hw b hb)) _).trans (hc k hk).1, (cell_eq ((hW.block b (by omega)).trans (hw b hb)) _).trans (hc k hk).2⟩
  have HTC := hid htc
  have HRC := hid hrc
  have HTL := hid htl
  have HRL := hid hr
  obtain ⟨F, hF⟩ : ∃ F : Tb, F = (fun p q => decide (p < tx.length) && hasB R (tx.getD p 0) && decide (q = p + 1)) := ⟨_, rfl⟩
  rw [← hF]
  have HF := hid hF
  have hr5 : r2 ≤ 5000 := by omega
  clear hF htc hrc htx hR hw hr htl hR5
  have hn65 : n ≤ 65 := by omega
  have h1 : 1 ≤ n := by omega
  have hlen : IntKind.i64.wrap ((tn : Int) + 1) = (n : Int) := by simp [IntKind.wrap, IntKind.bits, IntKind.signed]; omega
  have hbx := box1 (w := w) (Nv.mk 2 r1 r2 r3 a2 s1 s2 s3 a4 a5 a6 a7 a8)
  obtain ⟨W0, hW0⟩ : ∃ W0, W0 = w.alloc (.cells #[.int .i64 2, .slice r1 r2 r3, .int .i64 a2, .slice s1 s2 s3, .int .i64 a4, .int .i64 a5, .bool a6, .int .i64 a7, .string a8] 28) := ⟨_, rfl⟩
  dsimp only at hbx
  rw [← hW0] at hbx
  have hs0 : W0.heap.size = w.heap.size + 1 := by rw [hW0]; simp
  have HBX := hid hbx
  have HB0 : Hid (Below (w.heap.size + 1) W0 W0) := Below.refl _ _
  have HC0 := lines42 n hn65 h1 W0
  have HN := hid hn
  clear hbx hn
  go_enter Try.func20, Try.ntmps20
  go_upto_region 2 with fail
  rw [← hW0]
  clear hW0
  go_wp2_with (first | (go_at_call 42; (with_reducible refine HC0.mono ?_); rintro e w1 ⟨g0, cap0, rs0, rfl, hT, hb1⟩; have HB1 : Hid (Below (w.heap.size + 1) W0 w1) := HB0.out.trans (Joins.below_le hb1 (by omega)); have HT : Hid (TB (w.heap.size + 1) w1 g0 cap0 n rs0 (fun _ _ => false)) := hT.le (by omega); obtain ⟨⟨o0, o1, o2, o3, o4, o5, o6, o7, o8⟩, hbw1, hsw1⟩ := HBX.out w1 HB1.out; have HBW1 := hid hbw1; clear hT hb1 HC0 hbw1))
  go_loopw [7] (fun x wq => ∃ (i : Nat), x = .int .i64 (i : Int) ∧ i ≤ tn ∧ Hid (TB (w.heap.size + 1) wq g0 cap0 n rs0 (clsS R tx i 0)) ∧ Hid (Below (w.heap.size + 1) W0 wq)) (fun x _ => tn - (intOf x).toNat)
  case atStart => exact ⟨0, rfl, by omega, by exact HT.out.as (fun p q _ _ => by simp [clsS, hasB]), HB1⟩
  case round =>
    obtain ⟨i, rfl, hi, HI, BK⟩ := hrel
    clear HT HB1 HBW1 o0 o1 o2 o3 o4 o5 o6 o7 o8
    by_cases hlt : i < tn
    · have b1 : decide ((i : Int) < (tn : Int)) = true := by simp; omega
      have b2 : (i : Int) < (tn : Int) := by omega
      obtain ⟨i1, hi1⟩ : ∃ i1, i1 = i + 1 := ⟨_, rfl⟩
      have HI1 := hid hi1
      have ad1 : IntKind.i64.wrap ((i : Int) + 1) = (i1 : Int) := by simp [IntKind.wrap, IntKind.bits, IntKind.signed]; omega
      have hin : i < n := by have := HN.out; omega
      have hi1n : i1 < n := by have := HN.out; omega
      clear hi1
      go_wp2_with fail
      go_loopw [8] (fun x wq => ∃ (k : Nat), x = .int .i64 (k : Int) ∧ k ≤ r2 ∧ Hid (TB (w.heap.size + 1) wq g0 cap0 n rs0 (clsS R tx i k)) ∧ Hid (Below (w.heap.size + 1) W0 wq)) (fun x _ => r2 - (intOf x).toNat)
      case atStart => exact ⟨0, rfl, by omega, HI, BK⟩
      case round =>
        obtain ⟨k, rfl, hk, HI2, BK2⟩ := hrel
        obtain ⟨⟨o0, o1, o2, o3, o4, o5, o6, o7, o8⟩, hbw, hsw⟩ := HBX.out wr BK2.out
        clear HI BK
        by_cases hlk : k < r2
        · have c1 : decide ((k : Int) < (r2 : Int)) = true := by simp; omega
          have c2 : (k : Int) < (r2 : Int) := by omega
          have c3 : (i : Int) < (n : Int) := by omega
          have c4 : (i1 : Int) < (n : Int) := by omega
          have ad2 : IntKind.i64.wrap ((k : Int) + 1) = (k : Int) + 1 := by simp [IntKind.wrap, IntKind.bits, IntKind.signed]; omega
          have hkR : k < R.length := by have := HRL.out; omega
          obtain ⟨tb, tof, rfl, t1⟩ := HTC.out wr hbw i hlt
          obtain ⟨qb, qo, rfl, q1, q2⟩ := HRC.out wr hbw k hkR
          have u1 := HI2.out.outer hin
          have u2 := HI2.out.cell hin hi1n
          have u3 := HI2.out.free hin i1
          have hfin : TB (w.heap.size + 1) (wr.drew.setCell ⟨rs0.getD i 0, i1, none⟩ (.bool (clsS R tx i k i i1 || (decide (R[k].1 ≤ tx.getD i 0) && decide (tx.getD i 0 ≤ R[k].2))))) g0 cap0 n rs0 (clsS R tx i (k + 1)) := by
            rw [HI1.out]
            exact (HI2.out.drew.set (k := i + 1) hin _).as (fun p q _ _ => clsS_step hkR p q)
          have hbel : Below (w.heap.size + 1) W0 (wr.drew.setCell ⟨rs0.getD i 0, i1, none⟩ (.bool (clsS R tx i k i i1 || (decide (R[k].1 ≤ tx.getD i 0) && decide (tx.getD i 0 ≤ R[k].2))))) := BK2.out.drew.setCell (by exact (HI2.out.rlt hin).1) _
          obtain ⟨r, hrr⟩ : ∃ r, r = rs0.getD i 0 := ⟨_, rfl⟩
          obtain ⟨x, hx⟩ : ∃ x, x = clsS R tx i k i i1 := ⟨_, rfl⟩
          obtain ⟨c, hc⟩ : ∃ c, c = tx.getD i 0 := ⟨_, rfl⟩
          obtain ⟨lo, hlo⟩ : ∃ c, c = R[k].1 := ⟨_, rfl⟩
          obtain ⟨hi', hhi⟩ : ∃ c, c = R[k].2 := ⟨_, rfl⟩
          rw [← hrr] at u1 u2 u3 hfin hbel
          rw [← hx] at u2 hfin hbel
          rw [← hc] at t1 hfin hbel
          rw [← hlo] at q1 hfin hbel
          rw [← hhi] at q2 hfin hbel
          have HFN := hid hfin
          have HBE := hid hbel
          clear hfin hbel hrr hx hc hlo hhi HI2 BK2 hbw hkR
          cases x with
          | true =>
            simp only [Bool.true_or] at HFN HBE
            go_wp2_with fail
            go_region
            all_goals
              go_wp2
              exact ⟨⟨k + 1, by push_cast; rfl, by omega, HFN, HBE⟩, by simp [intOf]; omega⟩
          | false =>
            simp only [Bool.false_or] at HFN HBE
            by_cases d1 : lo ≤ c
            · have e1 : decide (lo ≤ c) = true := by simp; omega
              by_cases d2 : c ≤ hi'
              · have e2 : decide (c ≤ hi') = true := by simp; omega
                rw [e1, e2] at HFN HBE
                simp only [Bool.and_self] at HFN HBE
                go_wp2_with fail
                go_region
                all_goals
                  go_wp2
                  exact ⟨⟨k + 1, by push_cast; rfl, by omega, HFN, HBE⟩, by simp [intOf]; omega⟩
              · have e2 : decide (c ≤ hi') = false := by simp; omega
                rw [e1, e2] at HFN HBE
                simp only [Bool.and_false] at HFN HBE
                go_wp2_with fail
                go_region
                all_goals
                  go_wp2
                  exact ⟨⟨k + 1, by push_cast; rfl, by omega, HFN, HBE⟩, by simp [intOf]; omega⟩
            · have e1 : decide (lo ≤ c) = false := by simp; omega
              rw [e1] at HFN HBE
              simp only [Bool.false_and] at HFN HBE
              go_wp2_with fail
              go_region
              all_goals
                go_wp2
                exact ⟨⟨k + 1, by push_cast; rfl, by omega, HFN, HBE⟩, by simp [intOf]; omega⟩
        · have c1 : decide ((k : Int) < (r2 : Int)) = false := by simp; omega
          have hfin : TB (w.heap.size + 1) wr g0 cap0 n rs0 (clsS R tx i1 0) := by
            have e : k = R.length := by have := HRL.out; omega
            rw [HI1.out]
            exact HI2.out.as (fun p q _ _ => by rw [e]; exact clsS_next p q)
          have HFN := hid hfin
          clear hfin HI2 hbw
          go_wp2
          exact ⟨⟨i1, rfl, by have := HI1.out; omega, HFN, BK2⟩, by have := HI1.out; simp [intOf]; omega⟩
    · have b1 : decide ((i : Int) < (tn : Int)) = false := by simp; omega
      obtain rfl : i = tn := by omega
      have hfin : TB (w.heap.size + 1) wr g0 cap0 n rs0 F := HI.out.as (fun p q hp _ => by
        rw [HF.out]
        have := HN.out
        have := HTL.out
        simp only [clsS, List.take_zero]
        by_cases h1 : p < i
        · simp only [h1, if_true, show p < tx.length by omega, decide_true, Bool.true_and]
          exact Bool.and_comm _ _
        · obtain rfl : p = i := by omega
          have : ¬ p < tx.length := by omega
          simp [this, hasB])
      have HFN := hid hfin
      clear hfin HI
      go_wp2
      go_ret
      exact ⟨g0, cap0, rs0, rfl, HFN.out.le (by omega), (HBX.out wr BK.out).2.1⟩
end Go.Proofs.Ytnpocciioedgpaa
/- HELPERS: the table of a tree, in memory: asserts, rows, alternatives, counts. -/
namespace Go.Proofs.Ytnpocciioedgpaa
open Go.RowKit
set_option linter.unusedVariables false
set_option linter.unusedSimpArgs false
set_option maxRecDepth 100000 in
set_option maxHeartbeats 8000000 in
theorem tab3 (r1 s1 : Option Addr) (r2 r3 s2 s3 : Nat) (a2 a4 a5 a7 : Int) (a6 : Bool) (a8 : ByteArray) (ad : Option Addr) (tn tcap n : Nat) (hn : n = tn + 1) (htn : tn ≤ 64) (w : World) (tx : List Int) {w0 : World} {B : Nat} (htx : Look.TextAt B w0 ad tn tx) (ha : assertB a2 = true) (hB : B ≤ w.heap.size) (hw : ∀ b, b < B → w.heap[b]? = w0.heap[b]?) :
    Calls Try.prog 20 #[(Nv.mk 3 r1 r2 r3 a2 s1 s2 s3 a4 a5 a6 a7 a8).v, .slice ad tn tcap] w (TabC w n (fun p q => heldB tx a2 p && decide (q = p))) := by
  have htl : tn = tx.length := htx.1
  have htc : ∀ W, Below w.heap.size w W → Look.TextAt B W ad tn tx := fun W hW => by
    obtain ⟨q1, q2, q3⟩ := htx
    refine ⟨q1, q2, q3.imp id (fun ⟨b, off, ha, hb, hc⟩ => ⟨b, off, ha, hb, fun k hk => (cell_eq ((hW.block b (by omega)).trans (hw b hb)) _).trans (hc k hk)⟩)⟩
  have HTC := hid htc
  have HTL := hid htl
  have HA := hid ha
  obtain ⟨F, hF⟩ : ∃ F : Tb, F = (fun p q => heldB tx a2 p && decide (q = p)) := ⟨_, rfl⟩
  rw [← hF]
  have HF := hid hF
  clear hF htc htx hw htl ha
  have hn65 : n ≤ 65 := by omega
  have h1 : 1 ≤ n := by omega
  have hlen : IntKind.i64.wrap ((tn : Int) + 1) = (n : Int) := by simp [IntKind.wrap, IntKind.bits, IntKind.signed]; omega
  have hbx := box1 (w := w) (Nv.mk 3 r1 r2 r3 a2 s1 s2 s3 a4 a5 a6 a7 a8)
  obtain ⟨W0, hW0⟩ : ∃ W0, W0 = w.alloc (.cells #[.int .i64 3, .slice r1 r2 r3, .int .i64 a2, .slice s1 s2 s3, .int .i64 a4, .int .i64 a5, .bool a6, .int .i64 a7, .string a8] 28) := ⟨_, rfl⟩
  dsimp only at hbx
  rw [← hW0] at hbx
  have hs0 : W0.heap.size = w.heap.size + 1 := by rw [hW0]; simp
  have HBX := hid hbx
  have HB0 : Hid (Below (w.heap.size + 1) W0 W0) := Below.refl _ _
  have HC0 := lines42 n hn65 h1 W0
  have HN := hid hn
  clear hbx hn
  go_enter Try.func20, Try.ntmps20
  go_upto_region 2 with fail
  rw [← hW0]
  clear hW0
  go_wp2_with (first | (go_at_call 42; (with_reducible refine HC0.mono ?_); rintro e w1 ⟨g0, cap0, rs0, rfl, hT, hb1⟩; have HB1 : Hid (Below (w.heap.size + 1) W0 w1) := HB0.out.trans (Joins.below_le hb1 (by omega)); have HT : Hid (TB (w.heap.size + 1) w1 g0 cap0 n rs0 (fun _ _ => false)) := hT.le (by omega); obtain ⟨⟨o0, o1, o2, o3, o4, o5, o6, o7, o8⟩, hbw1, hsw1⟩ := HBX.out w1 HB1.out; have HBW1 := hid hbw1; clear hT hb1 HC0 hbw1))
  go_loopw [9] (fun x wq => ∃ (i : Nat), x = .int .i64 (i : Int) ∧ i ≤ n ∧ Hid (TB (w.heap.size + 1) wq g0 cap0 n rs0 (fun p q => decide (p < i) && F p q)) ∧ Hid (Below (w.heap.size + 1) W0 wq)) (fun x _ => n - (intOf x).toNat)
  case atStart => exact ⟨0, rfl, by omega, by exact HT.out.as (fun p q _ _ => by simp), HB1⟩
  case round =>
    obtain ⟨i, rfl, hi, HI, BK⟩ := hrel
    clear HT HB1 HBW1 o0 o1 o2 o3 o4 o5 o6 o7 o8
    by_cases hlt : i < n
    · have b1 : decide ((i : Int) < (n : Int)) = true := by simp; omega
      have b2 : (i : Int) < (n : Int) := by omega
      have ad1 : IntKind.i64.wrap ((i : Int) + 1) = (i : Int) + 1 := by simp [IntKind.wrap, IntKind.bits, IntKind.signed]; omega
      obtain ⟨⟨o0, o1, o2, o3, o4, o5, o6, o7, o8⟩, hbw, hsw⟩ := HBX.out wr BK.out
      have HC := Look.ref12 tx ad tn tcap (i : Int) wr.drew B (HTC.out wr.drew hbw.drew)
      have u1 := HI.out.outer hlt
      have u2 := HI.out.cell hlt hlt
      have u3 := HI.out.free hlt i
      have hbit := held_bit (tx := tx) HA.out (p := i) (by have := HN.out; have := HTL.out; omega)
      have hfin : TB (w.heap.size + 1) (wr.drew.setCell ⟨rs0.getD i 0, i, none⟩ (.bool (heldB tx a2 i))) g0 cap0 n rs0 (fun p q => decide (p < i + 1) && F p q) := (HI.out.drew.set (k := i) hlt _).as (fun p q _ _ => by
        rw [HF.out]
        by_cases e : p = i ∧ q = i
        · obtain ⟨rfl, rfl⟩ := e; simp
        · rw [if_neg e]
          by_cases h1 : p < i
          · simp [h1, show p < i + 1 by omega]
          · by_cases h2 : p = i
            · subst h2
              have : decide (q = p) = false := by simp; exact fun h => e ⟨rfl, h⟩
              simp [this]
            · simp [h1, show ¬ p < i + 1 by omega])
      have hbel : Below (w.heap.size + 1) W0 (wr.drew.setCell ⟨rs0.getD i 0, i, none⟩ (.bool (heldB tx a2 i))) := BK.out.drew.setCell (by exact (HI.out.rlt hlt).1) _
      obtain ⟨r, hrr⟩ : ∃ r, r = rs0.getD i 0 := ⟨_, rfl⟩
      obtain ⟨z, hz⟩ : ∃ z, z = (decide (i < i) && F i i) := ⟨_, rfl⟩
      obtain ⟨y, hy⟩ : ∃ y, y = heldB tx a2 i := ⟨_, rfl⟩
      obtain ⟨A, hA⟩ : ∃ A, A = Look.atN tx (i : Int) := ⟨_, rfl⟩
      rw [← hz] at u2
      rw [← hrr] at u1 u2 u3 hfin hbel
      rw [← hy] at hfin hbel hbit
      rw [← hA] at HC hbit
      obtain ⟨A2, hA2⟩ : ∃ A2, A2 = bits .and .i64 A a2 := ⟨_, rfl⟩
      rw [← hA2] at hbit
      have hA2' := hA2.symm
      have hbit' : decide (0 < A2) = y := hbit
      have HFN := hid hfin
      have HBE := hid hbel
      clear hfin hbel hrr hz hy hA hA2 HI BK hbw
      go_wp2_with fail
      go_region_with (first | (go_at_call 38; (with_reducible refine HC.mono ?_); rintro e w' ⟨rfl, rfl⟩))
      all_goals
        go_wp2
        exact ⟨⟨i + 1, by push_cast; rfl, by omega, HFN, HBE⟩, by simp [intOf]; omega⟩
    · have b1 : decide ((i : Int) < (n : Int)) = false := by simp; omega
      obtain rfl : i = n := by omega
      have hfin : TB (w.heap.size + 1) wr g0 cap0 i rs0 F := HI.out.as (fun p q hp _ => by simp [hp])
      have HFN := hid hfin
      clear hfin HI
      go_wp2
      go_ret
      exact ⟨g0, cap0, rs0, rfl, HFN.out.le (by omega), (HBX.out wr BK.out).2.1⟩
theorem tabC_snoc {tx : List Int} : ∀ (ts : List Tn) (a : Tb) (t : Tn), tabC tx a (ts ++ [t]) = Tb.thr (tx.length + 1) (tabC tx a ts) (tab tx t) := by
  intro ts
  induction ts with
  | nil => intro a t; simp [tabC]
  | cons u us ih => intro a t; simp only [List.cons_append, tabC]; exact ih _ t
theorem tabA_snoc {tx : List Int} : ∀ (ts : List Tn) (a : Tb) (t : Tn), tabA tx a (ts ++ [t]) = Tb.or (tabA tx a ts) (tab tx t) := by
  intro ts
  induction ts with
  | nil => intro a t; simp [tabA]
  | cons u us ih => intro a t; simp only [List.cons_append, tabA]; exact ih _ t
set_option maxRecDepth 100000 in
set_option maxHeartbeats 8000000 in
theorem tab4 (r1 s1 : Option Addr) (r2 r3 s2 s3 : Nat) (a2 a4 a5 a7 : Int) (a6 : Bool) (a8 : ByteArray) (ad : Option Addr) (tn tcap n : Nat) (hn : n = tn + 1) (htn : tn ≤ 64) (w : World) (tx : List Int) (ts : List Tn) (ND : Nat → Nv) {w0 : World} {B : Nat} (htl : tn = tx.length) (hs : s2 = ts.length) (hlen : ts.length ≤ 200000) (hS : 0 < ts.length → ∃ b o, s1 = some ⟨b, o, none⟩ ∧ b < B ∧ ∀ i, i < ts.length → N9 w0 b o i (ND i))
    (IH : ∀ i (hi : i < ts.length) (w : World), B ≤ w.heap.size → (∀ b, b < B → w.heap[b]? = w0.heap[b]?) → Calls Try.prog 20 #[(ND i).v, .slice ad tn tcap] w (TabC w n (tab tx ts[i]))) (hB : B ≤ w.heap.size) (hw : ∀ b, b < B → w.heap[b]? = w0.heap[b]?) :
    Calls Try.prog 20 #[(Nv.mk 4 r1 r2 r3 a2 s1 s2 s3 a4 a5 a6 a7 a8).v, .slice ad tn tcap] w (TabC w n (tabC tx Tb.stays ts)) := by
  have HW := hid hw
  have HS := hid hS
  have HIH := hid IH
  have HL := hid hs
  have HTL := hid htl
  have hm2 : s2 ≤ 200000 := by omega
  clear hw hS IH hs hlen htl
  have hn65 : n ≤ 65 := by omega
  have h1 : 1 ≤ n := by omega
  have hlen : IntKind.i64.wrap ((tn : Int) + 1) = (n : Int) := by simp [IntKind.wrap, IntKind.bits, IntKind.signed]; omega
  have hbx := box1 (w := w) (Nv.mk 4 r1 r2 r3 a2 s1 s2 s3 a4 a5 a6 a7 a8)
  obtain ⟨W0, hW0⟩ : ∃ W0, W0 = w.alloc (.cells #[.int .i64 4, .slice r1 r2 r3, .int .i64 a2, .slice s1 s2 s3, .int .i64 a4, .int .i64 a5, .bool a6, .int .i64 a7, .string a8] 28) := ⟨_, rfl⟩
  dsimp only at hbx
  rw [← hW0] at hbx
  have hs0 : W0.heap.size = w.heap.size + 1 := by rw [hW0]; simp
  have HBX := hid hbx
  have HB0 : Hid (Below (w.heap.size + 1) W0 W0) := Below.refl _ _
  have HC0 := lines42 n hn65 h1 W0
  have HN := hid hn
  clear hbx hn
  go_enter Try.func20, Try.ntmps20
  go_upto_region 2 with fail
  rw [← hW0]
  clear hW0
  go_wp2_with (first | (go_at_call 42; (with_reducible refine HC0.mono ?_); rintro e w1 ⟨g0, cap0, rs0, rfl, hT, hb1⟩; have HB1 : Hid (Below (w.heap.size + 1) W0 w1) := HB0.out.trans (Joins.below_le hb1 (by omega)); have HT : Hid (TB (w.heap.size + 1) w1 g0 cap0 n rs0 (fun _ _ => false)) := hT.le (by omega); obtain ⟨⟨o0, o1, o2, o3, o4, o5, o6, o7, o8⟩, hbw1, hsw1⟩ := HBX.out w1 HB1.out; have HBW1 := hid hbw1; have HC1 := stays43 n hn65 h1 w1; clear hT hb1 HC0 hbw1) | (go_at_call 43; (with_reducible refine HC1.mono ?_); rintro e w2 ⟨g1, cap1, rs1, rfl, hT1, hb2⟩; have HB2 : Hid (Below (w.heap.size + 1) W0 w2) := HB1.out.trans (Joins.below_le hb2 (by omega)); have HT1 : Hid (TB w.heap.size w2 g1 cap1 n rs1 Tb.stays) := hT1.le (by omega); clear hT1 hb2 HC1 o0 o1 o2 o3 o4 o5 o6 o7 o8))
  go_loopw [6, 10] (fun v x wq => ∃ (i g cap : Nat), v = .slice (some ⟨g, 0, none⟩) n cap ∧ x = .int .i64 (i : Int) ∧ i ≤ s2 ∧ Hid (∃ rs, TB w.heap.size wq g cap n rs (tabC tx Tb.stays (ts.take i))) ∧ Hid (Below (w.heap.size + 1) W0 wq)) (fun _ x _ => s2 - (intOf x).toNat)
  case atStart => exact ⟨0, g1, cap1, rfl, rfl, by omega, by exact ⟨rs1, by simpa [tabC] using HT1.out⟩, HB2⟩
  case round =>
    obtain ⟨i, g, cap, rfl, rfl, hi, HI, BK⟩ := hrel
    obtain ⟨⟨o0, o1, o2, o3, o4, o5, o6, o7, o8⟩, hbw, hsw⟩ := HBX.out wr BK.out
    have HBW := hid hbw
    clear hbw HT HB1 HBW1
    by_cases hil : i < s2
    · have b1 : decide ((i : Int) < (s2 : Int)) = true := by simp; omega
      have b2 : (i : Int) < (s2 : Int) := by omega
      have ad1 : IntKind.i64.wrap ((i : Int) + 1) = (i : Int) + 1 := by simp [IntKind.wrap, IntKind.bits, IntKind.signed]; omega
      have hlt : i < ts.length := by rw [← HL.out]; exact hil
      obtain ⟨b, o, hs1, hb, hc⟩ := HS.out (by omega)
      subst hs1
      have hwk : ∀ b, b < B → wr.heap[b]? = w0.heap[b]? := fun b hb => (HBW.out.block b (by omega)).trans (HW.out b hb)
      obtain ⟨n0', n1', n2', n3', n4', n5', n6', n7', n8'⟩ := (hc i hlt).kept (hwk b hb)
      have HC := HIH.out i hlt wr (by omega) hwk
      obtain ⟨rs, hT⟩ := HI.out
      have HTT := hid hT
      obtain ⟨P, hP⟩ : ∃ P, P = ND i := ⟨_, rfl⟩
      rw [← hP] at HC n0' n1' n2' n3' n4' n5' n6' n7' n8'
      clear hP hwk hc HI hT
      go_wp2_with (first | (go_at_call 20; (with_reducible refine HC.mono ?_); rintro e w3 ⟨g3, cap3, rs3, rfl, hT3, hb3⟩; have HB3 : Hid (Below (w.heap.size + 1) W0 w3) := BK.out.trans (Joins.below_le hb3 (by omega)); have hs3w : w.heap.size + 1 ≤ w3.heap.size := (HBX.out w3 HB3.out).2.2; have HC2 := through44 n hn65 h1 w3 (HTT.out.below hb3) hT3; clear hT3 hb3 HC) | (go_at_call 44; (with_reducible refine HC2.mono ?_); rintro e w4 ⟨g4, cap4, rs4, rfl, hT4, hb4⟩; have HB4 : Hid (Below (w.heap.size + 1) W0 w4) := HB3.out.trans (Joins.below_le hb4 (by omega)); have HT4 := hid hT4; clear hT4 hb4 HC2))
      have hex : ∃ rs, TB w.heap.size w4 g4 cap4 n rs (tabC tx Tb.stays (ts.take (i + 1))) := by
        refine ⟨rs4, ?_⟩
        rw [List.take_succ_eq_append_getElem hlt, tabC_snoc]
        have := HT4.out.le (N' := w.heap.size) (by omega)
        rw [HN.out, HTL.out] at this ⊢
        exact this
      exact ⟨⟨i + 1, g4, cap4, rfl, by push_cast; rfl, by omega, hex, HB4⟩, by simp [intOf]; omega⟩
    · have b1 : decide ((i : Int) < (s2 : Int)) = false := by simp; omega
      obtain rfl : i = s2 := by omega
      obtain ⟨rs, hT⟩ := HI.out
      rw [HL.out, List.take_length] at hT
      have HTT := hid hT
      clear hT HI
      go_wp2
      go_ret
      exact ⟨g, cap, rs, rfl, HTT.out, HBW.out⟩
set_option maxRecDepth 100000 in
set_option maxHeartbeats 8000000 in
theorem tab7 (r1 s1 : Option Addr) (r2 r3 s2 s3 : Nat) (a2 a4 a5 a7 : Int) (a6 : Bool) (a8 : ByteArray) (ad : Option Addr) (tn tcap n : Nat) (hn : n = tn + 1) (htn : tn ≤ 64) (w : World) (tx : List Int) (ts : List Tn) (ND : Nat → Nv) {w0 : World} {B : Nat} (htl : tn = tx.length) (hs : s2 = ts.length) (hlen : ts.length ≤ 200000) (hS : 0 < ts.length → ∃ b o, s1 = some ⟨b, o, none⟩ ∧ b < B ∧ ∀ i, i < ts.length → N9 w0 b o i (ND i))
    (IH : ∀ i (hi : i < ts.length) (w : World), B ≤ w.heap.size → (∀ b, b < B → w.heap[b]? = w0.heap[b]?) → Calls Try.prog 20 #[(ND i).v, .slice ad tn tcap] w (TabC w n (tab tx ts[i]))) (hB : B ≤ w.heap.size) (hw : ∀ b, b < B → w.heap[b]? = w0.heap[b]?) :
    Calls Try.prog 20 #[(Nv.mk 7 r1 r2 r3 a2 s1 s2 s3 a4 a5 a6 a7 a8).v, .slice ad tn tcap] w (TabC w n (tabC tx Tb.stays ts)) := by
  have HW := hid hw
  have HS := hid hS
  have HIH := hid IH
  have HL := hid hs
  have HTL := hid htl
  have hm2 : s2 ≤ 200000 := by omega
  clear hw hS IH hs hlen htl
  have hn65 : n ≤ 65 := by omega
  have h1 : 1 ≤ n := by omega
  have hlen : IntKind.i64.wrap ((tn : Int) + 1) = (n : Int) := by simp [IntKind.wrap, IntKind.bits, IntKind.signed]; omega
  have hbx := box1 (w := w) (Nv.mk 7 r1 r2 r3 a2 s1 s2 s3 a4 a5 a6 a7 a8)
  obtain ⟨W0, hW0⟩ : ∃ W0, W0 = w.alloc (.cells #[.int .i64 7, .slice r1 r2 r3, .int .i64 a2, .slice s1 s2 s3, .int .i64 a4, .int .i64 a5, .bool a6, .int .i64 a7, .string a8] 28) := ⟨_, rfl⟩
  dsimp only at hbx
  rw [← hW0] at hbx
  have hs0 : W0.heap.size = w.heap.size + 1 := by rw [hW0]; simp
  have HBX := hid hbx
  have HB0 : Hid (Below (w.heap.size + 1) W0 W0) := Below.refl _ _
  have HC0 := lines42 n hn65 h1 W0
  have HN := hid hn
  clear hbx hn
  go_enter Try.func20, Try.ntmps20
  go_upto_region 2 with fail
  rw [← hW0]
  clear hW0
  go_wp2_with (first | (go_at_call 42; (with_reducible refine HC0.mono ?_); rintro e w1 ⟨g0, cap0, rs0, rfl, hT, hb1⟩; have HB1 : Hid (Below (w.heap.size + 1) W0 w1) := HB0.out.trans (Joins.below_le hb1 (by omega)); have HT : Hid (TB (w.heap.size + 1) w1 g0 cap0 n rs0 (fun _ _ => false)) := hT.le (by omega); obtain ⟨⟨o0, o1, o2, o3, o4, o5, o6, o7, o8⟩, hbw1, hsw1⟩ := HBX.out w1 HB1.out; have HBW1 := hid hbw1; have HC1 := stays43 n hn65 h1 w1; clear hT hb1 HC0 hbw1) | (go_at_call 43; (with_reducible refine HC1.mono ?_); rintro e w2 ⟨g1, cap1, rs1, rfl, hT1, hb2⟩; have HB2 : Hid (Below (w.heap.size + 1) W0 w2) := HB1.out.trans (Joins.below_le hb2 (by omega)); have HT1 : Hid (TB w.heap.size w2 g1 cap1 n rs1 Tb.stays) := hT1.le (by omega); clear hT1 hb2 HC1 o0 o1 o2 o3 o4 o5 o6 o7 o8))
  go_loopw [6, 10] (fun v x wq => ∃ (i g cap : Nat), v = .slice (some ⟨g, 0, none⟩) n cap ∧ x = .int .i64 (i : Int) ∧ i ≤ s2 ∧ Hid (∃ rs, TB w.heap.size wq g cap n rs (tabC tx Tb.stays (ts.take i))) ∧ Hid (Below (w.heap.size + 1) W0 wq)) (fun _ x _ => s2 - (intOf x).toNat)
  case atStart => exact ⟨0, g1, cap1, rfl, rfl, by omega, by exact ⟨rs1, by simpa [tabC] using HT1.out⟩, HB2⟩
  case round =>
    obtain ⟨i, g, cap, rfl, rfl, hi, HI, BK⟩ := hrel
    obtain ⟨⟨o0, o1, o2, o3, o4, o5, o6, o7, o8⟩, hbw, hsw⟩ := HBX.out wr BK.out
    have HBW := hid hbw
    clear hbw HT HB1 HBW1
    by_cases hil : i < s2
    · have b1 : decide ((i : Int) < (s2 : Int)) = true := by simp; omega
      have b2 : (i : Int) < (s2 : Int) := by omega
      have ad1 : IntKind.i64.wrap ((i : Int) + 1) = (i : Int) + 1 := by simp [IntKind.wrap, IntKind.bits, IntKind.signed]; omega
      have hlt : i < ts.length := by rw [← HL.out]; exact hil
      obtain ⟨b, o, hs1, hb, hc⟩ := HS.out (by omega)
      subst hs1
      have hwk : ∀ b, b < B → wr.heap[b]? = w0.heap[b]? := fun b hb => (HBW.out.block b (by omega)).trans (HW.out b hb)
      obtain ⟨n0', n1', n2', n3', n4', n5', n6', n7', n8'⟩ := (hc i hlt).kept (hwk b hb)
      have HC := HIH.out i hlt wr (by omega) hwk
      obtain ⟨rs, hT⟩ := HI.out
      have HTT := hid hT
      obtain ⟨P, hP⟩ : ∃ P, P = ND i := ⟨_, rfl⟩
      rw [← hP] at HC n0' n1' n2' n3' n4' n5' n6' n7' n8'
      clear hP hwk hc HI hT
      go_wp2_with (first | (go_at_call 20; (with_reducible refine HC.mono ?_); rintro e w3 ⟨g3, cap3, rs3, rfl, hT3, hb3⟩; have HB3 : Hid (Below (w.heap.size + 1) W0 w3) := BK.out.trans (Joins.below_le hb3 (by omega)); have hs3w : w.heap.size + 1 ≤ w3.heap.size := (HBX.out w3 HB3.out).2.2; have HC2 := through44 n hn65 h1 w3 (HTT.out.below hb3) hT3; clear hT3 hb3 HC) | (go_at_call 44; (with_reducible refine HC2.mono ?_); rintro e w4 ⟨g4, cap4, rs4, rfl, hT4, hb4⟩; have HB4 : Hid (Below (w.heap.size + 1) W0 w4) := HB3.out.trans (Joins.below_le hb4 (by omega)); have HT4 := hid hT4; clear hT4 hb4 HC2))
      have hex : ∃ rs, TB w.heap.size w4 g4 cap4 n rs (tabC tx Tb.stays (ts.take (i + 1))) := by
        refine ⟨rs4, ?_⟩
        rw [List.take_succ_eq_append_getElem hlt, tabC_snoc]
        have := HT4.out.le (N' := w.heap.size) (by omega)
        rw [HN.out, HTL.out] at this ⊢
        exact this
      exact ⟨⟨i + 1, g4, cap4, rfl, by push_cast; rfl, by omega, hex, HB4⟩, by simp [intOf]; omega⟩
    · have b1 : decide ((i : Int) < (s2 : Int)) = false := by simp; omega
      obtain rfl : i = s2 := by omega
      obtain ⟨rs, hT⟩ := HI.out
      rw [HL.out, List.take_length] at hT
      have HTT := hid hT
      clear hT HI
      go_wp2
      go_ret
      exact ⟨g, cap, rs, rfl, HTT.out, HBW.out⟩
set_option maxRecDepth 100000 in
set_option maxHeartbeats 8000000 in
theorem tab5 (r1 s1 : Option Addr) (r2 r3 s2 s3 : Nat) (a2 a4 a5 a7 : Int) (a6 : Bool) (a8 : ByteArray) (ad : Option Addr) (tn tcap n : Nat) (hn : n = tn + 1) (htn : tn ≤ 64) (w : World) (tx : List Int) (ts : List Tn) (ND : Nat → Nv) {w0 : World} {B : Nat} (htl : tn = tx.length) (hs : s2 = ts.length) (hlen : ts.length ≤ 200000) (hS : 0 < ts.length → ∃ b o, s1 = some ⟨b, o, none⟩ ∧ b < B ∧ ∀ i, i < ts.length → N9 w0 b o i (ND i))
    (IH : ∀ i (hi : i < ts.length) (w : World), B ≤ w.heap.size → (∀ b, b < B → w.heap[b]? = w0.heap[b]?) → Calls Try.prog 20 #[(ND i).v, .slice ad tn tcap] w (TabC w n (tab tx ts[i]))) (hB : B ≤ w.heap.size) (hw : ∀ b, b < B → w.heap[b]? = w0.heap[b]?) :
    Calls Try.prog 20 #[(Nv.mk 5 r1 r2 r3 a2 s1 s2 s3 a4 a5 a6 a7 a8).v, .slice ad tn tcap] w (TabC w n (tabA tx (fun _ _ => false) ts)) := by
  have HW := hid hw
  have HS := hid hS
  have HIH := hid IH
  have HL := hid hs
  have HTL := hid htl
  have hm2 : s2 ≤ 200000 := by omega
  clear hw hS IH hs hlen htl
  have hn65 : n ≤ 65 := by omega
  have h1 : 1 ≤ n := by omega
  have hlen : IntKind.i64.wrap ((tn : Int) + 1) = (n : Int) := by simp [IntKind.wrap, IntKind.bits, IntKind.signed]; omega
  have hbx := box1 (w := w) (Nv.mk 5 r1 r2 r3 a2 s1 s2 s3 a4 a5 a6 a7 a8)
  obtain ⟨W0, hW0⟩ : ∃ W0, W0 = w.alloc (.cells #[.int .i64 5, .slice r1 r2 r3, .int .i64 a2, .slice s1 s2 s3, .int .i64 a4, .int .i64 a5, .bool a6, .int .i64 a7, .string a8] 28) := ⟨_, rfl⟩
  dsimp only at hbx
  rw [← hW0] at hbx
  have hs0 : W0.heap.size = w.heap.size + 1 := by rw [hW0]; simp
  have HBX := hid hbx
  have HB0 : Hid (Below (w.heap.size + 1) W0 W0) := Below.refl _ _
  have HC0 := lines42 n hn65 h1 W0
  have HN := hid hn
  clear hbx hn
  go_enter Try.func20, Try.ntmps20
  go_upto_region 2 with fail
  rw [← hW0]
  clear hW0
  go_wp2_with (first | (go_at_call 42; (with_reducible refine HC0.mono ?_); rintro e w1 ⟨g0, cap0, rs0, rfl, hT, hb1⟩; have HB1 : Hid (Below (w.heap.size + 1) W0 w1) := HB0.out.trans (Joins.below_le hb1 (by omega)); have HT : Hid (TB (w.heap.size + 1) w1 g0 cap0 n rs0 (fun _ _ => false)) := hT.le (by omega); obtain ⟨⟨o0, o1, o2, o3, o4, o5, o6, o7, o8⟩, hbw1, hsw1⟩ := HBX.out w1 HB1.out; have HBW1 := hid hbw1; clear hT hb1 HC0 hbw1))
  go_loopw [6, 11] (fun v x wq => ∃ (i g cap : Nat), v = .slice (some ⟨g, 0, none⟩) n cap ∧ x = .int .i64 (i : Int) ∧ i ≤ s2 ∧ Hid (∃ rs, TB w.heap.size wq g cap n rs (tabA tx (fun _ _ => false) (ts.take i))) ∧ Hid (Below (w.heap.size + 1) W0 wq)) (fun _ x _ => s2 - (intOf x).toNat)
  case atStart => exact ⟨0, g0, cap0, rfl, rfl, by omega, by exact ⟨rs0, by simpa [tabA] using HT.out.le (N' := w.heap.size) (by omega)⟩, HB1⟩
  case round =>
    obtain ⟨i, g, cap, rfl, rfl, hi, HI, BK⟩ := hrel
    obtain ⟨⟨o0, o1, o2, o3, o4, o5, o6, o7, o8⟩, hbw, hsw⟩ := HBX.out wr BK.out
    have HBW := hid hbw
    clear hbw HT HB1 HBW1
    by_cases hil : i < s2
    · have b1 : decide ((i : Int) < (s2 : Int)) = true := by simp; omega
      have b2 : (i : Int) < (s2 : Int) := by omega
      have ad1 : IntKind.i64.wrap ((i : Int) + 1) = (i : Int) + 1 := by simp [IntKind.wrap, IntKind.bits, IntKind.signed]; omega
      have hlt : i < ts.length := by rw [← HL.out]; exact hil
      obtain ⟨b, o, hs1, hb, hc⟩ := HS.out (by omega)
      subst hs1
      have hwk : ∀ b, b < B → wr.heap[b]? = w0.heap[b]? := fun b hb => (HBW.out.block b (by omega)).trans (HW.out b hb)
      obtain ⟨n0', n1', n2', n3', n4', n5', n6', n7', n8'⟩ := (hc i hlt).kept (hwk b hb)
      have HC := HIH.out i hlt wr (by omega) hwk
      obtain ⟨rs, hT⟩ := HI.out
      have HTT := hid hT
      obtain ⟨P, hP⟩ : ∃ P, P = ND i := ⟨_, rfl⟩
      rw [← hP] at HC n0' n1' n2' n3' n4' n5' n6' n7' n8'
      clear hP hwk hc HI hT
      go_wp2_with (first | (go_at_call 20; (with_reducible refine HC.mono ?_); rintro e w3 ⟨g3, cap3, rs3, rfl, hT3, hb3⟩; have HB3 : Hid (Below (w.heap.size + 1) W0 w3) := BK.out.trans (Joins.below_le hb3 (by omega)); have hs3w : w.heap.size + 1 ≤ w3.heap.size := (HBX.out w3 HB3.out).2.2; have HC2 := or45 n hn65 h1 w3 (HTT.out.below hb3) hT3; clear hT3 hb3 HC) | (go_at_call 45; (with_reducible refine HC2.mono ?_); rintro e w4 ⟨g4, cap4, rs4, rfl, hT4, hb4⟩; have HB4 : Hid (Below (w.heap.size + 1) W0 w4) := HB3.out.trans (Joins.below_le hb4 (by omega)); have HT4 := hid hT4; clear hT4 hb4 HC2))
      have hex : ∃ rs, TB w.heap.size w4 g4 cap4 n rs (tabA tx (fun _ _ => false) (ts.take (i + 1))) := by
        refine ⟨rs4, ?_⟩
        rw [List.take_succ_eq_append_getElem hlt, tabA_snoc]
        have := HT4.out.le (N' := w.heap.size) (by omega)
        exact this
      exact ⟨⟨i + 1, g4, cap4, rfl, by push_cast; rfl, by omega, hex, HB4⟩, by simp [intOf]; omega⟩
    · have b1 : decide ((i : Int) < (s2 : Int)) = false := by simp; omega
      obtain rfl : i = s2 := by omega
      obtain ⟨rs, hT⟩ := HI.out
      rw [HL.out, List.take_length] at hT
      have HTT := hid hT
      clear hT HI
      go_wp2
      go_ret
      exact ⟨g, cap, rs, rfl, HTT.out, HBW.out⟩
end Go.Proofs.Ytnpocciioedgpaa
/- HELPERS: the table of every fine tree, in memory. -/
namespace Go.Proofs.Ytnpocciioedgpaa
open Go.RowKit
set_option linter.unusedVariables false
set_option linter.unusedSimpArgs false
set_option maxRecDepth 100000 in
set_option maxHeartbeats 8000000 in
theorem tab6z (r1 s1 : Option Addr) (r2 r3 s2 s3 : Nat) (a2 a4 a5 a7 : Int) (a6 : Bool) (a8 : ByteArray) (ad : Option Addr) (tn tcap n : Nat) (hn : n = tn + 1) (htn : tn ≤ 64) (w : World) (h0 : a5 = 0) : Calls Try.prog 20 #[(Nv.mk 6 r1 r2 r3 a2 s1 s2 s3 a4 a5 a6 a7 a8).v, .slice ad tn tcap] w (TabC w n Tb.stays) := by
  subst h0
  have hn65 : n ≤ 65 := by omega
  have h1 : 1 ≤ n := by omega
  have hlen : IntKind.i64.wrap ((tn : Int) + 1) = (n : Int) := by simp [IntKind.wrap, IntKind.bits, IntKind.signed]; omega
  have hbx := box1 (w := w) (Nv.mk 6 r1 r2 r3 a2 s1 s2 s3 a4 0 a6 a7 a8)
  obtain ⟨W0, hW0⟩ : ∃ W0, W0 = w.alloc (.cells #[.int .i64 6, .slice r1 r2 r3, .int .i64 a2, .slice s1 s2 s3, .int .i64 a4, .int .i64 0, .bool a6, .int .i64 a7, .string a8] 28) := ⟨_, rfl⟩
  dsimp only at hbx
  rw [← hW0] at hbx
  have hs0 : W0.heap.size = w.heap.size + 1 := by rw [hW0]; simp
  have HBX := hid hbx
  have HB0 : Hid (Below (w.heap.size + 1) W0 W0) := Below.refl _ _
  have HC0 := lines42 n hn65 h1 W0
  have HN := hid hn
  clear hbx hn
  go_enter Try.func20, Try.ntmps20
  go_upto_region 2 with fail
  rw [← hW0]
  clear hW0
  go_wp2_with (first | (go_at_call 42; (with_reducible refine HC0.mono ?_); rintro e w1 ⟨g0, cap0, rs0, rfl, hT, hb1⟩; have HB1 : Hid (Below (w.heap.size + 1) W0 w1) := HB0.out.trans (Joins.below_le hb1 (by omega)); have HT : Hid (TB (w.heap.size + 1) w1 g0 cap0 n rs0 (fun _ _ => false)) := hT.le (by omega); obtain ⟨⟨o0, o1, o2, o3, o4, o5, o6, o7, o8⟩, hbw1, hsw1⟩ := HBX.out w1 HB1.out; have HBW1 := hid hbw1; have HC1 := stays43 n hn65 h1 w1; clear hT hb1 HC0 hbw1) | (go_at_call 43; (with_reducible refine HC1.mono ?_); rintro e w2 ⟨g1, cap1, rs1, rfl, hT1, hb2⟩; have HB2 : Hid (Below (w.heap.size + 1) W0 w2) := HB1.out.trans (Joins.below_le hb2 (by omega)); have HT1 : Hid (TB w.heap.size w2 g1 cap1 n rs1 Tb.stays) := hT1.le (by omega); clear hT1 hb2 HC1 o0 o1 o2 o3 o4 o5 o6 o7 o8))
  go_ret
  exact ⟨g1, cap1, rs1, rfl, HT1.out, (HBX.out w2 HB2.out).2.1⟩
set_option maxRecDepth 100000 in
set_option maxHeartbeats 8000000 in
theorem tab6 (r1 : Option Addr) (sb so : Nat) (r2 r3 s3 : Nat) (a2 a4 a5 a7 : Int) (a6 : Bool) (a8 : ByteArray) (ad : Option Addr) (tn tcap n : Nat) (hn : n = tn + 1) (htn : tn ≤ 64) (w : World) (P : Nv) (fs F : Tb) {w0 : World} {B : Nat} (hF : F = if a5 < 0 then Tb.thr n (Tb.pow n fs a4.toNat) (Tb.oft fs n) else Tb.upTo n fs a4.toNat (a5 - a4).toNat) (hm0 : 0 ≤ a4) (hm1 : a4 ≤ 1000) (hx : a5 = -1 ∨ a4 ≤ a5 ∧ a5 ≤ 1000) (h0 : a5 ≠ 0) (hsb : sb < B) (hS : N9 w0 sb so 0 P)
    (IH : ∀ (w : World), B ≤ w.heap.size → (∀ b, b < B → w.heap[b]? = w0.heap[b]?) → Calls Try.prog 20 #[P.v, .slice ad tn tcap] w (TabC w n fs)) (hB : B ≤ w.heap.size) (hw : ∀ b, b < B → w.heap[b]? = w0.heap[b]?) :
    Calls Try.prog 20 #[(Nv.mk 6 r1 r2 r3 a2 (some ⟨sb, so, none⟩) 1 s3 a4 a5 a6 a7 a8).v, .slice ad tn tcap] w (TabC w n F) := by
  have hsub : ∀ W, Below w.heap.size w W → W.cell? ⟨sb, so, none⟩ = some (.int .i64 P.k) ∧ W.cell? ⟨sb, so + 1, none⟩ = some (.slice P.r1 P.r2 P.r3) ∧ W.cell? ⟨sb, so + 2, none⟩ = some (.int .i64 P.a2) ∧ W.cell? ⟨sb, so + 3, none⟩ = some (.slice P.s1 P.s2 P.s3) ∧ W.cell? ⟨sb, so + 4, none⟩ = some (.int .i64 P.a4) ∧ W.cell? ⟨sb, so + 5, none⟩ = some (.int .i64 P.a5) ∧ W.cell? ⟨sb, so + 6, none⟩ = some (.bool P.a6) ∧ W.cell? ⟨sb, so + 7, none⟩ = some (.int .i64 P.a7) ∧ W.cell? ⟨sb, so + 8, none⟩ = some (.string P.a8) := fun W hW => by
    have := hS.kept ((hW.block sb (by omega)).trans (hw sb hsb))
    simpa [N9] using this
  have HSUB := hid hsub
  have HIH := hid IH
  have HW := hid hw
  have HFF := hid hF
  have e0 : (a5 == 0) = false := by simpa using h0
  clear hF hsub IH hw hS h0
  have hn65 : n ≤ 65 := by omega
  have h1 : 1 ≤ n := by omega
  have hlen : IntKind.i64.wrap ((tn : Int) + 1) = (n : Int) := by simp [IntKind.wrap, IntKind.bits, IntKind.signed]; omega
  have hbx := box1 (w := w) (Nv.mk 6 r1 r2 r3 a2 (some ⟨sb, so, none⟩) 1 s3 a4 a5 a6 a7 a8)
  obtain ⟨W0, hW0⟩ : ∃ W0, W0 = w.alloc (.cells #[.int .i64 6, .slice r1 r2 r3, .int .i64 a2, .slice (some ⟨sb, so, none⟩) 1 s3, .int .i64 a4, .int .i64 a5, .bool a6, .int .i64 a7, .string a8] 28) := ⟨_, rfl⟩
  dsimp only at hbx
  rw [← hW0] at hbx
  have hs0 : W0.heap.size = w.heap.size + 1 := by rw [hW0]; simp
  have HBX := hid hbx
  have HB0 : Hid (Below (w.heap.size + 1) W0 W0) := Below.refl _ _
  have HC0 := lines42 n hn65 h1 W0
  have HN := hid hn
  clear hbx hn
  go_enter Try.func20, Try.ntmps20
  go_upto_region 2 with fail
  rw [← hW0]
  clear hW0
  go_upto_region 34 with (first | (go_at_call 42; (with_reducible refine HC0.mono ?_); rintro e w1 ⟨g0, cap0, rs0, rfl, hT, hb1⟩; have HB1 : Hid (Below (w.heap.size + 1) W0 w1) := HB0.out.trans (Joins.below_le hb1 (by omega)); have HT : Hid (TB (w.heap.size + 1) w1 g0 cap0 n rs0 (fun _ _ => false)) := hT.le (by omega); obtain ⟨⟨o0, o1, o2, o3, o4, o5, o6, o7, o8⟩, hbw1, hsw1⟩ := HBX.out w1 HB1.out; have HBW1 := hid hbw1; clear hT hb1 HC0 hbw1))
  obtain ⟨⟨o0, o1, o2, o3, o4, o5, o6, o7, o8⟩, hbw1, hsw1⟩ := HBX.out w1 HB1.out
  have hS0 : ∀ W, Below (w.heap.size + 1) W0 W → (W.cell? ⟨w.heap.size, 0, none⟩ = some (.int .i64 6) ∧ W.cell? ⟨w.heap.size, 1, none⟩ = some (.slice r1 r2 r3) ∧ W.cell? ⟨w.heap.size, 2, none⟩ = some (.int .i64 a2) ∧ W.cell? ⟨w.heap.size, 3, none⟩ = some (.slice (some ⟨sb, so, none⟩) 1 s3) ∧ W.cell? ⟨w.heap.size, 4, none⟩ = some (.int .i64 a4) ∧ W.cell? ⟨w.heap.size, 5, none⟩ = some (.int .i64 a5) ∧ W.cell? ⟨w.heap.size, 6, none⟩ = some (.bool a6) ∧ W.cell? ⟨w.heap.size, 7, none⟩ = some (.int .i64 a7) ∧ W.cell? ⟨w.heap.size, 8, none⟩ = some (.string a8)) ∧ W.cell? ⟨sb, so, none⟩ = some (.int .i64 P.k) ∧ W.cell? ⟨sb, so + 1, none⟩ = some (.slice P.r1 P.r2 P.r3) ∧ W.cell? ⟨sb, so + 2, none⟩ = some (.int .i64 P.a2) ∧ W.cell? ⟨sb, so + 3, none⟩ = some (.slice P.s1 P.s2 P.s3) ∧ W.cell? ⟨sb, so + 4, none⟩ = some (.int .i64 P.a4) ∧ W.cell? ⟨sb, so + 5, none⟩ = some (.int .i64 P.a5) ∧ W.cell? ⟨sb, so + 6, none⟩ = some (.bool P.a6) ∧ W.cell? ⟨sb, so + 7, none⟩ = some (.int .i64 P.a7) ∧ W.cell? ⟨sb, so + 8, none⟩ = some (.string P.a8) := fun W hW => ⟨(HBX.out W hW).1, HSUB.out W (HBX.out W hW).2.1⟩
  have HS0 := hid hS0
  have HBd : Hid (Below (w.heap.size + 1) W0 w1.drew) := HB1.out.drew
  have hsd : w.heap.size + 1 ≤ w1.drew.heap.size := hsw1
  have HC := HIH.out w1.drew (by omega) (fun b hb => (((HBX.out _ HBd.out).2.1).block b (by omega)).trans (HW.out b hb))
  clear hS0 hbw1 o0 o1 o2 o3 o4 o5 o6 o7 o8
  go_region_held2 (fun W => (W.cell? ⟨w.heap.size, 0, none⟩ = some (.int .i64 6) ∧ W.cell? ⟨w.heap.size, 1, none⟩ = some (.slice r1 r2 r3) ∧ W.cell? ⟨w.heap.size, 2, none⟩ = some (.int .i64 a2) ∧ W.cell? ⟨w.heap.size, 3, none⟩ = some (.slice (some ⟨sb, so, none⟩) 1 s3) ∧ W.cell? ⟨w.heap.size, 4, none⟩ = some (.int .i64 a4) ∧ W.cell? ⟨w.heap.size, 5, none⟩ = some (.int .i64 a5) ∧ W.cell? ⟨w.heap.size, 6, none⟩ = some (.bool a6) ∧ W.cell? ⟨w.heap.size, 7, none⟩ = some (.int .i64 a7) ∧ W.cell? ⟨w.heap.size, 8, none⟩ = some (.string a8)) ∧ W.cell? ⟨sb, so, none⟩ = some (.int .i64 P.k) ∧ W.cell? ⟨sb, so + 1, none⟩ = some (.slice P.r1 P.r2 P.r3) ∧ W.cell? ⟨sb, so + 2, none⟩ = some (.int .i64 P.a2) ∧ W.cell? ⟨sb, so + 3, none⟩ = some (.slice P.s1 P.s2 P.s3) ∧ W.cell? ⟨sb, so + 4, none⟩ = some (.int .i64 P.a4) ∧ W.cell? ⟨sb, so + 5, none⟩ = some (.int .i64 P.a5) ∧ W.cell? ⟨sb, so + 6, none⟩ = some (.bool P.a6) ∧ W.cell? ⟨sb, so + 7, none⟩ = some (.int .i64 P.a7) ∧ W.cell? ⟨sb, so + 8, none⟩ = some (.string P.a8))
    (first | exact HS0.out _ HB1.out | exact HS0.out _ HBd.out | exact HS0.out _ HB3.out | exact HS0.out _ HB4.out)
    (first | (go_at_call 20; (with_reducible refine HC.mono ?_); rintro e w3 ⟨g3, cap3, rs3, rfl, hT3, hb3⟩; have HB3 : Hid (Below (w.heap.size + 1) W0 w3) := HBd.out.trans (Joins.below_le hb3 (by omega)); have hs3w : w.heap.size + 1 ≤ w3.heap.size := (HBX.out w3 HB3.out).2.2; have HC2 := times46 n hn65 h1 (Nv.mk 6 r1 r2 r3 a2 (some ⟨sb, so, none⟩) 1 s3 a4 a5 a6 a7 a8) w3 hT3 hm0 hm1 hx; dsimp only at HC2; rw [← HFF.out] at HC2; clear hT3 hb3 HC) | (go_at_call 46; (with_reducible refine HC2.mono ?_); rintro e w4 ⟨g4, cap4, rs4, rfl, hT4, hb4⟩; have HB4 : Hid (Below (w.heap.size + 1) W0 w4) := HB3.out.trans (Joins.below_le hb4 (by omega)); have HT4 := hid hT4; clear hT4 hb4 HC2))
  all_goals
    go_wp2
    go_ret
    exact ⟨g4, cap4, rs4, rfl, HT4.out.le (by omega), (HBX.out w4 HB4.out).2.1⟩
theorem table20 {w0 : World} {B : Nat} {N : Nv} {t : Tn} (h : TI w0 B N t) (tx : List Int) (ad : Option Addr) (tn tcap n : Nat) (htx : Look.TextAt B w0 ad tn tx) (hn : n = tn + 1) (htn : tn ≤ 64) : t.fine = true → t.nodes ≤ 200000 → ∀ (w : World), B ≤ w.heap.size → (∀ b, b < B → w.heap[b]? = w0.heap[b]?) →
    Calls Try.prog 20 #[N.v, .slice ad tn tcap] w (TabC w n (tab tx t)) := by
  induction h with
  | @mk N R ts ND ok hr hR hRk hs hS hk ih =>
  intro hf hno w hB hw
  simp only [Tn.fine, Bool.and_eq_true] at hf
  simp only [Tn.nodes] at hno
  have FN := fine_node hf.1
  have hfg := fineL_get hf.2
  have IH : ∀ i (hi : i < ts.length) (w : World), B ≤ w.heap.size → (∀ b, b < B → w.heap[b]? = w0.heap[b]?) → Calls Try.prog 20 #[(ND i).v, .slice ad tn tcap] w (TabC w n (tab tx ts[i])) := fun i hi => ih i hi (hfg i hi) (by have := nodes_get ts i hi; omega)
  have hlen : ts.length ≤ 200000 := by have := nodes_ge ts; omega
  have htl : tn = tx.length := htx.1
  obtain ⟨k, r1, r2, r3, a2, s1, s2, s3, a4, a5, a6, a7, a8⟩ := N
  simp only at hs hS hr hR FN
  rcases FN.kind with rfl | rfl | rfl | rfl | rfl | rfl | rfl
  · have e : tab tx (.mk 1 R a2 ts a4 a5 a6 a7 a8) = Tb.stays := by simp [tab]
    rw [e]
    exact tab1 r1 s1 r2 r3 s2 s3 a2 a4 a5 a7 a6 a8 ad tn tcap n hn htn w
  · have e : tab tx (.mk 2 R a2 ts a4 a5 a6 a7 a8) = fun p q => decide (p < tx.length) && hasB R (tx.getD p 0) && decide (q = p + 1) := by simp [tab]
    rw [e]
    have hcl := FN.cls rfl
    simp only [rightB, Bool.and_eq_true, decide_eq_true_eq] at hcl
    exact tab2 r1 s1 r2 r3 s2 s3 a2 a4 a5 a7 a6 a8 ad tn tcap n hn htn w tx R htx hr hR hcl.1 hB hw
  · have e : tab tx (.mk 3 R a2 ts a4 a5 a6 a7 a8) = fun p q => heldB tx a2 p && decide (q = p) := by simp [tab]
    rw [e]
    exact tab3 r1 s1 r2 r3 s2 s3 a2 a4 a5 a7 a6 a8 ad tn tcap n hn htn w tx htx (FN.ast rfl) hB hw
  · have e : tab tx (.mk 4 R a2 ts a4 a5 a6 a7 a8) = tabC tx Tb.stays ts := by simp [tab]
    rw [e]
    exact tab4 r1 s1 r2 r3 s2 s3 a2 a4 a5 a7 a6 a8 ad tn tcap n hn htn w tx ts ND htl hs hlen hS IH hB hw
  · have e : tab tx (.mk 5 R a2 ts a4 a5 a6 a7 a8) = tabA tx (fun _ _ => false) ts := by simp [tab]
    rw [e]
    exact tab5 r1 s1 r2 r3 s2 s3 a2 a4 a5 a7 a6 a8 ad tn tcap n hn htn w tx ts ND htl hs hlen hS IH hB hw
  · obtain ⟨h1, h2, h3, h4⟩ := FN.rep rfl
    obtain ⟨t, rfl⟩ : ∃ t, ts = [t] := List.length_eq_one_iff.1 h1
    by_cases c0 : a5 = 0
    · have e : tab tx (.mk 6 R a2 [t] a4 a5 a6 a7 a8) = Tb.stays := by simp [tab, c0]
      rw [e]
      exact tab6z r1 s1 r2 r3 s2 s3 a2 a4 a5 a7 a6 a8 ad tn tcap n hn htn w c0
    · obtain ⟨b, o, rfl, hb, hc⟩ := hS (by simp)
      obtain rfl : s2 = 1 := hs
      have hF : tab tx (.mk 6 R a2 [t] a4 a5 a6 a7 a8) = if a5 < 0 then Tb.thr n (Tb.pow n (tab tx t) a4.toNat) (Tb.oft (tab tx t) n) else Tb.upTo n (tab tx t) a4.toNat (a5 - a4).toNat := by
        rw [hn, htl]
        simp [tab, c0, tabH]
      exact tab6 r1 b o r2 r3 s3 a2 a4 a5 a7 a6 a8 ad tn tcap n hn htn w (ND 0) (tab tx t) _ hF h2 h3 h4 c0 hb (hc 0 (by simp)) (IH 0 (by simp)) hB hw
  · have e : tab tx (.mk 7 R a2 ts a4 a5 a6 a7 a8) = tabC tx Tb.stays ts := by simp [tab]
    rw [e]
    exact tab7 r1 s1 r2 r3 s2 s3 a2 a4 a5 a7 a6 a8 ad tn tcap n hn htn w tx ts ND htl hs hlen hS IH hB hw
end Go.Proofs.Ytnpocciioedgpaa
