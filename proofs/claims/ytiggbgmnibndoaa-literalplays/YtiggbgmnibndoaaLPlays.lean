/- PROVED: the law LiteralPlays of layer 15 answers true for every two rows and every row of questions (a text, a place, which of two Finders), and they read afterwards as they read before: New answers as the document's does (ErrLong just if the row has more than MaxText runes), and each Next the first place from one on at which the row stands, or -1, whatever was asked before, though the rows are written over when the Finders are made, and the texts when they have been asked; nothing that was handed in was changed, nor the marks behind it.
   CONDITIONS: none but the form's own (each slice and string at most 2^47 - 4096 bytes). -/
import Derived.Test.YtiggbgmnibndoaaK06
import Derived.Test.YtiggbgmnibndoaaRows
/- HELPERS: the law LiteralPlays. Made by tools/gen_litplays.py. -/
namespace Go.Proofs.Ytiggbgmnibndoaa
open Go.RowKit Go.Lk Kmp
set_option linter.unusedVariables false
set_option linter.unusedSimpArgs false
theorem next_ex' (lit tx : List Int) : ∀ m a : Nat, tx.length + 1 ≤ a + m → (∀ i, a ≤ i → ¬ Stands lit tx i) ∨ ∃ p, a ≤ p ∧ Stands lit tx p ∧ ∀ i, a ≤ i → i < p → ¬ Stands lit tx i
  | 0, a, h => .inl fun i hi hs => by have := hs.1; omega
  | m + 1, a, h => by
    by_cases hs : Stands lit tx a
    · exact .inr ⟨a, Nat.le_refl _, hs, fun i h1 h2 => by omega⟩
    · rcases next_ex' lit tx m (a + 1) (by omega) with h1 | ⟨p, h1, h2, h3⟩
      · exact .inl fun i hi => by
          by_cases e : i = a
          · subst e; exact hs
          · exact h1 i (by omega)
      · refine .inr ⟨p, by omega, h2, fun i hi hp => ?_⟩
        by_cases e : i = a
        · subst e; exact hs
        · exact h3 i (by omega) hp
theorem next_ex (lit tx : List Int) (a : Int) : ∃ r, NextIs lit tx a r := by
  by_cases h : a < 0 ∨ (tx.length : Int) < a
  · exact ⟨-1, .inl ⟨h, rfl⟩⟩
  · obtain ⟨A, rfl⟩ := Int.eq_ofNat_of_zero_le (show 0 ≤ a by omega)
    rcases next_ex' lit tx (tx.length + 1) A (by omega) with h1 | ⟨p, h1, h2, h3⟩
    · exact ⟨-1, .inr ⟨A, rfl, by omega, .inl ⟨rfl, h1⟩⟩⟩
    · exact ⟨p, .inr ⟨A, rfl, by omega, .inr ⟨p, rfl, h1, h2, h3⟩⟩⟩
theorem FN.chg {w w' : World} {B f ab : Nat} {lit : List Int} (h : FN w B f lit) (hc : Chg w w' [ab] [ab]) (hab : ab < B) : FN w' B f lit := by
  obtain ⟨⟨g, h', bs, a1, a2, a3, a4⟩, h5, h6⟩ := h
  refine ⟨⟨g, h', bs, (hc.block f a1.lt (by simp; omega)).trans a1, hc.row a2 (fun k hk => by have := (a2.lt k hk).1; simp; omega), hc.row a3 (fun k hk => by have := (a3.lt k hk).1; simp; omega), a4⟩, h5, h6⟩
theorem LR.chg {w w' : World} {M tb n ab : Nat} {l : List Int} (h : LR w M tb n l) (hc : Chg w w' [ab] [ab]) (hab : ab < M) : LR w' M tb n l := Chg.row hc h (fun k hk => by have := (World.ownsRow.lt h k hk).1; simp; omega)
/-- a question -/
structure Ak where
  ta : Option Addr
  tn : Nat
  tc : Nat
  at_ : Int
  two : Bool
  tx : List Int
instance : Inhabited Ak := ⟨⟨none, 0, 0, 0, false, []⟩⟩
/-- a row of questions in memory -/
structure AK (w : World) (ad : Option Addr) (n : Nat) (L : Nat → Ak) : Prop where
  mem : 0 < n → ∃ b o, ad = some ⟨b, o, none⟩ ∧ b < w.heap.size ∧ ∀ i, i < n → w.cell? ⟨b, o + i * 3, none⟩ = some (.slice (L i).ta (L i).tn (L i).tc) ∧ w.cell? ⟨b, o + i * 3 + 1, none⟩ = some (.int .i64 (L i).at_) ∧ w.cell? ⟨b, o + i * 3 + 2, none⟩ = some (.bool (L i).two)
  txt : ∀ i, i < n → TA w (L i).ta (L i).tn (L i).tc (L i).tx
theorem nextv {w : World} {B f tn tc : Nat} {tad : Option Addr} {lit tx : List Int} {a r : Int} (hr : NextIs lit tx a r) (hF : FN w B f lit) (hT : TextAt w.heap.size w tad tn tx) : Calls Try.prog 22 #[.pointer (some ⟨f, 0, none⟩), .slice tad tn tc, .int .i64 a] w fun e w' => e = .returned (.int .i64 r) ∧ w' = w :=
  (next22 hF hT).mono fun e w' ⟨r', h1, h2, h3⟩ => ⟨by rw [h1, h2.eq hr], h3⟩
theorem rnextv {w : World} {B f tn tc : Nat} {tad : Option Addr} {lit tx : List Int} {a r : Int} (hr : NextIs lit tx a r) (hF : RN w B f lit) (hT : TextAt w.heap.size w tad tn tx) : Calls Try.prog 23 #[.pointer (some ⟨f, 0, none⟩), .slice tad tn tc, .int .i64 a] w fun e w' => e = .returned (.int .i64 r) ∧ Eqw w w' :=
  (rnext23 hF hT).mono fun e w' ⟨r', h1, h2, h3⟩ => ⟨by rw [h1, h2.eq hr], h3⟩
set_option maxRecDepth 100000 in
set_option maxHeartbeats 8000000 in
theorem plays5_00 {w : World} {o1 o2 aa : Option Addr} {n1 c1 n2 c2 an ac : Nat} {l1 l2 : List Int} {L : Nat → Ak} (h1 : TA w o1 n1 c1 l1) (h2 : TA w o2 n2 c2 l2) (hA : AK w aa an L) (han : an ≤ 140737488351232) (hl1 : n1 ≤ 4194304) (hl2 : n2 ≤ 4194304) :
    Calls Try.prog 5 #[.slice o1 n1 c1, .slice o2 n2 c2, .slice aa an ac] w fun e w' => e = .returned (.bool true) ∧ Below w.heap.size w w' := by
  have HA8 := hid (awake8 w)
  have H1 := hid h1
  have H2 := hid h2
  have HA := hid hA
  have hs1 := h1.sm
  have hs2 := h2.sm
  have HT1 : Hid (∀ W, Below w.heap.size w W → TextAt W.heap.size W o1 n1 l1) := fun W hW => (h1.tx.below hW).mono hW.size
  have HT2 : Hid (∀ W, Below w.heap.size w W → TextAt W.heap.size W o2 n2 l2) := fun W hW => (h2.tx.below hW).mono hW.size
  have HTA1 : Hid (∀ W, Below w.heap.size w W → TA W o1 n1 c1 l1) := fun W hW => ⟨(h1.tx.below hW).mono hW.size, h1.sm, h1.le, h1.cm, h1.nil⟩
  have HTA2 : Hid (∀ W, Below w.heap.size w W → TA W o2 n2 c2 l2) := fun W hW => ⟨(h2.tx.below hW).mono hW.size, h2.sm, h2.le, h2.cm, h2.nil⟩
  have HL1 := hid h1.tx.1
  have HL2 := hid h2.tx.1
  have p1 : (n1 : Int) ≤ (n1 : Int) + 2 := by omega
  have p2 : (n2 : Int) ≤ (n2 : Int) + 2 := by omega
  clear h1 h2 hA
  go_enter Try.func5, Try.ntmps5
  go_upto_region 2 with (go_at_call 8; (with_reducible refine HA8.out.mono ?_); rintro e w1 ⟨rfl, hb⟩; have HW1 := hid hb; clear hb HA8)
  have HC := hid (lent18 (tc := c1) (HT1.out w1 HW1.out) hs1)
  go_upto_region 3 with (go_at_call 18; (with_reducible refine HC.out.mono ?_); rintro e w2 ⟨ab, rfl, hr, hb⟩; have HRA := hid hr; have HB2 := hid hb; clear hr hb HC)
  have HW2 : Hid (Below w.heap.size w w2) := HW1.out.trans (Joins.below_le HB2.out HW1.out.size)
  have HC := hid (lent18 (tc := c2) (HT2.out w2 HW2.out) hs2)
  go_upto_region 4 with (go_at_call 18; (with_reducible refine HC.out.mono ?_); rintro e w3 ⟨bb, rfl, hr, hb⟩; have HRB := hid hr; have HB3 := hid hb; clear hr hb HC)
  have HW3 : Hid (Below w.heap.size w w3) := HW2.out.trans (Joins.below_le HB3.out HW2.out.size)
  have HRA3 := hid (HRA.out.kept HB3.out)
  have z1 := HW1.out.size
  have z2 := HB2.out.size
  have z3 := HB3.out.size
  have ya := HRA.out.blk
  have yb := HRB.out.blk
  clear HB2 HB3 HRA
  have HC := hid (new19_ok (c := n1 + 2) (HRA3.out.text HL1.out hs1) hl1)
  go_upto_region 5 with (go_at_call 19; (with_reducible refine HC.out.mono ?_); rintro e w4 ⟨f, rfl, hf, hb⟩; have HF4 := hid hf; have HB4 := hid hb; clear hf hb HC)
  have z4 := HB4.out.size
  have HW4 : Hid (Below w.heap.size w w4) := HW3.out.trans (Joins.below_le HB4.out HW3.out.size)
  have HRA4 := hid (HRA3.out.kept HB4.out)
  have HRB4 := hid (HRB.out.kept HB4.out)
  clear HRA3 HRB HB4
  have HC := hid (new19_ok (c := n2 + 2) (HRB4.out.text HL2.out hs2) hl2)
  go_upto_region 6 with (go_at_call 19; (with_reducible refine HC.out.mono ?_); rintro e w5 ⟨g, rfl, hf, hb⟩; have HG5 := hid hf; have HB5 := hid hb; clear hf hb HC)
  have z5 := HB5.out.size
  have HW5 : Hid (Below w.heap.size w w5) := HW4.out.trans (Joins.below_le HB5.out HW4.out.size)
  have HRA5 := hid (HRA4.out.kept HB5.out)
  have HRB5 := hid (HRB4.out.kept HB5.out)
  have HF5 := hid (HF4.out.kept HB5.out)
  clear HF4
  clear HRA4 HRB4 HB5
  have HC := hid (back20 (tc := c1) HRA5.out (HT1.out w5 HW5.out) hs1)
  go_upto_region 7 with (go_at_call 20; (with_reducible refine HC.out.mono ?_); rintro e w6 ⟨rfl, hc⟩; have HC6 := hid hc; clear hc HC)
  have z6 := HC6.out.size
  have HW6 : Hid (Below w.heap.size w w6) := HW5.out.trans (HC6.out.below HW5.out.size (by simp; omega))
  have HRB6 := hid (HRB5.out.chg HC6.out (by omega))
  have HF6 := hid (HF5.out.chg HC6.out (by omega))
  clear HF5
  have HG6 := hid (HG5.out.chg HC6.out (by omega))
  clear HG5
  clear HRA5 HRB5 HC6
  have HC := hid (back20 (tc := c2) HRB6.out (HT2.out w6 HW6.out) hs2)
  go_upto_region 8 with (go_at_call 20; (with_reducible refine HC.out.mono ?_); rintro e w7 ⟨rfl, hc⟩; have HC7 := hid hc; clear hc HC)
  have z7 := HC7.out.size
  have HW7 : Hid (Below w.heap.size w w7) := HW6.out.trans (HC7.out.below HW6.out.size (by simp; omega))
  have HF7 := hid (HF6.out.chg HC7.out (by omega))
  clear HF6
  have HG7 := hid (HG6.out.chg HC7.out (by omega))
  clear HG6
  clear HRB6 HC7
  have HC := hid (rnew21_ok (HTA1.out w7 HW7.out) hl1)
  go_upto_region 9 with (go_at_call 21; (with_reducible refine HC.out.mono ?_); rintro e w8 ⟨rf, rfl, hf, hb⟩; have HR8 := hid hf; have HB8 := hid hb; clear hf hb HC)
  have HW8 : Hid (Below w.heap.size w w8) := HW7.out.trans (Joins.below_le HB8.out HW7.out.size)
  have HF8 := hid (HF7.out.kept HB8.out)
  clear HF7
  have HG8 := hid (HG7.out.kept HB8.out)
  clear HG7
  have HC := hid (rnew21_ok (HTA2.out w8 HW8.out) hl2)
  go_upto_region 10 with (go_at_call 21; (with_reducible refine HC.out.mono ?_); rintro e w9 ⟨rg, rfl, hf, hb⟩; have HS9 := hid hf; have HB9 := hid hb; clear hf hb HC)
  have HW9 : Hid (Below w.heap.size w w9) := HW8.out.trans (Joins.below_le HB9.out HW8.out.size)
  have HF9 := hid (HF8.out.kept HB9.out)
  have HR9 := hid (HR8.out.kept HB9.out)
  clear HF8 HR8
  have HG9 := hid (HG8.out.kept HB9.out)
  clear HG8
  clear HB8 HB9 HW1 HW2 HW3 HW4 HW5 HW6 HW7 HW8 HT1 HT2 HTA1 HTA2 z1 z2 z3 z4 z5 z6 z7 ya yb
  go_wp2_with fail
  go_loopw [20] (fun v20 wr => ∃ i : Nat, v20 = .int .i64 (i : Int) ∧ i ≤ an ∧ Hid (Below w9.heap.size w9 wr)) (fun v20 _ => an - (intOf v20).toNat)
  case atStart => exact ⟨0, rfl, by omega, Below.refl _ _⟩
  case round =>
    obtain ⟨i, rfl, hi, HBR⟩ := hrel
    have HWR : Hid (Below w.heap.size w wr) := HW9.out.trans (Joins.below_le HBR.out HW9.out.size)
    by_cases hil : i < an
    · have b1 : decide ((i : Int) < (an : Int)) = true := by simp; omega
      have b2 : (i : Int) < (an : Int) := by omega
      have ad1 : IntKind.i64.wrap ((i : Int) + 1) = (i : Int) + 1 := wrap_ok _ (by omega) (by omega)
      obtain ⟨qb, qo, hqa, hqb, hcs⟩ := HA.out.mem (by omega)
      subst hqa
      obtain ⟨k0, k1, k2⟩ := hcs i hil
      have hta := HA.out.txt i hil
      obtain ⟨A, hAe⟩ : ∃ A, A = L i := ⟨_, rfl⟩
      rw [← hAe] at k0 k1 k2 hta
      clear hAe hcs
      obtain ⟨ta, tn, tc, qa, two, tx⟩ := A
      dsimp only at k0 k1 k2 hta
      have k0 := (HWR.out.cell (p := ⟨qb, qo + i * 3, none⟩) hqb).trans k0
      have k1 := (HWR.out.cell (p := ⟨qb, qo + i * 3 + 1, none⟩) hqb).trans k1
      have k2 := (HWR.out.cell (p := ⟨qb, qo + i * 3 + 2, none⟩) hqb).trans k2
      have hsm := hta.sm
      have HTL := hid hta.tx.1
      have HTT : Hid (∀ W, Below w.heap.size w W → TextAt W.heap.size W ta tn tx) := fun W hW => (hta.tx.below hW).mono hW.size
      clear hta
      have p3 : (tn : Int) ≤ (tn : Int) + 2 := by omega
      obtain ⟨V, hV⟩ : ∃ V, V = wr.alloc (.cells #[.slice ta tn tc, .int .i64 qa, .bool two] 47) := ⟨_, rfl⟩
      have hbV : Below wr.heap.size wr V := by rw [hV]; exact Joins.below_alloc1 wr _
      have hY : V.heap[wr.heap.size]? = some (.cells #[.slice ta tn tc, .int .i64 qa, .bool two] 47 (0, 0)) := by rw [hV]; exact heap_alloc_new wr _
      obtain ⟨y, hy⟩ : ∃ y, y = wr.heap.size := ⟨_, rfl⟩
      go_upto_region 16 with fail
      rw [← hV, ← hy]
      rw [← hy] at hY
      have HY := hid hY
      have hyV : y < V.heap.size := (Array.getElem?_eq_some_iff.1 hY).1
      have HBV : Hid (Below w9.heap.size w9 V) := HBR.out.trans (Joins.below_le hbV HBR.out.size)
      have HWV : Hid (Below w.heap.size w V) := HW9.out.trans (Joins.below_le HBV.out HW9.out.size)
      obtain ⟨x0, x1, x2⟩ := three_cells hY
      have HC := hid (lent18 (tc := tc) (HTT.out V HWV.out) hsm)
      clear hV hy hY hbV k0 k1 k2 HBR HWR
      go_upto_region 19 with (go_at_call 18; (with_reducible refine HC.out.mono ?_); rintro e u1 ⟨tb, rfl, hr, hb⟩; have HRT := hid hr; have HU1 := hid hb; clear hr hb HC)
      obtain ⟨x0, x1, x2⟩ := three_cells ((HU1.out.block y hyV).trans HY.out)
      have HB1 : Hid (Below w9.heap.size w9 u1) := HBV.out.trans (Joins.below_le HU1.out HBV.out.size)
      have HWU1 : Hid (Below w.heap.size w u1) := HW9.out.trans (Joins.below_le HB1.out HW9.out.size)
      have ht := HRT.out.blk
      have hvz := HBV.out.size
      have hvu := HU1.out.size
      have HFIN : Hid (∀ W, Eqw u1 W → Calls Try.prog 20 #[.slice (some ⟨tb, 0, none⟩) (tn + 2) (tn + 2), .slice ta tn tc] W fun e w' => e = .returned (.bool true) ∧ Below w9.heap.size w9 w') := fun W hW => by
        refine (back20 (tc := tc) (HRT.out.kept (hW.below _)) (HTT.out W (HWU1.out.trans (hW.below _))) hsm).mono ?_
        rintro e w' ⟨e1, hc⟩
        exact ⟨e1, HB1.out.trans ((hW.below _).trans (hc.below (by rw [hW.heap]; omega) (by simp; omega)))⟩
      have HX : Hid (∀ W, Eqw u1 W → W.heap[y]? = some (.cells #[.slice ta tn tc, .int .i64 qa, .bool two] 47 (0, 0))) := fun W hW => (hW.blk y).trans ((HU1.out.block y hyV).trans HY.out)
      cases two
      · obtain ⟨r, hr⟩ := next_ex l1 tx qa
        have r0 : (r != r) = false := by simp
        have HNX : Hid (∀ q, Calls Try.prog 22 #[.pointer (some ⟨f, 0, none⟩), .slice (some ⟨tb, 0, none⟩) tn (tn + 2), .int .i64 qa] (u1.drewN q) fun e w' => e = .returned (.int .i64 r) ∧ w' = u1.drewN q) := fun q => nextv hr ((HF9.out.kept HB1.out).kept ((Eqw.drewN u1 q).below _)) ((HRT.out.text HTL.out hsm).below ((Eqw.drewN u1 q).below _))
        have HRX : Hid (∀ W, Eqw u1 W → Calls Try.prog 23 #[.pointer (some ⟨rf, 0, none⟩), .slice ta tn tc, .int .i64 qa] W fun e w' => e = .returned (.int .i64 r) ∧ Eqw W w') := fun W hW => rnextv hr ((HR9.out.kept HB1.out).kept (hW.below _)) (HTT.out W (HWU1.out.trans (hW.below _)))
        clear hr
        go_upto_region 23 with fail
        go_quiet (first | (go_at_call 22; with_reducible refine Calls.quiet_of_same (HNX.out _)))
        go_upto_region 24 with fail
        obtain ⟨u2, hu2⟩ : ∃ u2, u2 = u1.drewN nq := ⟨_, rfl⟩
        rw [← hu2]
        have HE2 : Hid (Eqw u1 u2) := by show Eqw _ _; rw [hu2]; exact Eqw.drewN _ _
        obtain ⟨x0, x1, x2⟩ := three_cells (HX.out u2 HE2.out)
        clear hu2
        go_upto_region 25 with (go_at_call 23; (with_reducible refine (HRX.out u2 HE2.out).mono ?_); rintro e u3 ⟨rfl, he⟩; have HE3 : Hid (Eqw u1 u3) := HE2.out.trans he; clear he)
        obtain ⟨x0, x1, x2⟩ := three_cells (HX.out u3 HE3.out)
        go_wp2_with (go_at_call 20; (with_reducible refine (HFIN.out u3 HE3.out).mono ?_); rintro e u4 ⟨rfl, hb⟩; have HBX := hid hb; clear hb)
        exact ⟨⟨i + 1, by push_cast; rfl, by omega, HBX.out⟩, by simp [intOf]; omega⟩
      · obtain ⟨r, hr⟩ := next_ex l2 tx qa
        have r0 : (r != r) = false := by simp
        have HNX : Hid (∀ q, Calls Try.prog 22 #[.pointer (some ⟨g, 0, none⟩), .slice (some ⟨tb, 0, none⟩) tn (tn + 2), .int .i64 qa] (u1.drewN q) fun e w' => e = .returned (.int .i64 r) ∧ w' = u1.drewN q) := fun q => nextv hr ((HG9.out.kept HB1.out).kept ((Eqw.drewN u1 q).below _)) ((HRT.out.text HTL.out hsm).below ((Eqw.drewN u1 q).below _))
        have HRX : Hid (∀ W, Eqw u1 W → Calls Try.prog 23 #[.pointer (some ⟨rg, 0, none⟩), .slice ta tn tc, .int .i64 qa] W fun e w' => e = .returned (.int .i64 r) ∧ Eqw W w') := fun W hW => rnextv hr ((HS9.out.kept HB1.out).kept (hW.below _)) (HTT.out W (HWU1.out.trans (hW.below _)))
        clear hr
        go_upto_region 20 with fail
        go_quiet (first | (go_at_call 22; with_reducible refine Calls.quiet_of_same (HNX.out _)))
        go_upto_region 21 with fail
        obtain ⟨u2, hu2⟩ : ∃ u2, u2 = u1.drewN nq := ⟨_, rfl⟩
        rw [← hu2]
        have HE2 : Hid (Eqw u1 u2) := by show Eqw _ _; rw [hu2]; exact Eqw.drewN _ _
        obtain ⟨x0, x1, x2⟩ := three_cells (HX.out u2 HE2.out)
        clear hu2
        go_upto_region 25 with (go_at_call 23; (with_reducible refine (HRX.out u2 HE2.out).mono ?_); rintro e u3 ⟨rfl, he⟩; have HE3 : Hid (Eqw u1 u3) := HE2.out.trans he; clear he)
        obtain ⟨x0, x1, x2⟩ := three_cells (HX.out u3 HE3.out)
        go_wp2_with (go_at_call 20; (with_reducible refine (HFIN.out u3 HE3.out).mono ?_); rintro e u4 ⟨rfl, hb⟩; have HBX := hid hb; clear hb)
        exact ⟨⟨i + 1, by push_cast; rfl, by omega, HBX.out⟩, by simp [intOf]; omega⟩
    · have b1 : decide ((i : Int) < (an : Int)) = false := by simp; omega
      go_wp2
      go_ret
      exact ⟨rfl, HWR.out⟩
set_option maxRecDepth 100000 in
set_option maxHeartbeats 8000000 in
theorem plays5_01 {w : World} {o1 o2 aa : Option Addr} {n1 c1 n2 c2 an ac : Nat} {l1 l2 : List Int} {L : Nat → Ak} (h1 : TA w o1 n1 c1 l1) (h2 : TA w o2 n2 c2 l2) (hA : AK w aa an L) (han : an ≤ 140737488351232) (hl1 : n1 ≤ 4194304) (hl2 : 4194304 < n2) :
    Calls Try.prog 5 #[.slice o1 n1 c1, .slice o2 n2 c2, .slice aa an ac] w fun e w' => e = .returned (.bool true) ∧ Below w.heap.size w w' := by
  have HA8 := hid (awake8 w)
  have H1 := hid h1
  have H2 := hid h2
  have HA := hid hA
  have hs1 := h1.sm
  have hs2 := h2.sm
  have HT1 : Hid (∀ W, Below w.heap.size w W → TextAt W.heap.size W o1 n1 l1) := fun W hW => (h1.tx.below hW).mono hW.size
  have HT2 : Hid (∀ W, Below w.heap.size w W → TextAt W.heap.size W o2 n2 l2) := fun W hW => (h2.tx.below hW).mono hW.size
  have HTA1 : Hid (∀ W, Below w.heap.size w W → TA W o1 n1 c1 l1) := fun W hW => ⟨(h1.tx.below hW).mono hW.size, h1.sm, h1.le, h1.cm, h1.nil⟩
  have HTA2 : Hid (∀ W, Below w.heap.size w W → TA W o2 n2 c2 l2) := fun W hW => ⟨(h2.tx.below hW).mono hW.size, h2.sm, h2.le, h2.cm, h2.nil⟩
  have HL1 := hid h1.tx.1
  have HL2 := hid h2.tx.1
  have p1 : (n1 : Int) ≤ (n1 : Int) + 2 := by omega
  have p2 : (n2 : Int) ≤ (n2 : Int) + 2 := by omega
  clear h1 h2 hA
  go_enter Try.func5, Try.ntmps5
  go_upto_region 2 with (go_at_call 8; (with_reducible refine HA8.out.mono ?_); rintro e w1 ⟨rfl, hb⟩; have HW1 := hid hb; clear hb HA8)
  have HC := hid (lent18 (tc := c1) (HT1.out w1 HW1.out) hs1)
  go_upto_region 3 with (go_at_call 18; (with_reducible refine HC.out.mono ?_); rintro e w2 ⟨ab, rfl, hr, hb⟩; have HRA := hid hr; have HB2 := hid hb; clear hr hb HC)
  have HW2 : Hid (Below w.heap.size w w2) := HW1.out.trans (Joins.below_le HB2.out HW1.out.size)
  have HC := hid (lent18 (tc := c2) (HT2.out w2 HW2.out) hs2)
  go_upto_region 4 with (go_at_call 18; (with_reducible refine HC.out.mono ?_); rintro e w3 ⟨bb, rfl, hr, hb⟩; have HRB := hid hr; have HB3 := hid hb; clear hr hb HC)
  have HW3 : Hid (Below w.heap.size w w3) := HW2.out.trans (Joins.below_le HB3.out HW2.out.size)
  have HRA3 := hid (HRA.out.kept HB3.out)
  have z1 := HW1.out.size
  have z2 := HB2.out.size
  have z3 := HB3.out.size
  have ya := HRA.out.blk
  have yb := HRB.out.blk
  clear HB2 HB3 HRA
  have HC := hid (new19_ok (c := n1 + 2) (HRA3.out.text HL1.out hs1) hl1)
  go_upto_region 5 with (go_at_call 19; (with_reducible refine HC.out.mono ?_); rintro e w4 ⟨f, rfl, hf, hb⟩; have HF4 := hid hf; have HB4 := hid hb; clear hf hb HC)
  have z4 := HB4.out.size
  have HW4 : Hid (Below w.heap.size w w4) := HW3.out.trans (Joins.below_le HB4.out HW3.out.size)
  have HRA4 := hid (HRA3.out.kept HB4.out)
  have HRB4 := hid (HRB.out.kept HB4.out)
  clear HRA3 HRB HB4
  have HC := hid (new19_long (w := w4) (ad := some ⟨bb, 0, none⟩) (c := n2 + 2) hl2)
  go_upto_region 6 with (go_at_call 19; (with_reducible refine HC.out.mono ?_); rintro e w5 ⟨rfl, hw⟩; have HB5 : Hid (Below w4.heap.size w4 w5) := (by show Below _ _ _; rw [hw]; exact Below.refl _ _); clear hw HC)
  have z5 := HB5.out.size
  have HW5 : Hid (Below w.heap.size w w5) := HW4.out.trans (Joins.below_le HB5.out HW4.out.size)
  have HRA5 := hid (HRA4.out.kept HB5.out)
  have HRB5 := hid (HRB4.out.kept HB5.out)
  have HF5 := hid (HF4.out.kept HB5.out)
  clear HF4
  clear HRA4 HRB4 HB5
  have HC := hid (back20 (tc := c1) HRA5.out (HT1.out w5 HW5.out) hs1)
  go_upto_region 7 with (go_at_call 20; (with_reducible refine HC.out.mono ?_); rintro e w6 ⟨rfl, hc⟩; have HC6 := hid hc; clear hc HC)
  have z6 := HC6.out.size
  have HW6 : Hid (Below w.heap.size w w6) := HW5.out.trans (HC6.out.below HW5.out.size (by simp; omega))
  have HRB6 := hid (HRB5.out.chg HC6.out (by omega))
  have HF6 := hid (HF5.out.chg HC6.out (by omega))
  clear HF5
  clear HRA5 HRB5 HC6
  have HC := hid (back20 (tc := c2) HRB6.out (HT2.out w6 HW6.out) hs2)
  go_upto_region 8 with (go_at_call 20; (with_reducible refine HC.out.mono ?_); rintro e w7 ⟨rfl, hc⟩; have HC7 := hid hc; clear hc HC)
  have z7 := HC7.out.size
  have HW7 : Hid (Below w.heap.size w w7) := HW6.out.trans (HC7.out.below HW6.out.size (by simp; omega))
  have HF7 := hid (HF6.out.chg HC7.out (by omega))
  clear HF6
  clear HRB6 HC7
  have HC := hid (rnew21_ok (HTA1.out w7 HW7.out) hl1)
  go_upto_region 9 with (go_at_call 21; (with_reducible refine HC.out.mono ?_); rintro e w8 ⟨rf, rfl, hf, hb⟩; have HR8 := hid hf; have HB8 := hid hb; clear hf hb HC)
  have HW8 : Hid (Below w.heap.size w w8) := HW7.out.trans (Joins.below_le HB8.out HW7.out.size)
  have HF8 := hid (HF7.out.kept HB8.out)
  clear HF7
  have HC := hid (rnew21_long (w := w8) (ad := o2) (c := c2) hl2)
  go_upto_region 10 with (go_at_call 21; (with_reducible refine HC.out.mono ?_); rintro e w9 ⟨rfl, hw⟩; have HB9 : Hid (Below w8.heap.size w8 w9) := (by show Below _ _ _; rw [hw]; exact Below.refl _ _); clear hw HC)
  have HW9 : Hid (Below w.heap.size w w9) := HW8.out.trans (Joins.below_le HB9.out HW8.out.size)
  have HF9 := hid (HF8.out.kept HB9.out)
  have HR9 := hid (HR8.out.kept HB9.out)
  clear HF8 HR8
  clear HB8 HB9 HW1 HW2 HW3 HW4 HW5 HW6 HW7 HW8 HT1 HT2 HTA1 HTA2 z1 z2 z3 z4 z5 z6 z7 ya yb
  go_wp2_with fail
  go_loopw [20] (fun v20 wr => ∃ i : Nat, v20 = .int .i64 (i : Int) ∧ i ≤ an ∧ Hid (Below w9.heap.size w9 wr)) (fun v20 _ => an - (intOf v20).toNat)
  case atStart => exact ⟨0, rfl, by omega, Below.refl _ _⟩
  case round =>
    obtain ⟨i, rfl, hi, HBR⟩ := hrel
    have HWR : Hid (Below w.heap.size w wr) := HW9.out.trans (Joins.below_le HBR.out HW9.out.size)
    by_cases hil : i < an
    · have b1 : decide ((i : Int) < (an : Int)) = true := by simp; omega
      have b2 : (i : Int) < (an : Int) := by omega
      have ad1 : IntKind.i64.wrap ((i : Int) + 1) = (i : Int) + 1 := wrap_ok _ (by omega) (by omega)
      obtain ⟨qb, qo, hqa, hqb, hcs⟩ := HA.out.mem (by omega)
      subst hqa
      obtain ⟨k0, k1, k2⟩ := hcs i hil
      have hta := HA.out.txt i hil
      obtain ⟨A, hAe⟩ : ∃ A, A = L i := ⟨_, rfl⟩
      rw [← hAe] at k0 k1 k2 hta
      clear hAe hcs
      obtain ⟨ta, tn, tc, qa, two, tx⟩ := A
      dsimp only at k0 k1 k2 hta
      have k0 := (HWR.out.cell (p := ⟨qb, qo + i * 3, none⟩) hqb).trans k0
      have k1 := (HWR.out.cell (p := ⟨qb, qo + i * 3 + 1, none⟩) hqb).trans k1
      have k2 := (HWR.out.cell (p := ⟨qb, qo + i * 3 + 2, none⟩) hqb).trans k2
      have hsm := hta.sm
      have HTL := hid hta.tx.1
      have HTT : Hid (∀ W, Below w.heap.size w W → TextAt W.heap.size W ta tn tx) := fun W hW => (hta.tx.below hW).mono hW.size
      clear hta
      have p3 : (tn : Int) ≤ (tn : Int) + 2 := by omega
      obtain ⟨V, hV⟩ : ∃ V, V = wr.alloc (.cells #[.slice ta tn tc, .int .i64 qa, .bool two] 47) := ⟨_, rfl⟩
      have hbV : Below wr.heap.size wr V := by rw [hV]; exact Joins.below_alloc1 wr _
      have hY : V.heap[wr.heap.size]? = some (.cells #[.slice ta tn tc, .int .i64 qa, .bool two] 47 (0, 0)) := by rw [hV]; exact heap_alloc_new wr _
      obtain ⟨y, hy⟩ : ∃ y, y = wr.heap.size := ⟨_, rfl⟩
      go_upto_region 16 with fail
      rw [← hV, ← hy]
      rw [← hy] at hY
      have HY := hid hY
      have hyV : y < V.heap.size := (Array.getElem?_eq_some_iff.1 hY).1
      have HBV : Hid (Below w9.heap.size w9 V) := HBR.out.trans (Joins.below_le hbV HBR.out.size)
      have HWV : Hid (Below w.heap.size w V) := HW9.out.trans (Joins.below_le HBV.out HW9.out.size)
      obtain ⟨x0, x1, x2⟩ := three_cells hY
      have HC := hid (lent18 (tc := tc) (HTT.out V HWV.out) hsm)
      clear hV hy hY hbV k0 k1 k2 HBR HWR
      go_upto_region 19 with (go_at_call 18; (with_reducible refine HC.out.mono ?_); rintro e u1 ⟨tb, rfl, hr, hb⟩; have HRT := hid hr; have HU1 := hid hb; clear hr hb HC)
      obtain ⟨x0, x1, x2⟩ := three_cells ((HU1.out.block y hyV).trans HY.out)
      have HB1 : Hid (Below w9.heap.size w9 u1) := HBV.out.trans (Joins.below_le HU1.out HBV.out.size)
      have HWU1 : Hid (Below w.heap.size w u1) := HW9.out.trans (Joins.below_le HB1.out HW9.out.size)
      have ht := HRT.out.blk
      have hvz := HBV.out.size
      have hvu := HU1.out.size
      have HFIN : Hid (∀ W, Eqw u1 W → Calls Try.prog 20 #[.slice (some ⟨tb, 0, none⟩) (tn + 2) (tn + 2), .slice ta tn tc] W fun e w' => e = .returned (.bool true) ∧ Below w9.heap.size w9 w') := fun W hW => by
        refine (back20 (tc := tc) (HRT.out.kept (hW.below _)) (HTT.out W (HWU1.out.trans (hW.below _))) hsm).mono ?_
        rintro e w' ⟨e1, hc⟩
        exact ⟨e1, HB1.out.trans ((hW.below _).trans (hc.below (by rw [hW.heap]; omega) (by simp; omega)))⟩
      have HX : Hid (∀ W, Eqw u1 W → W.heap[y]? = some (.cells #[.slice ta tn tc, .int .i64 qa, .bool two] 47 (0, 0))) := fun W hW => (hW.blk y).trans ((HU1.out.block y hyV).trans HY.out)
      cases two
      · obtain ⟨r, hr⟩ := next_ex l1 tx qa
        have r0 : (r != r) = false := by simp
        have HNX : Hid (∀ q, Calls Try.prog 22 #[.pointer (some ⟨f, 0, none⟩), .slice (some ⟨tb, 0, none⟩) tn (tn + 2), .int .i64 qa] (u1.drewN q) fun e w' => e = .returned (.int .i64 r) ∧ w' = u1.drewN q) := fun q => nextv hr ((HF9.out.kept HB1.out).kept ((Eqw.drewN u1 q).below _)) ((HRT.out.text HTL.out hsm).below ((Eqw.drewN u1 q).below _))
        have HRX : Hid (∀ W, Eqw u1 W → Calls Try.prog 23 #[.pointer (some ⟨rf, 0, none⟩), .slice ta tn tc, .int .i64 qa] W fun e w' => e = .returned (.int .i64 r) ∧ Eqw W w') := fun W hW => rnextv hr ((HR9.out.kept HB1.out).kept (hW.below _)) (HTT.out W (HWU1.out.trans (hW.below _)))
        clear hr
        go_upto_region 23 with fail
        go_quiet (first | (go_at_call 22; with_reducible refine Calls.quiet_of_same (HNX.out _)))
        go_upto_region 24 with fail
        obtain ⟨u2, hu2⟩ : ∃ u2, u2 = u1.drewN nq := ⟨_, rfl⟩
        rw [← hu2]
        have HE2 : Hid (Eqw u1 u2) := by show Eqw _ _; rw [hu2]; exact Eqw.drewN _ _
        obtain ⟨x0, x1, x2⟩ := three_cells (HX.out u2 HE2.out)
        clear hu2
        go_upto_region 25 with (go_at_call 23; (with_reducible refine (HRX.out u2 HE2.out).mono ?_); rintro e u3 ⟨rfl, he⟩; have HE3 : Hid (Eqw u1 u3) := HE2.out.trans he; clear he)
        obtain ⟨x0, x1, x2⟩ := three_cells (HX.out u3 HE3.out)
        go_wp2_with (go_at_call 20; (with_reducible refine (HFIN.out u3 HE3.out).mono ?_); rintro e u4 ⟨rfl, hb⟩; have HBX := hid hb; clear hb)
        exact ⟨⟨i + 1, by push_cast; rfl, by omega, HBX.out⟩, by simp [intOf]; omega⟩
      · go_wp2_with (go_at_call 20; (with_reducible refine (HFIN.out u1 ⟨rfl, rfl, rfl, rfl⟩).mono ?_); rintro e u4 ⟨rfl, hb⟩; have HBX := hid hb; clear hb)
        exact ⟨⟨i + 1, by push_cast; rfl, by omega, HBX.out⟩, by simp [intOf]; omega⟩
    · have b1 : decide ((i : Int) < (an : Int)) = false := by simp; omega
      go_wp2
      go_ret
      exact ⟨rfl, HWR.out⟩
set_option maxRecDepth 100000 in
set_option maxHeartbeats 8000000 in
theorem plays5_10 {w : World} {o1 o2 aa : Option Addr} {n1 c1 n2 c2 an ac : Nat} {l1 l2 : List Int} {L : Nat → Ak} (h1 : TA w o1 n1 c1 l1) (h2 : TA w o2 n2 c2 l2) (hA : AK w aa an L) (han : an ≤ 140737488351232) (hl1 : 4194304 < n1) (hl2 : n2 ≤ 4194304) :
    Calls Try.prog 5 #[.slice o1 n1 c1, .slice o2 n2 c2, .slice aa an ac] w fun e w' => e = .returned (.bool true) ∧ Below w.heap.size w w' := by
  have HA8 := hid (awake8 w)
  have H1 := hid h1
  have H2 := hid h2
  have HA := hid hA
  have hs1 := h1.sm
  have hs2 := h2.sm
  have HT1 : Hid (∀ W, Below w.heap.size w W → TextAt W.heap.size W o1 n1 l1) := fun W hW => (h1.tx.below hW).mono hW.size
  have HT2 : Hid (∀ W, Below w.heap.size w W → TextAt W.heap.size W o2 n2 l2) := fun W hW => (h2.tx.below hW).mono hW.size
  have HTA1 : Hid (∀ W, Below w.heap.size w W → TA W o1 n1 c1 l1) := fun W hW => ⟨(h1.tx.below hW).mono hW.size, h1.sm, h1.le, h1.cm, h1.nil⟩
  have HTA2 : Hid (∀ W, Below w.heap.size w W → TA W o2 n2 c2 l2) := fun W hW => ⟨(h2.tx.below hW).mono hW.size, h2.sm, h2.le, h2.cm, h2.nil⟩
  have HL1 := hid h1.tx.1
  have HL2 := hid h2.tx.1
  have p1 : (n1 : Int) ≤ (n1 : Int) + 2 := by omega
  have p2 : (n2 : Int) ≤ (n2 : Int) + 2 := by omega
  clear h1 h2 hA
  go_enter Try.func5, Try.ntmps5
  go_upto_region 2 with (go_at_call 8; (with_reducible refine HA8.out.mono ?_); rintro e w1 ⟨rfl, hb⟩; have HW1 := hid hb; clear hb HA8)
  have HC := hid (lent18 (tc := c1) (HT1.out w1 HW1.out) hs1)
  go_upto_region 3 with (go_at_call 18; (with_reducible refine HC.out.mono ?_); rintro e w2 ⟨ab, rfl, hr, hb⟩; have HRA := hid hr; have HB2 := hid hb; clear hr hb HC)
  have HW2 : Hid (Below w.heap.size w w2) := HW1.out.trans (Joins.below_le HB2.out HW1.out.size)
  have HC := hid (lent18 (tc := c2) (HT2.out w2 HW2.out) hs2)
  go_upto_region 4 with (go_at_call 18; (with_reducible refine HC.out.mono ?_); rintro e w3 ⟨bb, rfl, hr, hb⟩; have HRB := hid hr; have HB3 := hid hb; clear hr hb HC)
  have HW3 : Hid (Below w.heap.size w w3) := HW2.out.trans (Joins.below_le HB3.out HW2.out.size)
  have HRA3 := hid (HRA.out.kept HB3.out)
  have z1 := HW1.out.size
  have z2 := HB2.out.size
  have z3 := HB3.out.size
  have ya := HRA.out.blk
  have yb := HRB.out.blk
  clear HB2 HB3 HRA
  have HC := hid (new19_long (w := w3) (ad := some ⟨ab, 0, none⟩) (c := n1 + 2) hl1)
  go_upto_region 5 with (go_at_call 19; (with_reducible refine HC.out.mono ?_); rintro e w4 ⟨rfl, hw⟩; have HB4 : Hid (Below w3.heap.size w3 w4) := (by show Below _ _ _; rw [hw]; exact Below.refl _ _); clear hw HC)
  have z4 := HB4.out.size
  have HW4 : Hid (Below w.heap.size w w4) := HW3.out.trans (Joins.below_le HB4.out HW3.out.size)
  have HRA4 := hid (HRA3.out.kept HB4.out)
  have HRB4 := hid (HRB.out.kept HB4.out)
  clear HRA3 HRB HB4
  have HC := hid (new19_ok (c := n2 + 2) (HRB4.out.text HL2.out hs2) hl2)
  go_upto_region 6 with (go_at_call 19; (with_reducible refine HC.out.mono ?_); rintro e w5 ⟨g, rfl, hf, hb⟩; have HG5 := hid hf; have HB5 := hid hb; clear hf hb HC)
  have z5 := HB5.out.size
  have HW5 : Hid (Below w.heap.size w w5) := HW4.out.trans (Joins.below_le HB5.out HW4.out.size)
  have HRA5 := hid (HRA4.out.kept HB5.out)
  have HRB5 := hid (HRB4.out.kept HB5.out)
  clear HRA4 HRB4 HB5
  have HC := hid (back20 (tc := c1) HRA5.out (HT1.out w5 HW5.out) hs1)
  go_upto_region 7 with (go_at_call 20; (with_reducible refine HC.out.mono ?_); rintro e w6 ⟨rfl, hc⟩; have HC6 := hid hc; clear hc HC)
  have z6 := HC6.out.size
  have HW6 : Hid (Below w.heap.size w w6) := HW5.out.trans (HC6.out.below HW5.out.size (by simp; omega))
  have HRB6 := hid (HRB5.out.chg HC6.out (by omega))
  have HG6 := hid (HG5.out.chg HC6.out (by omega))
  clear HG5
  clear HRA5 HRB5 HC6
  have HC := hid (back20 (tc := c2) HRB6.out (HT2.out w6 HW6.out) hs2)
  go_upto_region 8 with (go_at_call 20; (with_reducible refine HC.out.mono ?_); rintro e w7 ⟨rfl, hc⟩; have HC7 := hid hc; clear hc HC)
  have z7 := HC7.out.size
  have HW7 : Hid (Below w.heap.size w w7) := HW6.out.trans (HC7.out.below HW6.out.size (by simp; omega))
  have HG7 := hid (HG6.out.chg HC7.out (by omega))
  clear HG6
  clear HRB6 HC7
  have HC := hid (rnew21_long (w := w7) (ad := o1) (c := c1) hl1)
  go_upto_region 9 with (go_at_call 21; (with_reducible refine HC.out.mono ?_); rintro e w8 ⟨rfl, hw⟩; have HB8 : Hid (Below w7.heap.size w7 w8) := (by show Below _ _ _; rw [hw]; exact Below.refl _ _); clear hw HC)
  have HW8 : Hid (Below w.heap.size w w8) := HW7.out.trans (Joins.below_le HB8.out HW7.out.size)
  have HG8 := hid (HG7.out.kept HB8.out)
  clear HG7
  have HC := hid (rnew21_ok (HTA2.out w8 HW8.out) hl2)
  go_upto_region 10 with (go_at_call 21; (with_reducible refine HC.out.mono ?_); rintro e w9 ⟨rg, rfl, hf, hb⟩; have HS9 := hid hf; have HB9 := hid hb; clear hf hb HC)
  have HW9 : Hid (Below w.heap.size w w9) := HW8.out.trans (Joins.below_le HB9.out HW8.out.size)
  have HG9 := hid (HG8.out.kept HB9.out)
  clear HG8
  clear HB8 HB9 HW1 HW2 HW3 HW4 HW5 HW6 HW7 HW8 HT1 HT2 HTA1 HTA2 z1 z2 z3 z4 z5 z6 z7 ya yb
  go_wp2_with fail
  go_loopw [20] (fun v20 wr => ∃ i : Nat, v20 = .int .i64 (i : Int) ∧ i ≤ an ∧ Hid (Below w9.heap.size w9 wr)) (fun v20 _ => an - (intOf v20).toNat)
  case atStart => exact ⟨0, rfl, by omega, Below.refl _ _⟩
  case round =>
    obtain ⟨i, rfl, hi, HBR⟩ := hrel
    have HWR : Hid (Below w.heap.size w wr) := HW9.out.trans (Joins.below_le HBR.out HW9.out.size)
    by_cases hil : i < an
    · have b1 : decide ((i : Int) < (an : Int)) = true := by simp; omega
      have b2 : (i : Int) < (an : Int) := by omega
      have ad1 : IntKind.i64.wrap ((i : Int) + 1) = (i : Int) + 1 := wrap_ok _ (by omega) (by omega)
      obtain ⟨qb, qo, hqa, hqb, hcs⟩ := HA.out.mem (by omega)
      subst hqa
      obtain ⟨k0, k1, k2⟩ := hcs i hil
      have hta := HA.out.txt i hil
      obtain ⟨A, hAe⟩ : ∃ A, A = L i := ⟨_, rfl⟩
      rw [← hAe] at k0 k1 k2 hta
      clear hAe hcs
      obtain ⟨ta, tn, tc, qa, two, tx⟩ := A
      dsimp only at k0 k1 k2 hta
      have k0 := (HWR.out.cell (p := ⟨qb, qo + i * 3, none⟩) hqb).trans k0
      have k1 := (HWR.out.cell (p := ⟨qb, qo + i * 3 + 1, none⟩) hqb).trans k1
      have k2 := (HWR.out.cell (p := ⟨qb, qo + i * 3 + 2, none⟩) hqb).trans k2
      have hsm := hta.sm
      have HTL := hid hta.tx.1
      have HTT : Hid (∀ W, Below w.heap.size w W → TextAt W.heap.size W ta tn tx) := fun W hW => (hta.tx.below hW).mono hW.size
      clear hta
      have p3 : (tn : Int) ≤ (tn : Int) + 2 := by omega
      obtain ⟨V, hV⟩ : ∃ V, V = wr.alloc (.cells #[.slice ta tn tc, .int .i64 qa, .bool two] 47) := ⟨_, rfl⟩
      have hbV : Below wr.heap.size wr V := by rw [hV]; exact Joins.below_alloc1 wr _
      have hY : V.heap[wr.heap.size]? = some (.cells #[.slice ta tn tc, .int .i64 qa, .bool two] 47 (0, 0)) := by rw [hV]; exact heap_alloc_new wr _
      obtain ⟨y, hy⟩ : ∃ y, y = wr.heap.size := ⟨_, rfl⟩
      go_upto_region 16 with fail
      rw [← hV, ← hy]
      rw [← hy] at hY
      have HY := hid hY
      have hyV : y < V.heap.size := (Array.getElem?_eq_some_iff.1 hY).1
      have HBV : Hid (Below w9.heap.size w9 V) := HBR.out.trans (Joins.below_le hbV HBR.out.size)
      have HWV : Hid (Below w.heap.size w V) := HW9.out.trans (Joins.below_le HBV.out HW9.out.size)
      obtain ⟨x0, x1, x2⟩ := three_cells hY
      have HC := hid (lent18 (tc := tc) (HTT.out V HWV.out) hsm)
      clear hV hy hY hbV k0 k1 k2 HBR HWR
      go_upto_region 19 with (go_at_call 18; (with_reducible refine HC.out.mono ?_); rintro e u1 ⟨tb, rfl, hr, hb⟩; have HRT := hid hr; have HU1 := hid hb; clear hr hb HC)
      obtain ⟨x0, x1, x2⟩ := three_cells ((HU1.out.block y hyV).trans HY.out)
      have HB1 : Hid (Below w9.heap.size w9 u1) := HBV.out.trans (Joins.below_le HU1.out HBV.out.size)
      have HWU1 : Hid (Below w.heap.size w u1) := HW9.out.trans (Joins.below_le HB1.out HW9.out.size)
      have ht := HRT.out.blk
      have hvz := HBV.out.size
      have hvu := HU1.out.size
      have HFIN : Hid (∀ W, Eqw u1 W → Calls Try.prog 20 #[.slice (some ⟨tb, 0, none⟩) (tn + 2) (tn + 2), .slice ta tn tc] W fun e w' => e = .returned (.bool true) ∧ Below w9.heap.size w9 w') := fun W hW => by
        refine (back20 (tc := tc) (HRT.out.kept (hW.below _)) (HTT.out W (HWU1.out.trans (hW.below _))) hsm).mono ?_
        rintro e w' ⟨e1, hc⟩
        exact ⟨e1, HB1.out.trans ((hW.below _).trans (hc.below (by rw [hW.heap]; omega) (by simp; omega)))⟩
      have HX : Hid (∀ W, Eqw u1 W → W.heap[y]? = some (.cells #[.slice ta tn tc, .int .i64 qa, .bool two] 47 (0, 0))) := fun W hW => (hW.blk y).trans ((HU1.out.block y hyV).trans HY.out)
      cases two
      · go_wp2_with (go_at_call 20; (with_reducible refine (HFIN.out u1 ⟨rfl, rfl, rfl, rfl⟩).mono ?_); rintro e u4 ⟨rfl, hb⟩; have HBX := hid hb; clear hb)
        exact ⟨⟨i + 1, by push_cast; rfl, by omega, HBX.out⟩, by simp [intOf]; omega⟩
      · obtain ⟨r, hr⟩ := next_ex l2 tx qa
        have r0 : (r != r) = false := by simp
        have HNX : Hid (∀ q, Calls Try.prog 22 #[.pointer (some ⟨g, 0, none⟩), .slice (some ⟨tb, 0, none⟩) tn (tn + 2), .int .i64 qa] (u1.drewN q) fun e w' => e = .returned (.int .i64 r) ∧ w' = u1.drewN q) := fun q => nextv hr ((HG9.out.kept HB1.out).kept ((Eqw.drewN u1 q).below _)) ((HRT.out.text HTL.out hsm).below ((Eqw.drewN u1 q).below _))
        have HRX : Hid (∀ W, Eqw u1 W → Calls Try.prog 23 #[.pointer (some ⟨rg, 0, none⟩), .slice ta tn tc, .int .i64 qa] W fun e w' => e = .returned (.int .i64 r) ∧ Eqw W w') := fun W hW => rnextv hr ((HS9.out.kept HB1.out).kept (hW.below _)) (HTT.out W (HWU1.out.trans (hW.below _)))
        clear hr
        go_upto_region 20 with fail
        go_quiet (first | (go_at_call 22; with_reducible refine Calls.quiet_of_same (HNX.out _)))
        go_upto_region 21 with fail
        obtain ⟨u2, hu2⟩ : ∃ u2, u2 = u1.drewN nq := ⟨_, rfl⟩
        rw [← hu2]
        have HE2 : Hid (Eqw u1 u2) := by show Eqw _ _; rw [hu2]; exact Eqw.drewN _ _
        obtain ⟨x0, x1, x2⟩ := three_cells (HX.out u2 HE2.out)
        clear hu2
        go_upto_region 25 with (go_at_call 23; (with_reducible refine (HRX.out u2 HE2.out).mono ?_); rintro e u3 ⟨rfl, he⟩; have HE3 : Hid (Eqw u1 u3) := HE2.out.trans he; clear he)
        obtain ⟨x0, x1, x2⟩ := three_cells (HX.out u3 HE3.out)
        go_wp2_with (go_at_call 20; (with_reducible refine (HFIN.out u3 HE3.out).mono ?_); rintro e u4 ⟨rfl, hb⟩; have HBX := hid hb; clear hb)
        exact ⟨⟨i + 1, by push_cast; rfl, by omega, HBX.out⟩, by simp [intOf]; omega⟩
    · have b1 : decide ((i : Int) < (an : Int)) = false := by simp; omega
      go_wp2
      go_ret
      exact ⟨rfl, HWR.out⟩
set_option maxRecDepth 100000 in
set_option maxHeartbeats 8000000 in
theorem plays5_11 {w : World} {o1 o2 aa : Option Addr} {n1 c1 n2 c2 an ac : Nat} {l1 l2 : List Int} {L : Nat → Ak} (h1 : TA w o1 n1 c1 l1) (h2 : TA w o2 n2 c2 l2) (hA : AK w aa an L) (han : an ≤ 140737488351232) (hl1 : 4194304 < n1) (hl2 : 4194304 < n2) :
    Calls Try.prog 5 #[.slice o1 n1 c1, .slice o2 n2 c2, .slice aa an ac] w fun e w' => e = .returned (.bool true) ∧ Below w.heap.size w w' := by
  have HA8 := hid (awake8 w)
  have H1 := hid h1
  have H2 := hid h2
  have HA := hid hA
  have hs1 := h1.sm
  have hs2 := h2.sm
  have HT1 : Hid (∀ W, Below w.heap.size w W → TextAt W.heap.size W o1 n1 l1) := fun W hW => (h1.tx.below hW).mono hW.size
  have HT2 : Hid (∀ W, Below w.heap.size w W → TextAt W.heap.size W o2 n2 l2) := fun W hW => (h2.tx.below hW).mono hW.size
  have HTA1 : Hid (∀ W, Below w.heap.size w W → TA W o1 n1 c1 l1) := fun W hW => ⟨(h1.tx.below hW).mono hW.size, h1.sm, h1.le, h1.cm, h1.nil⟩
  have HTA2 : Hid (∀ W, Below w.heap.size w W → TA W o2 n2 c2 l2) := fun W hW => ⟨(h2.tx.below hW).mono hW.size, h2.sm, h2.le, h2.cm, h2.nil⟩
  have HL1 := hid h1.tx.1
  have HL2 := hid h2.tx.1
  have p1 : (n1 : Int) ≤ (n1 : Int) + 2 := by omega
  have p2 : (n2 : Int) ≤ (n2 : Int) + 2 := by omega
  clear h1 h2 hA
  go_enter Try.func5, Try.ntmps5
  go_upto_region 2 with (go_at_call 8; (with_reducible refine HA8.out.mono ?_); rintro e w1 ⟨rfl, hb⟩; have HW1 := hid hb; clear hb HA8)
  have HC := hid (lent18 (tc := c1) (HT1.out w1 HW1.out) hs1)
  go_upto_region 3 with (go_at_call 18; (with_reducible refine HC.out.mono ?_); rintro e w2 ⟨ab, rfl, hr, hb⟩; have HRA := hid hr; have HB2 := hid hb; clear hr hb HC)
  have HW2 : Hid (Below w.heap.size w w2) := HW1.out.trans (Joins.below_le HB2.out HW1.out.size)
  have HC := hid (lent18 (tc := c2) (HT2.out w2 HW2.out) hs2)
  go_upto_region 4 with (go_at_call 18; (with_reducible refine HC.out.mono ?_); rintro e w3 ⟨bb, rfl, hr, hb⟩; have HRB := hid hr; have HB3 := hid hb; clear hr hb HC)
  have HW3 : Hid (Below w.heap.size w w3) := HW2.out.trans (Joins.below_le HB3.out HW2.out.size)
  have HRA3 := hid (HRA.out.kept HB3.out)
  have z1 := HW1.out.size
  have z2 := HB2.out.size
  have z3 := HB3.out.size
  have ya := HRA.out.blk
  have yb := HRB.out.blk
  clear HB2 HB3 HRA
  have HC := hid (new19_long (w := w3) (ad := some ⟨ab, 0, none⟩) (c := n1 + 2) hl1)
  go_upto_region 5 with (go_at_call 19; (with_reducible refine HC.out.mono ?_); rintro e w4 ⟨rfl, hw⟩; have HB4 : Hid (Below w3.heap.size w3 w4) := (by show Below _ _ _; rw [hw]; exact Below.refl _ _); clear hw HC)
  have z4 := HB4.out.size
  have HW4 : Hid (Below w.heap.size w w4) := HW3.out.trans (Joins.below_le HB4.out HW3.out.size)
  have HRA4 := hid (HRA3.out.kept HB4.out)
  have HRB4 := hid (HRB.out.kept HB4.out)
  clear HRA3 HRB HB4
  have HC := hid (new19_long (w := w4) (ad := some ⟨bb, 0, none⟩) (c := n2 + 2) hl2)
  go_upto_region 6 with (go_at_call 19; (with_reducible refine HC.out.mono ?_); rintro e w5 ⟨rfl, hw⟩; have HB5 : Hid (Below w4.heap.size w4 w5) := (by show Below _ _ _; rw [hw]; exact Below.refl _ _); clear hw HC)
  have z5 := HB5.out.size
  have HW5 : Hid (Below w.heap.size w w5) := HW4.out.trans (Joins.below_le HB5.out HW4.out.size)
  have HRA5 := hid (HRA4.out.kept HB5.out)
  have HRB5 := hid (HRB4.out.kept HB5.out)
  clear HRA4 HRB4 HB5
  have HC := hid (back20 (tc := c1) HRA5.out (HT1.out w5 HW5.out) hs1)
  go_upto_region 7 with (go_at_call 20; (with_reducible refine HC.out.mono ?_); rintro e w6 ⟨rfl, hc⟩; have HC6 := hid hc; clear hc HC)
  have z6 := HC6.out.size
  have HW6 : Hid (Below w.heap.size w w6) := HW5.out.trans (HC6.out.below HW5.out.size (by simp; omega))
  have HRB6 := hid (HRB5.out.chg HC6.out (by omega))
  clear HRA5 HRB5 HC6
  have HC := hid (back20 (tc := c2) HRB6.out (HT2.out w6 HW6.out) hs2)
  go_upto_region 8 with (go_at_call 20; (with_reducible refine HC.out.mono ?_); rintro e w7 ⟨rfl, hc⟩; have HC7 := hid hc; clear hc HC)
  have z7 := HC7.out.size
  have HW7 : Hid (Below w.heap.size w w7) := HW6.out.trans (HC7.out.below HW6.out.size (by simp; omega))
  clear HRB6 HC7
  have HC := hid (rnew21_long (w := w7) (ad := o1) (c := c1) hl1)
  go_upto_region 9 with (go_at_call 21; (with_reducible refine HC.out.mono ?_); rintro e w8 ⟨rfl, hw⟩; have HB8 : Hid (Below w7.heap.size w7 w8) := (by show Below _ _ _; rw [hw]; exact Below.refl _ _); clear hw HC)
  have HW8 : Hid (Below w.heap.size w w8) := HW7.out.trans (Joins.below_le HB8.out HW7.out.size)
  have HC := hid (rnew21_long (w := w8) (ad := o2) (c := c2) hl2)
  go_upto_region 10 with (go_at_call 21; (with_reducible refine HC.out.mono ?_); rintro e w9 ⟨rfl, hw⟩; have HB9 : Hid (Below w8.heap.size w8 w9) := (by show Below _ _ _; rw [hw]; exact Below.refl _ _); clear hw HC)
  have HW9 : Hid (Below w.heap.size w w9) := HW8.out.trans (Joins.below_le HB9.out HW8.out.size)
  clear HB8 HB9 HW1 HW2 HW3 HW4 HW5 HW6 HW7 HW8 HT1 HT2 HTA1 HTA2 z1 z2 z3 z4 z5 z6 z7 ya yb
  go_wp2_with fail
  go_loopw [20] (fun v20 wr => ∃ i : Nat, v20 = .int .i64 (i : Int) ∧ i ≤ an ∧ Hid (Below w9.heap.size w9 wr)) (fun v20 _ => an - (intOf v20).toNat)
  case atStart => exact ⟨0, rfl, by omega, Below.refl _ _⟩
  case round =>
    obtain ⟨i, rfl, hi, HBR⟩ := hrel
    have HWR : Hid (Below w.heap.size w wr) := HW9.out.trans (Joins.below_le HBR.out HW9.out.size)
    by_cases hil : i < an
    · have b1 : decide ((i : Int) < (an : Int)) = true := by simp; omega
      have b2 : (i : Int) < (an : Int) := by omega
      have ad1 : IntKind.i64.wrap ((i : Int) + 1) = (i : Int) + 1 := wrap_ok _ (by omega) (by omega)
      obtain ⟨qb, qo, hqa, hqb, hcs⟩ := HA.out.mem (by omega)
      subst hqa
      obtain ⟨k0, k1, k2⟩ := hcs i hil
      have hta := HA.out.txt i hil
      obtain ⟨A, hAe⟩ : ∃ A, A = L i := ⟨_, rfl⟩
      rw [← hAe] at k0 k1 k2 hta
      clear hAe hcs
      obtain ⟨ta, tn, tc, qa, two, tx⟩ := A
      dsimp only at k0 k1 k2 hta
      have k0 := (HWR.out.cell (p := ⟨qb, qo + i * 3, none⟩) hqb).trans k0
      have k1 := (HWR.out.cell (p := ⟨qb, qo + i * 3 + 1, none⟩) hqb).trans k1
      have k2 := (HWR.out.cell (p := ⟨qb, qo + i * 3 + 2, none⟩) hqb).trans k2
      have hsm := hta.sm
      have HTL := hid hta.tx.1
      have HTT : Hid (∀ W, Below w.heap.size w W → TextAt W.heap.size W ta tn tx) := fun W hW => (hta.tx.below hW).mono hW.size
      clear hta
      have p3 : (tn : Int) ≤ (tn : Int) + 2 := by omega
      obtain ⟨V, hV⟩ : ∃ V, V = wr.alloc (.cells #[.slice ta tn tc, .int .i64 qa, .bool two] 47) := ⟨_, rfl⟩
      have hbV : Below wr.heap.size wr V := by rw [hV]; exact Joins.below_alloc1 wr _
      have hY : V.heap[wr.heap.size]? = some (.cells #[.slice ta tn tc, .int .i64 qa, .bool two] 47 (0, 0)) := by rw [hV]; exact heap_alloc_new wr _
      obtain ⟨y, hy⟩ : ∃ y, y = wr.heap.size := ⟨_, rfl⟩
      go_upto_region 16 with fail
      rw [← hV, ← hy]
      rw [← hy] at hY
      have HY := hid hY
      have hyV : y < V.heap.size := (Array.getElem?_eq_some_iff.1 hY).1
      have HBV : Hid (Below w9.heap.size w9 V) := HBR.out.trans (Joins.below_le hbV HBR.out.size)
      have HWV : Hid (Below w.heap.size w V) := HW9.out.trans (Joins.below_le HBV.out HW9.out.size)
      obtain ⟨x0, x1, x2⟩ := three_cells hY
      have HC := hid (lent18 (tc := tc) (HTT.out V HWV.out) hsm)
      clear hV hy hY hbV k0 k1 k2 HBR HWR
      go_upto_region 19 with (go_at_call 18; (with_reducible refine HC.out.mono ?_); rintro e u1 ⟨tb, rfl, hr, hb⟩; have HRT := hid hr; have HU1 := hid hb; clear hr hb HC)
      obtain ⟨x0, x1, x2⟩ := three_cells ((HU1.out.block y hyV).trans HY.out)
      have HB1 : Hid (Below w9.heap.size w9 u1) := HBV.out.trans (Joins.below_le HU1.out HBV.out.size)
      have HWU1 : Hid (Below w.heap.size w u1) := HW9.out.trans (Joins.below_le HB1.out HW9.out.size)
      have ht := HRT.out.blk
      have hvz := HBV.out.size
      have hvu := HU1.out.size
      have HFIN : Hid (∀ W, Eqw u1 W → Calls Try.prog 20 #[.slice (some ⟨tb, 0, none⟩) (tn + 2) (tn + 2), .slice ta tn tc] W fun e w' => e = .returned (.bool true) ∧ Below w9.heap.size w9 w') := fun W hW => by
        refine (back20 (tc := tc) (HRT.out.kept (hW.below _)) (HTT.out W (HWU1.out.trans (hW.below _))) hsm).mono ?_
        rintro e w' ⟨e1, hc⟩
        exact ⟨e1, HB1.out.trans ((hW.below _).trans (hc.below (by rw [hW.heap]; omega) (by simp; omega)))⟩
      have HX : Hid (∀ W, Eqw u1 W → W.heap[y]? = some (.cells #[.slice ta tn tc, .int .i64 qa, .bool two] 47 (0, 0))) := fun W hW => (hW.blk y).trans ((HU1.out.block y hyV).trans HY.out)
      cases two
      · go_wp2_with (go_at_call 20; (with_reducible refine (HFIN.out u1 ⟨rfl, rfl, rfl, rfl⟩).mono ?_); rintro e u4 ⟨rfl, hb⟩; have HBX := hid hb; clear hb)
        exact ⟨⟨i + 1, by push_cast; rfl, by omega, HBX.out⟩, by simp [intOf]; omega⟩
      · go_wp2_with (go_at_call 20; (with_reducible refine (HFIN.out u1 ⟨rfl, rfl, rfl, rfl⟩).mono ?_); rintro e u4 ⟨rfl, hb⟩; have HBX := hid hb; clear hb)
        exact ⟨⟨i + 1, by push_cast; rfl, by omega, HBX.out⟩, by simp [intOf]; omega⟩
    · have b1 : decide ((i : Int) < (an : Int)) = false := by simp; omega
      go_wp2
      go_ret
      exact ⟨rfl, HWR.out⟩
/-- the law, of any rows and questions -/
theorem plays5 {w : World} {o1 o2 aa : Option Addr} {n1 c1 n2 c2 an ac : Nat} {l1 l2 : List Int} {L : Nat → Ak} (h1 : TA w o1 n1 c1 l1) (h2 : TA w o2 n2 c2 l2) (hA : AK w aa an L) (han : an ≤ 140737488351232) :
    Calls Try.prog 5 #[.slice o1 n1 c1, .slice o2 n2 c2, .slice aa an ac] w fun e w' => e = .returned (.bool true) ∧ Below w.heap.size w w' := by
  by_cases g1 : n1 ≤ 4194304
  · by_cases g2 : n2 ≤ 4194304
    · exact plays5_00 h1 h2 hA han g1 g2
    · exact plays5_01 h1 h2 hA han g1 (by omega)
  · by_cases g2 : n2 ≤ 4194304
    · exact plays5_10 h1 h2 hA han (by omega) g2
    · exact plays5_11 h1 h2 hA han (by omega) (by omega)
end Go.Proofs.Ytiggbgmnibndoaa
/- HELPERS: a row of questions that comes in. -/
namespace Go.Proofs.Ytiggbgmnibndoaa
open Go.ChangeShapes Go.WideShapes Go.ChangeAt Go.RowKit Go.Deep
set_option linter.unusedVariables false
set_option linter.unusedSimpArgs false
theorem cells47 : Try.prog.cellsOf 47 = 3 := by kernel_rfl
theorem cells29 : Try.prog.cellsOf 29 = 1 := by kernel_rfl
theorem cells4a : Try.prog.cellsOf 4 = 1 := by kernel_rfl
theorem bytes47 : Try.prog.bytesOf 47 = 40 := by kernel_rfl
set_option maxRecDepth 100000
section
variable {H : Type} {enc : TypeId × Value → H} {w : World} {base : Nat}
theorem open_ask {fuel : Nat} {cs : List Value} {x : DataW H × List MemPlace} (h : DataW.trod enc Try.prog w base (fun _ => true) true fuel 47 cs = some x) (hwt : ∀ n ∈ x.1.weights Try.prog 47, n ≤ reachBytes) : ∃ A : Ak, cs = [.slice A.ta A.tn A.tc, .int .i64 A.at_, .bool A.two] ∧ TA w A.ta A.tn A.tc A.tx := by
  obtain ⟨xs, n, hf, rfl, hl, hxl, hfs⟩ := DataW.trod_struct Try.underlying47 h
  rw [cells47] at hl
  simp only [List.size_toArray, List.length_cons, List.length_nil] at hxl
  match xs, hxl, cs, hl with
  | [y0, y1, y2], _, [v0, v1, v2], _ =>
  have g0 := hfs 0 _ rfl
  have g1 := hfs 1 _ rfl
  have g2 := hfs 2 _ rfl
  simp [cells29] at g0
  simp [cells3a] at g1
  simp [cells4a] at g2
  have hw0 : ∀ n ∈ y0.1.weights Try.prog 29, n ≤ reachBytes := fun n hn => hwt n (by
    simp only [DataW.weights, Try.underlying47]
    exact DataW.weights_mem_each (j := 0) (by simp) (by simp) n hn)
  obtain ⟨tx, ad, n', c, e0, hta⟩ := open_ta g0 hw0
  obtain ⟨a1, e1, _, _⟩ := DataW.trod_int Try.underlying3 g1
  obtain ⟨a2, e2, _⟩ := DataW.trod_bool Try.underlying4 g2
  simp only [List.cons.injEq, and_true] at e0 e1 e2
  subst e0 e1 e2
  exact ⟨⟨ad, n', c, a1, a2, tx⟩, rfl, hta⟩
theorem asks_arg {W : World} {v : Value} {d : DataW H} {p : List MemPlace} (hok : Value.okWide Try.prog W .any base 38 v) (h0 : DataW.Trod enc Try.prog W 0 (fun _ => true) true 38 v d p) (hwt : ∀ n ∈ d.weights Try.prog 38, n ≤ reachBytes) :
    ∃ (ad : Option Addr) (n c : Nat) (L : Nat → Ak), v = .slice ad n c ∧ n ≤ 140737488351232 ∧ AK W ad n L := by
  obtain ⟨a0, len0, cap0, rfl⟩ := okWide_slice Try.underlying38 hok
  obtain ⟨fuel, hf⟩ := h0
  rcases DataW.trod_slice Try.underlying38 hf with ⟨e, _⟩ | ⟨a, len, cap, elems, rest, n', hn', e, hx0, hb, hlc, hcm, hel, hx, _, _⟩
  · simp [Value.cells] at e
    obtain ⟨rfl, rfl, rfl⟩ := e
    exact ⟨none, 0, 0, fun _ => default, rfl, by omega, ⟨fun h => absurd h (by omega), fun i hi => absurd hi (by omega)⟩⟩
  · simp [Value.cells] at e
    obtain ⟨rfl, rfl, rfl⟩ := e
    have hx0' := congrArg Prod.fst hx0
    simp only at hx0'
    rw [cells47] at hx
    have hw0 := hwt ((elems.length + rest.length) * Try.prog.bytesOf 47) (by rw [hx0']; simp [DataW.weights, Try.underlying38])
    rw [bytes47, reach_eq] at hw0
    have each : ∀ i, i < len0 → ∃ A : Ak, (∀ j, j < 3 → W.cell? (a.add (i * 3 + j)) = [Value.slice A.ta A.tn A.tc, .int .i64 A.at_, .bool A.two][j]?) ∧ TA W A.ta A.tn A.tc A.tx := fun i hi => by
      have h1 := hx i hi
      rw [List.getElem?_eq_getElem (by omega)] at h1
      obtain ⟨cs', h2, h3⟩ := Option.bind_eq_some_iff.1 h1
      obtain ⟨A, rfl, ht⟩ := open_ask h3 (fun n hn => hwt n (by rw [hx0']; simp only [DataW.weights, Try.underlying38]; exact List.mem_cons_of_mem _ (List.mem_append_left _ (weightsAll_mem (List.mem_map.2 ⟨_, List.getElem_mem _, rfl⟩) n hn))))
      obtain ⟨_, _, hc⟩ := World.cells?_some h2
      exact ⟨A, fun j hj => by have := hc j hj; rwa [add_add] at this, ht⟩
    obtain ⟨q, hq⟩ := choose_lt each
    refine ⟨some a, len0, cap0, q, rfl, by omega, ⟨fun hp => ?_, fun i hi => (hq i hi).2⟩⟩
    have hc0 := (hq 0 hp).1 0 (by omega)
    simp only [List.getElem?_cons_zero] at hc0
    have hsp : a.spot = none := by simpa [Addr.add] using World.cell?_spot hc0
    obtain ⟨b, o, sp⟩ := a
    simp only at hsp
    subst hsp
    refine ⟨b, o, rfl, World.block_lt_of_cell? _ _ hc0, fun i hi => ?_⟩
    have h1 := (hq i hi).1
    simp only [add_plain, ← Nat.add_assoc] at h1
    exact ⟨by simpa using h1 0 (by omega), by simpa using h1 1 (by omega), by simpa using h1 2 (by omega)⟩
end
end Go.Proofs.Ytiggbgmnibndoaa
namespace Go.Proofs.Ytiggbgmnibndoaa
open Go.ChangeShapes Go.WideShapes Go.ChangeAt Go.RowKit
set_option linter.unusedVariables false
set_option linter.unusedSimpArgs false
set_option maxRecDepth 100000 in
theorem playsLifted (os : Os) (started : os.Started) (H : Type) (enc : TypeId × Value → H) :
    ReturnsInHanded {} Try.checked os 5 .any (Rows.literalPlaysSpec.pre6 enc Try.prog Try.f5 Rows.literalPlaysRow.domain false) (Rows.literalPlaysSpec.post enc Try.prog Try.f5 false true false false) := by
  refine returnsInHanded_of_change_sized (C := Try.checked) ownB started (by kernel_rfl) Try.func5
    (ChangeSpec.witness6 (enc := enc) (C := Try.checked) false ⟨#[], #[.slice none 0 0, .slice none 0 0, .slice none 0 0], []⟩ 8 (by kernel_rfl) (by kernel_rfl) (by kernel_rfl) (by kernel_rfl)) ?_
  intro W base args ds gs before hval0 hW hcnd0 hsz0 hholds
  have hval : ∀ (j : Nat) t v, Try.f5.params[j]? = some t → args[j]? = some v → Value.okWide Try.prog W .any base t v := hval0
  have hW' := hW
  obtain ⟨p, q, hA0, hV, rfl, hfz, hnd⟩ := hW
  have hA : DataW.TrodAll enc Try.prog W 0 (fun _ => true) true Try.f5.params.toList args.toList ds p := hA0
  have hsz : ∀ n ∈ DataW.weightsEach Try.prog (Try.f5.params.toList ++ Rows.literalPlaysSpec.plain.varTypes Try.prog) (ds ++ gs), n ≤ reachBytes := fun n hn => by simpa using List.all_eq_true.1 hsz0 n hn
  rw [Try.params5] at hA hval hsz
  obtain ⟨v0, vs0, d0, ds0, p0, q0, hargs, rfl, rfl, h0, r0⟩ := trodAll_cons hA
  obtain ⟨v1, vs1, d1, ds1, p1, q1, rfl, rfl, rfl, h1, r1⟩ := trodAll_cons r0
  obtain ⟨v2, vs2, d2, ds2, p2, q2, rfl, rfl, rfl, h2, r2⟩ := trodAll_cons r1
  obtain ⟨rfl, rfl, rfl⟩ := trodAll_nil r2
  obtain rfl : args = #[v0, v1, v2] := by cases args; simp_all
  obtain ⟨rfl, rfl⟩ := trodVars_none hV
  have hlt0 : ∀ x ∈ p0, x.block < W.heap.size := fun x hx => by have := hW'.lt x (by simp [hx]); simpa using this
  have hlt2 : ∀ x ∈ p2, x.block < W.heap.size := fun x hx => by have := hW'.lt x (by simp [hx]); simpa using this
  have hlt1 : ∀ x ∈ p1, x.block < W.heap.size := fun x hx => by have := hW'.lt x (by simp [hx]); simpa using this
  obtain ⟨lit, la, ln, lc, rfl, hL⟩ := text_arg (hval 0 29 v0 rfl rfl) h0 (fun n hn => hsz n (DataW.weights_mem_each (j := 0) (by simp) (by simp) n hn))
  obtain ⟨tx, ta, tn, tc, rfl, hT⟩ := text_arg (hval 1 29 v1 rfl rfl) h1 (fun n hn => hsz n (DataW.weights_mem_each (j := 1) (by simp) (by simp) n hn))
  obtain ⟨aa, an, ac, L, rfl, han, hA2⟩ := asks_arg (hval 2 38 v2 rfl rfl) h2 (fun n hn => hsz n (DataW.weights_mem_each (j := 2) (by simp) (by simp) n hn))
  clear hA0 hval0
  refine (plays5 hL hT hA2 han).mono fun e W' ⟨he, hb⟩ => ?_
  subst he
  exact ⟨_, rfl, _, _, _, [], p0 ++ (p1 ++ (p2 ++ [])), [], hW', trodAll_cons_mk (shut_bool Try.underlying4 _) trodAll_mk0, trodAll_cons_mk (Below.trod laidOut (by kernel_rfl) (of_decide_eq_true (by kernel_rfl)) h0 hb hlt0) (trodAll_cons_mk (Below.trod laidOut (by kernel_rfl) (of_decide_eq_true (by kernel_rfl)) h1 hb hlt1) (trodAll_cons_mk (Below.trod laidOut (by kernel_rfl) (of_decide_eq_true (by kernel_rfl)) h2 hb hlt2) trodAll_mk0)), rfl, hb.frame _, fun h => by cases h⟩
theorem literalPlays_holds : Rows.LiteralPlaysSaid :=
  OpenClaim.holds_of_wide 5 Try.f5 rfl rfl rfl rfl rfl rfl rfl ⟨rfl, rfl, rfl, rfl, rfl⟩ rfl rfl rfl rfl rfl (by kernel_rfl) Try.func5 (by kernel_rfl)
    (of_decide_eq_true (by kernel_rfl)) (by unfold Func.isWrapper; first | (rw [if_pos (by decide +kernel)]; kernel_rfl) | (rw [if_neg (by decide +kernel)]; exact ⟨rfl, rfl⟩))
    (fun os started H enc _ => playsLifted os started H enc)
end Go.Proofs.Ytiggbgmnibndoaa
