/- HELPERS: what comes of the walks from a place; the parses of a tree. -/
import Derived.Test.YtnpocciioedgpaaWx
import Derived.Test.YtnpocciioedgpaaSb
namespace Go.Proofs.Ytnpocciioedgpaa
open Go.RowKit
set_option linter.unusedVariables false
set_option linter.unusedSimpArgs false
theorem row_slice {w : World} {N e size n : Nat} {v : Value} {xs : List Value} (h : w.ownsRow N e size v n xs) : ∃ a l c, v = .slice a l c := by
  rcases h.2 with ⟨rfl, _⟩ | ⟨g, cap, cur, rfl, _⟩
  · exact ⟨_, _, _, rfl⟩
  · exact ⟨_, _, _, rfl⟩
/-- the parses as they lie in memory -/
def Parsed (N : Nat) (w : World) (pv : Value) (l : List (Int × List Int)) : Prop := ∃ cs F, w.ownsRow N 53 2 pv l.length cs ∧ PR N w cs l F
set_option maxRecDepth 100000 in
set_option maxHeartbeats 4000000 in
theorem from32 (N g b : Nat) (C : Cx) (E : Nat → Way) (W : Way) (tx : List Int) (s s' : Sg) (u : Value) (F Ft B : List Nat) (w : World) (hN : N ≤ w.heap.size) (hW : WS N w g C s B) (hwh : C.wh = u) (hR : Rep g C.K [b] w u W F) (hb : Bx w b 84 u) (hEb : E b = W) (hE : ∀ k, (E k).few) (hT : TX w C.tv tx Ft) (htx : tx.length ≤ 100000)
    (aF : ∀ k ∈ F, k ∉ B) (ab : b ∉ B) (aT : ∀ k ∈ Ft, k ∉ B) (hFt : ∀ k ∈ Ft, k < w.heap.size) (hl : s'.parses.length < 1000000) (hx : Ex tx E W 0 { s with notes := s.notes.set 0 0 } s') :
    Calls Try.prog 32 #[pt g, .int .i64 0] w fun e w' => ∃ pv, e = .returned pv ∧ Parsed N w' pv s'.parses ∧ ∃ B', Chg w w' B B' := by
  obtain ⟨pv, cs, F0, hg, _⟩ := hW.ex
  have hK := hW.two
  have hnb := hW.nblk
  obtain ⟨cur, hn⟩ := hnb
  have g5 : w.cell? ⟨g, 5, none⟩ = some (.slice (some ⟨C.nb, 0, none⟩) C.K C.ncap) := Joins.cell_of_block hg 5
  have rd := hW.read 0 (by omega)
  have uf := Joins.unfrozen_of_block hn 0
  have i1 : (0 : Int) < (C.K : Int) := by omega
  obtain ⟨f, fi, ca, hu⟩ := hR.form
  subst hu
  obtain ⟨X, hX⟩ : ∃ X, X = w.setCell ⟨C.nb, 0, none⟩ (.int .i64 0) := ⟨_, rfl⟩
  have hXs : WS N X g C { s with notes := s.notes.set 0 0 } B := by rw [hX]; exact hW.note 0 (by omega) 0
  have hXc : Chg w X B B := by rw [hX]; exact (Chg.refl w B).set (a := ⟨C.nb, 0, none⟩) (.int .i64 0) hW.blocks.2.2
  obtain ⟨pv2, cs2, F2, hg2, _⟩ := hXs.ex
  have x2 : X.cell? ⟨g, 2, none⟩ = some (.func (.func f) fi ca) := by rw [← hwh]; exact Joins.cell_of_block hg2 2
  have hbl := bx_lt hb
  have HC := exec (N := N) (g := g) (C := C) (L := [b]) (FE := b :: F) (Ft := Ft) (tx := tx) (E := E) hE htx hx X _ F B (hEb ▸ hE b) (by omega) hl (Nat.le_trans hN hXc.size) hXs (hR.kept fun k hk => hXc.block k (hR.low k hk) (aF k hk))
    (fun k hk => by
      simp at hk
      subst hk
      exact ⟨by simp, _, F, (hXc.block k hbl ab).trans hb, by rw [hEb]; exact hR.kept fun j hj => hXc.block j (hR.low j hj) (aF j hj), fun j hj => by simp [hj]⟩)
    (hT.kept (fun k hk hk2 => hXc.block k hk2 (aT k hk)) hXc.size) aF (fun k hk => by simp at hk; rcases hk with rfl | hk; exact ab; exact aF k hk) aT (fun k hk => by simp at hk; have := hXc.size; rcases hk with rfl | hk; omega; have := hR.low k hk; omega) (fun k hk => by have := hXc.size; have := hFt k hk; omega)
  obtain ⟨f', fi', ca', e1, hcf, hC⟩ := HC
  simp only [Value.func.injEq, Fn.func.injEq] at e1
  obtain ⟨rfl, rfl, rfl⟩ := e1
  have HXC := hid hXc
  have HX := hid hX
  clear hW hg hn hR hb hT hx hXs hXc hg2 aF ab aT hFt hE hEb hl
  go_enter Try.func32, Try.ntmps32
  go_upto_region 2 with fail
  rw [← hX]
  clear hX
  rw [show ((0 : Nat) : Int) = 0 from rfl] at hC
  go_wp2_with (first | ((with_reducible refine hC.mono ?_); rintro e w2 ⟨rfl, B2, hW2, hC2⟩; obtain ⟨pv3, cs3, F3, hg3, hp3, hP3, _⟩ := hW2.ex; have y6 : w2.cell? ⟨g, 6, none⟩ = some pv3 := Joins.cell_of_block hg3 6; have HP3 : Hid (Parsed N w2 pv3 s'.parses) := ⟨cs3, F3, hp3, hP3⟩; obtain ⟨q1, q2, q3, rfl⟩ := row_slice hp3; have HC2 := hid hC2; clear hC hW2 hC2 hg3 hp3 hP3))
  go_ret
  exact ⟨_, rfl, HP3.out, B2, HXC.out.trans HC2.out⟩
set_option maxRecDepth 100000 in
set_option maxHeartbeats 4000000 in
theorem parses13 (N : Nd) (tb tcap : Nat) (r : Int) (l : List (Int × List Int)) (w : World) (hr : r ≤ 2000)
    (H29 : ∀ w', Below w.heap.size w w' → Calls Try.prog 29 #[N.v 6] w' fun e w'' => e = .returned (.int .i64 0) ∧ Below w'.heap.size w' w'')
    (H30 : ∀ w', Below w.heap.size w w' → Calls Try.prog 30 #[N.v 6] w' fun e w'' => e = .returned (.int .i64 r) ∧ Below w'.heap.size w' w'')
    (H31 : ∀ w', Below w.heap.size w w' → Calls Try.prog 31 #[N.v 6, .slice (some ⟨tb, 0, none⟩) 1 tcap] w' fun e w'' => ∃ g, e = .returned (pt g) ∧ Calls Try.prog 32 #[pt g, .int .i64 0] w'' fun e2 w3 => ∃ pv, e2 = .returned pv ∧ Parsed w.heap.size w3 pv l ∧ Below w.heap.size w w3) :
    Calls Try.prog 13 #[N.v 6, .slice (some ⟨tb, 0, none⟩) 1 tcap, .int .i64 0] w fun e w' => ∃ pv, e = .returned (.tuple #[pv, .int .i64 0]) ∧ Parsed w.heap.size w' pv l ∧ Below w.heap.size w w' := by
  have hb0 : Below w.heap.size w (w.alloc (N.o 6)) := Joins.below_alloc1 w _
  have HA := H29 _ hb0
  have b1 : decide (r > 2000) = false := by simp; omega
  have b2 : decide (2000 < r) = false := by simp; omega
  have hnode : ∀ w1, Below (w.alloc (N.o 6)).heap.size (w.alloc (N.o 6)) w1 → w1.cell? ⟨w.heap.size, 0, none⟩ = some (.int .i64 6) ∧ w1.cell? ⟨w.heap.size, 1, none⟩ = some (.slice N.r1 N.r2 N.r3) ∧ w1.cell? ⟨w.heap.size, 2, none⟩ = some (.int .i64 N.a2) ∧ w1.cell? ⟨w.heap.size, 3, none⟩ = some (.slice N.s1 N.s2 N.s3) ∧ w1.cell? ⟨w.heap.size, 4, none⟩ = some (.int .i64 N.a4) ∧ w1.cell? ⟨w.heap.size, 5, none⟩ = some (.int .i64 N.a5) ∧ w1.cell? ⟨w.heap.size, 6, none⟩ = some (.bool N.a6) ∧ w1.cell? ⟨w.heap.size, 7, none⟩ = some (.int .i64 N.a7) ∧ w1.cell? ⟨w.heap.size, 8, none⟩ = some (.string N.a8) := fun w1 h => nine ((h.block w.heap.size (by simp)).trans (heap_alloc_new w _))
  have HN := hid hnode
  have HH30 := hid H30
  have HH31 := hid H31
  have HB0 := hid hb0
  clear hnode H29 H30 H31 hb0
  go_enter Try.func13, Try.ntmps13
  go_wp2_with (first | (go_at_call 29; (with_reducible refine HA.mono ?_); rintro e w1 ⟨rfl, hb1⟩; obtain ⟨o0, o1, o2, o3, o4, o5, o6, o7, o8⟩ := HN.out w1 hb1; have HC1 := HH30.out w1 (HB0.out.trans (Joins.below_le hb1 (by simp))); have HB1 := hid hb1; clear hb1 HA) | (go_at_call 30; (with_reducible refine HC1.mono ?_); rintro e w2 ⟨rfl, hb2⟩; obtain ⟨p0, p1, p2, p3, p4, p5, p6, p7, p8⟩ := HN.out w2 (HB1.out.trans (Joins.below_le hb2 HB1.out.size)); have HC2 := HH31.out w2 (HB0.out.trans (Joins.below_le (HB1.out.trans (Joins.below_le hb2 HB1.out.size)) (by simp))); clear hb2 HC1 o0 o1 o2 o3 o4 o5 o6 o7 o8) | (go_at_call 31; (with_reducible refine HC2.mono ?_); rintro e w3 ⟨g, rfl, hC3⟩; clear HC2) | (go_at_call 32; (with_reducible refine hC3.mono ?_); rintro e w4 ⟨pv, rfl, hP, hB⟩; obtain ⟨cs, FF, hrow, hPR⟩ := hP; obtain ⟨q1, q2, q3, rfl⟩ := row_slice hrow; have HP4 : Hid (Parsed w.heap.size w4 (.slice q1 q2 q3) l) := ⟨cs, FF, hrow, hPR⟩; have HB4 := hid hB; clear hB hC3 hrow hPR))
  go_ret2
  exact ⟨_, rfl, HP4.out, HB4.out⟩
end Go.Proofs.Ytnpocciioedgpaa
