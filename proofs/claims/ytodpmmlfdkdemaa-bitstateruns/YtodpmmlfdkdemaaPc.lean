/- HELPERS: the machine in memory; its small questions. -/
import Derived.Test.YtodpmmlfdkdemaaVb
import Derived.Test.YtodpmmlfdkdemaaPb
import Derived.Test.YtodpmmlfdkdemaaAt
import Derived.Test.YtodpmmlfdkdemaaSg
import Derived.Laws.EntriesVeiled
import Derived.Deep.Cut
import Derived.Deep.CutRange
import Derived.Test.YtodpmmlfdkdemaaXh
namespace Go.Proofs.Ytodpmmlfdkdemaa
open Go.RowKit Go.Lk
set_option linter.unusedVariables false
set_option linter.unusedSimpArgs false
/-- what the machine's cells hold -/
structure Mv where
  ad : Option Addr
  n : Nat
  c : Nat
  S : Nat
  K : Nat
  tad : Option Addr
  tn : Nat
  tc : Nat
  j : Nat
  sb : Nat
  bits : Int
  z1 : Option Addr
  n1 : Nat
  c1 : Nat
  k1 : Nat
  z2 : Option Addr
  n2 : Nat
  c2 : Nat
  k2 : Nat
  ub : Nat
  uc : Nat
  fok : Bool
  f1 : Option Addr
  f2 : Nat
  f3 : Nat
  fw : Int
  fs : Nat
abbrev Mv.cs (b : Nat) (M : Mv) : Array Value := #[.slice M.ad M.n M.c, .int .i64 (M.S : Int), .int .i64 (M.K : Int), .slice M.tad M.tn M.tc, .int .i64 (M.j : Int), .pointer (some ⟨M.sb, 0, none⟩), .int .i64 M.bits, .slice M.z1 M.n1 M.c1, .int .i64 (M.k1 : Int), .slice M.z2 M.n2 M.c2, .int .i64 (M.k2 : Int), .func (.func 32) #[.pointer (some ⟨b, 9, none⟩)] #[], .slice (some ⟨M.ub, 0, none⟩) M.K M.uc, .bool M.fok, .slice M.f1 M.f2 M.f3, .int .i64 M.fw, .int .i64 (M.fs : Int)]
/-- the machine's block -/
def MB (w : World) (b : Nat) (M : Mv) : Prop := w.heap[b]? = some (.cells (M.cs b) 76 (0, 0))
theorem MB.c {w : World} {b : Nat} {M : Mv} (h : MB w b M) (k : Nat) : w.cell? ⟨b, k, none⟩ = (M.cs b)[k]? := Joins.cell_of_block h k
theorem MB.u {w : World} {b : Nat} {M : Mv} (h : MB w b M) (k : Nat) : w.frozen? ⟨b, k, none⟩ = false := Joins.unfrozen_of_block h k
theorem MB.lt {w : World} {b : Nat} {M : Mv} (h : MB w b M) : b < w.heap.size := (Array.getElem?_eq_some_iff.1 h).1
theorem MB.kept {w w' : World} {b : Nat} {M : Mv} (h : MB w b M) (hk : w'.heap[b]? = w.heap[b]?) : MB w' b M := hk.trans h
set_option maxRecDepth 100000 in
set_option maxHeartbeats 2000000 in
theorem atEnd52 {w : World} {b : Nat} {M : Mv} (h : MB w b M) : Calls Try.prog 66 #[.pointer (some ⟨b, 0, none⟩)] w fun e w' => e = .returned (.bool (decide (M.j = M.tn))) ∧ Below w.heap.size w w' := by
  have c3 := h.c 3
  have c4 := h.c 4
  simp at c3 c4
  obtain ⟨ad, n, c, S, K, tad, tn, tc, j, sb, bits, z1, n1, c1, k1, z2, n2, c2, k2, ub, uc, fok, f1, f2, f3, fw, fs⟩ := M
  dsimp only at c3 c4 ⊢
  clear h
  by_cases e : j = tn
  · have b1 : ((j : Int) == (tn : Int)) = true := by simp; omega
    have b2 : decide (j = tn) = true := by simp [e]
    rw [b2]
    go_enter Try.func66, Try.ntmps66
    go_wp2_with fail
    go_quiet (fail)
    go_wp2
    all_goals go_ret
    all_goals exact ⟨rfl, below_drewN' (Below.refl _ _) _⟩
  · have b1 : ((j : Int) == (tn : Int)) = false := by simp; omega
    have b2 : decide (j = tn) = false := by simp [e]
    rw [b2]
    go_enter Try.func66, Try.ntmps66
    go_wp2_with fail
    go_quiet (fail)
    go_wp2
    all_goals go_ret
    all_goals exact ⟨rfl, below_drewN' (Below.refl _ _) _⟩
set_option maxRecDepth 100000 in
set_option maxHeartbeats 2000000 in
theorem begins34 {w : World} {b : Nat} {M : Mv} {a : Nat} {anch : Bool} (h : MB w b M) : Calls Try.prog 36 #[.pointer (some ⟨b, 0, none⟩), .int .i64 (a : Int), .bool anch] w fun e w' => e = .returned (.bool (decide (M.j = a) || (!anch && !M.fok))) ∧ w' = w := by
  have c3 := h.c 13
  have c4 := h.c 4
  simp at c3 c4
  obtain ⟨ad, n, c, S, K, tad, tn, tc, j, sb, bits, z1, n1, c1, k1, z2, n2, c2, k2, ub, uc, fok, f1, f2, f3, fw, fs⟩ := M
  dsimp only at c3 c4 ⊢
  clear h
  by_cases e : j = a
  · have b1 : ((j : Int) == (a : Int)) = true := by simp; omega
    have b2 : decide (j = a) = true := by simp [e]
    rw [b2]
    go_enter Try.func36, Try.ntmps36
    go_wp2
    all_goals go_ret
    all_goals exact ⟨rfl, rfl⟩
  · have b1 : ((j : Int) == (a : Int)) = false := by simp; omega
    have b2 : decide (j = a) = false := by simp [e]
    rw [b2]
    cases anch <;> cases fok
    all_goals go_enter Try.func36, Try.ntmps36
    all_goals go_wp2
    all_goals go_ret
    all_goals exact ⟨rfl, rfl⟩
set_option maxRecDepth 100000 in
set_option maxHeartbeats 2000000 in
theorem isOver36 {w : World} {b : Nat} {M : Mv} {anch : Bool} (h : MB w b M) : Calls Try.prog 38 #[.pointer (some ⟨b, 0, none⟩), .bool anch] w fun e w' => e = .returned (.bool (decide (M.j = M.tn) || (decide (M.k1 = 0) && (M.fok || anch)))) ∧ Below w.heap.size w w' := by
  have HC := atEnd52 h
  have HM := hid h
  obtain ⟨ad, n, c, S, K, tad, tn, tc, j, sb, bits, z1, n1, c1, k1, z2, n2, c2, k2, ub, uc, fok, f1, f2, f3, fw, fs⟩ := M
  dsimp only at HC ⊢
  clear h
  cases e : decide (j = tn)
  · rw [e] at HC
    by_cases e1 : k1 = 0
    · have b1 : ((k1 : Int) == 0) = true := by simp; omega
      have b2 : decide (k1 = 0) = true := by simp [e1]
      rw [b2]
      cases anch <;> cases fok
      all_goals go_enter Try.func38, Try.ntmps38
      all_goals go_wp2_with (go_at_call 66; (with_reducible refine HC.mono ?_); rintro e w2 ⟨rfl, hb⟩; have HB := hid hb; have hm := HM.out.kept (hb.block b HM.out.lt); have c3 := hm.c 13; have c4 := hm.c 8; simp at c3 c4; clear hm hb HC)
      all_goals go_ret
      all_goals exact ⟨rfl, HB.out⟩
    · have b1 : ((k1 : Int) == 0) = false := by simp; omega
      have b2 : decide (k1 = 0) = false := by simp [e1]
      rw [b2]
      go_enter Try.func38, Try.ntmps38
      go_wp2_with (go_at_call 66; (with_reducible refine HC.mono ?_); rintro e w2 ⟨rfl, hb⟩; have HB := hid hb; have hm := HM.out.kept (hb.block b HM.out.lt); have c3 := hm.c 13; have c4 := hm.c 8; simp at c3 c4; clear hm hb HC)
      all_goals go_ret
      all_goals exact ⟨rfl, HB.out⟩
  · rw [e] at HC
    go_enter Try.func38, Try.ntmps38
    go_wp2_with (go_at_call 66; (with_reducible refine HC.mono ?_); rintro e w2 ⟨rfl, hb⟩; have HB := hid hb; clear hb HC)
    all_goals go_ret
    all_goals exact ⟨rfl, HB.out⟩
set_option maxRecDepth 100000 in
set_option maxHeartbeats 2000000 in
theorem fits48 {w : World} {b : Nat} {M : Mv} {tx : List Int} {R : List (Int × Int)} {r1 : Option Addr} {r2 r3 : Nat} (h : MB w b M) (hT : TextAt w.heap.size w M.tad M.tn tx) (hj : M.j ≤ M.tn) (hn : r2 = R.length) (hl : RowAt w.heap.size w (.slice r1 r2 r3) R) (hR : rightB R = true) :
    Calls Try.prog 62 #[.pointer (some ⟨b, 0, none⟩), .slice r1 r2 r3] w fun e w' => e = .returned (.bool (decide (M.j < tx.length) && hsB R (tx.getD M.j 0))) ∧ Below w.heap.size w w' := by
  have HC := atEnd52 h
  have HM := hid h
  have HT := hid hT
  have HL := hid hl
  have HN := hid hn
  have HR := hid hR
  have htl : M.tn = tx.length := hT.1
  have hsm : r2 ≤ 5000 := by
    rw [hn]; unfold rightB at hR; simp at hR; exact hR.1
  obtain ⟨ad, n, c, S, K, tad, tn, tc, j, sb, bits, z1, n1, c1, k1, z2, n2, c2, k2, ub, uc, fok, f1, f2, f3, fw, fs⟩ := M
  dsimp only at HC HT htl hj ⊢
  clear h hT hl hn hR
  rw [← htl]
  have HTL := hid htl
  clear htl
  by_cases e : j = tn
  · rw [show decide (j = tn) = true by simp [e]] at HC
    rw [show decide (j < tn) = false by simp [e]]
    go_enter Try.func62, Try.ntmps62
    go_wp2_with (go_at_call 66; (with_reducible refine HC.mono ?_); rintro e w2 ⟨rfl, hb⟩; have HB := hid hb; clear hb HC)
    all_goals go_ret
    all_goals exact ⟨rfl, HB.out⟩
  · rw [show decide (j = tn) = false by simp [e]] at HC
    have hlt : j < tn := by omega
    rw [show decide (j < tn) = true by simp [hlt]]
    have b2 : (j : Int) < (tn : Int) := by omega
    obtain ⟨_, h35, h0 | ⟨tb, tof, rfl, htb, htc⟩⟩ := HT.out
    · omega
    have d0 := htc j hlt
    generalize hr : tx.getD j 0 = r at d0 ⊢
    have HRR := hid hr
    clear htc hr
    generalize hX : hsB R r = X
    have HX := hid hX
    clear hX
    have hj2 : j < 9223372036854775807 := by omega
    clear h35
    go_enter Try.func62, Try.ntmps62
    go_upto_region 3 with (go_at_call 66; (with_reducible refine HC.mono ?_); rintro e w2 ⟨rfl, hb⟩; have HB := hid hb; have hm := HM.out.kept (hb.block b HM.out.lt); have c3 := hm.c 3; have c4 := hm.c 4; simp at c3 c4; have d1 := (hb.cell (p := ⟨tb, tof + j, none⟩) htb).trans d0; clear hm hb HC d0)
    go_quiet (fail)
    clear c3 c4 d1
    have HS : Hid (∀ W, W.heap = w2.heap → W.os = w2.os → W.tape = w2.tape → W.output = w2.output → Calls Try.prog 78 #[.slice r1 r2 r3, .int .i64 r, .func (.func 86) #[] #[]] W fun e w' => ∃ (i : Nat) (f : Bool), e = .returned (.tuple #[.int .i64 i, .bool f]) ∧ Below w.heap.size w w' ∧ i ≤ r2 ∧ (i = 0 ∨ (R.getD (i - 1) (0, 0)).2 < r) ∧ (i = r2 ∨ r ≤ (R.getD i (0, 0)).2)) := by
      intro W e1 e2 e3 e4
      have hbW : Below w.heap.size w W := ⟨e2.trans HB.out.os, e3.trans HB.out.tape, e4.trans HB.out.output, by rw [e1]; exact HB.out.size, fun k hk => by rw [e1]; exact HB.out.block k hk⟩
      refine (bs67 R r1 r2 r3 r W HN.out (HL.out.below hbW (Nat.le_refl _) hbW.size) hsm).mono ?_
      rintro e w' ⟨i, f, he, hb, h1, h2, h3⟩
      exact ⟨i, f, he, hbW.trans (Joins.below_le hb hbW.size), h1, h2, h3⟩
    go_upto_region 5 with (go_at_call 78; (with_reducible refine (HS.out _ ?_ ?_ ?_ ?_).mono ?_); (rfl); (rfl); (rfl); (rfl); rintro e w3 ⟨i, f, rfl, hb3, hi, hs1, hs2⟩; have HB3 := hid hb3; have H1 := hid hs1; have H2 := hid hs2; clear hb3 hs1 hs2 HS)
    have hsr : inB R r = (decide (i < R.length) && decide ((R.getD i (0, 0)).1 ≤ r)) := has_search R r i HR.out (by have := HN.out; omega) H1.out (by have := HN.out; rw [← this]; exact H2.out)
    rw [← HN.out] at hsr
    have hhs : hsB R r = (decide (i < r2) && decide ((R.getD i (0, 0)).1 ≤ r)) := by unfold hsB; rw [HR.out, hsr]; rfl
    rw [HX.out] at hhs
    have HH := hid hhs
    clear hsr hhs
    by_cases hir : i < r2
    · have b3 : decide ((i : Int) < (r2 : Int)) = true := by simp; omega
      have b4 : (i : Int) < (r2 : Int) := by omega
      obtain ⟨ad', cap', he, h | ⟨lb, lo, rfl, hlb, hc0, hc1⟩⟩ := HL.out
      · have := HN.out; omega
      simp only [Value.slice.injEq] at he
      obtain ⟨rfl, -, rfl⟩ := he
      have m0 := (HB3.out.cell (p := ⟨lb, lo + i * 2, none⟩) hlb).trans (hc0 i (by have := HN.out; omega))
      generalize hx0 : (R.getD i (0, 0)).1 = x0 at m0
      have HX0 := hid hx0
      clear hx0
      clear hc0 hc1
      by_cases hx : x0 ≤ r
      · have b5 : decide (x0 ≤ r) = true := by simp [hx]
        have HXV : Hid (X = true) := by show X = _; rw [HH.out, HX0.out]; simp [hir, hx]
        go_wp2
        all_goals go_ret
        all_goals exact ⟨ret_bool (by simp [HXV.out]), HB3.out⟩
      · have b5 : decide (x0 ≤ r) = false := by simp [hx]
        have HXV : Hid (X = false) := by show X = _; rw [HH.out, HX0.out]; simp [hir, hx]
        go_wp2
        all_goals go_ret
        all_goals exact ⟨ret_bool (by simp [HXV.out]), HB3.out⟩
    · have b3 : decide ((i : Int) < (r2 : Int)) = false := by simp; omega
      have HXV : Hid (X = false) := by show X = _; rw [HH.out]; simp [hir]
      go_wp2
      all_goals go_ret
      all_goals exact ⟨ret_bool (by simp [HXV.out]), HB3.out⟩
end Go.Proofs.Ytodpmmlfdkdemaa
