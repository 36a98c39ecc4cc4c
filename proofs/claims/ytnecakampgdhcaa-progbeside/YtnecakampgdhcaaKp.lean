/- HELPERS: the marks behind the lists of a program that was lent stand. -/
import Derived.Test.YtnecakampgdhcaaLn
namespace Go.Proofs.Ytnecakampgdhcaa
open Go.RowKit
set_option linter.unusedVariables false
set_option linter.unusedSimpArgs false
theorem O2_marks (R : List (Int × Int)) : (O2 (R ++ M2))[R.length * 2]? = some (.int .i64 (-77)) ∧ (O2 (R ++ M2))[(R.length + 1) * 2]? = some (.int .i64 (-78)) := by
  have h0 := (O2_at (R ++ M2) R.length (by simp)).1
  have h1 := (O2_at (R ++ M2) (R.length + 1) (by simp)).1
  simp at h0 h1
  exact ⟨by simpa using h0, by simpa using h1⟩
theorem insts_marks (MS : List Iv) : ((MS ++ [mkI (-77), mkI (-78)]).flatMap Iv.cs)[MS.length * 5]? = some (.int .i64 (-77)) ∧ ((MS ++ [mkI (-77), mkI (-78)]).flatMap Iv.cs)[(MS.length + 1) * 5]? = some (.int .i64 (-78)) := by
  have h0 := flat5 (MS ++ [mkI (-77), mkI (-78)]) MS.length 0 (by simp) (by omega)
  have h1 := flat5 (MS ++ [mkI (-77), mkI (-78)]) (MS.length + 1) 0 (by simp) (by omega)
  rw [Nat.add_zero] at h0 h1
  rw [h0, h1]
  simp
/-- what is read of the i-th instruction of a lent program -/
theorem PL.at5 {w : World} {base n c gz : Nat} {l : List In} {MS : List Iv} (h : PL w base (some ⟨gz, 0, none⟩) n c l MS) (i : Nat) (hi : i < n) : I5 w gz 0 i (MS.getD i default) := by
  have hjl : i < MS.length := by have := h.lms; omega
  have hg : MS.getD i default = MS[i] := by simp [List.getD_eq_getElem?_getD, List.getElem?_eq_getElem hjl]
  have f : ∀ q, q < 5 → w.cell? ⟨gz, i * 5 + q, none⟩ = (Iv.cs MS[i])[q]? := fun q hq => by
    rw [h.row.cellAt (i * 5 + q) (by omega), flat5 (MS ++ [mkI (-77), mkI (-78)]) i q (by simp; omega) hq, List.getElem_append_left hjl]
  have f0 := f 0 (by omega)
  rw [Nat.add_zero] at f0
  rw [hg]
  unfold I5
  rw [Nat.zero_add]
  exact ⟨f0, f 1 (by omega), f 2 (by omega), f 3 (by omega), f 4 (by omega)⟩
theorem PL.blk {w : World} {base n c : Nat} {ad : Option Addr} {l : List In} {MS : List Iv} (h : PL w base ad n c l MS) : ∃ gz, ad = some ⟨gz, 0, none⟩ ∧ n + 2 ≤ c ∧ c ≤ maxLen := by
  obtain ⟨a, c', e, h1, h2⟩ := row_shape h.row
  simp only [Value.slice.injEq] at e
  obtain ⟨_, _, rfl⟩ := e
  rcases h.row.2 with ⟨_, e⟩ | ⟨g, cap, cur, e, _⟩
  · omega
  · simp only [Value.slice.injEq] at e; exact ⟨g, e.1, h1, h2⟩
theorem LO.blk {w : World} {base : Nat} {z : Value} {N : Iv} {I : In} (h : LO w base z N I) : ∃ g, N.r1 = some ⟨g, 0, none⟩ ∧ I.R.length + 2 ≤ N.r3 ∧ N.r3 ≤ maxLen := by
  obtain ⟨a, c', e, h1, h2⟩ := row_shape h.rr
  simp only [Value.slice.injEq] at e
  obtain ⟨_, _, rfl⟩ := e
  rcases h.rr.2 with ⟨_, e⟩ | ⟨g, cap, cur, e, _⟩
  · omega
  · simp only [Value.slice.injEq] at e; exact ⟨g, e.1, h1, h2⟩
theorem PL.below {w w' : World} {base n c : Nat} {ad : Option Addr} {l : List In} {MS : List Iv} (h : PL w base ad n c l MS) (hb : Below w.heap.size w w') : PL w' base ad n c l MS :=
  ⟨h.len, h.lms, row_kept h.row (fun b hb' => hb.block b (h.row.lt b hb').2), fun j hj => by
    have hO := h.lo j hj
    exact ⟨hO.op, hO.x, hO.y, hO.a, hO.len, hO.sm, row_kept hO.rr (fun b hb' => hb.block b (hO.rr.lt b hb').2), hO.ne⟩, h.pw⟩
/-- a lent program can be read -/
theorem PL.pi {w : World} {base n c : Nat} {ad : Option Addr} {l : List In} {MS : List Iv} (h : PL w base ad n c l MS) : PI w w.heap.size ad n l := by
  obtain ⟨gz, rfl, _, _⟩ := h.blk
  refine ⟨h.len, fun hp => ⟨gz, 0, fun j => MS.getD j default, rfl, (h.row.lt gz rfl).2, fun i hi => ⟨h.at5 i (by have := h.len; omega), ?_⟩⟩⟩
  have hO := h.lo i hi
  refine ⟨hO.op, hO.x, hO.y, hO.a, hO.len, hO.sm, ?_⟩
  obtain ⟨g, e, _, _⟩ := hO.blk
  have hrr := hO.rr
  rw [e] at hrr
  refine ⟨_, _, by rw [hO.len], ?_⟩
  right
  refine ⟨g, 0, e, (hrr.lt g rfl).2, fun k hk => ?_, fun k hk => ?_⟩
  · rw [Nat.zero_add, hrr.cellAt (k * 2) (by omega), (O2_at (l[i].R ++ M2) k (by simp; omega)).1, List.getElem_append_left hk]
    simp [List.getD_eq_getElem?_getD, List.getElem?_eq_getElem hk]
  · rw [Nat.zero_add, hrr.cellAt (k * 2 + 1) (by omega), (O2_at (l[i].R ++ M2) k (by simp; omega)).2, List.getElem_append_left hk]
    simp [List.getD_eq_getElem?_getD, List.getElem?_eq_getElem hk]
set_option maxRecDepth 100000 in
set_option maxHeartbeats 8000000 in
theorem kept12 {w : World} {ad : Option Addr} {n c : Nat} {l : List In} {MS : List Iv} {s k : Int} {base : Nat} (h : PL w base ad n c l MS) (hn : n * 56 ≤ 140737488351232) :
    Calls Try.prog 12 #[pv ad n c s k] w fun e w' => e = .returned (.bool true) ∧ Below w.heap.size w w' := by
  obtain ⟨gz, rfl, hc1, hc2⟩ := h.blk
  have hb := Joins.below_alloc1 w (.cells #[.slice (some ⟨gz, 0, none⟩) n c, .int .i64 s, .int .i64 k] 24)
  obtain ⟨U, hU⟩ : ∃ U, U = w.alloc (.cells #[.slice (some ⟨gz, 0, none⟩) n c, .int .i64 s, .int .i64 k] 24) := ⟨_, rfl⟩
  rw [← hU] at hb
  have hX : U.heap[w.heap.size]? = some (.cells #[.slice (some ⟨gz, 0, none⟩) n c, .int .i64 s, .int .i64 k] 24 (0, 0)) := by rw [hU]; exact heap_alloc_new w _
  have hP := h.below hb
  have hm := insts_marks MS
  rw [h.lms] at hm
  have m0 : U.cell? ⟨gz, n * 5, none⟩ = some (.int .i64 (-77)) := (hP.row.cellAt (n * 5) (by omega)).trans hm.1
  have m1 : U.cell? ⟨gz, (n + 1) * 5, none⟩ = some (.int .i64 (-78)) := (hP.row.cellAt ((n + 1) * 5) (by omega)).trans hm.2
  have HP := hid hP
  have HB := hid hb
  have HL := hid h.len
  have ad3 : IntKind.i64.wrap ((n : Int) + 2) = (n : Int) + 2 := by simp [IntKind.wrap, IntKind.bits, IntKind.signed]; omega
  have ad4 : IntKind.i64.wrap ((n : Int) + 1) = (n : Int) + 1 := by simp [IntKind.wrap, IntKind.bits, IntKind.signed]; omega
  have hsz : w.heap.size < U.heap.size := (Array.getElem?_eq_some_iff.1 hX).1
  obtain ⟨b, hbe⟩ : ∃ b, b = w.heap.size := ⟨_, rfl⟩
  have u1 : (0 : Int) ≤ (n : Int) + 2 := by omega
  have u2 : (n : Int) + 2 ≤ (c : Int) := by omega
  have u3 : (n : Int) < (n : Int) + 2 := by omega
  have u4 : (n : Int) + 1 < (n : Int) + 2 := by omega
  clear h hb hP hm
  go_enter Try.func12, Try.ntmps12
  go_upto_region 1 with fail
  rw [← hU, ← hbe]
  rw [← hbe] at hX hsz HB
  have HX := hid hX
  have HBE := hid hbe
  obtain ⟨p0, p1, p2⟩ := three_cells hX
  clear hU hbe hX
  go_wp2_with fail
  clear p0 p1 p2 m0 m1 ad3 ad4 u1 u2 u3 u4
  go_loopw [5] (fun y wq => ∃ i : Nat, y = .int .i64 (i : Int) ∧ i ≤ n ∧ Hid (Below U.heap.size U wq)) (fun y _ => n - (intOf y).toNat)
  case atStart => exact ⟨0, rfl, by omega, Below.refl _ _⟩
  case round =>
    obtain ⟨i, rfl, hi, BK⟩ := hrel
    by_cases hil : i < n
    · have b1 : decide ((i : Int) < (n : Int)) = true := by simp; omega
      have b2 : (i : Int) < (n : Int) := by omega
      have b3 : (i : Int) < (n : Int) + 2 := by omega
      have ad1 : IntKind.i64.wrap ((i : Int) + 1) = (i : Int) + 1 := by simp [IntKind.wrap, IntKind.bits, IntKind.signed]; omega
      have hlt : i < l.length := by have := HL.out; omega
      have hPq := HP.out.below BK.out
      have hI5 := hPq.at5 i hil
      have hO := hPq.lo i hlt
      obtain ⟨N, hN⟩ : ∃ N, N = MS.getD i default := ⟨_, rfl⟩
      rw [← hN] at hI5 hO
      obtain ⟨g, e, h1, h2⟩ := hO.blk
      obtain ⟨op, xx, yy, aa, r1, r2, r3⟩ := N
      dsimp only at e h1 h2
      subst e
      have hlen : r2 = l[i].R.length := hO.len
      have hsm : r2 * 16 ≤ 140737488351232 := hO.sm
      have hrr := hO.rr
      dsimp only at hrr
      have hmm := O2_marks l[i].R
      rw [← hlen] at hrr hmm h1
      have q0 : wr.cell? ⟨g, r2 * 2, none⟩ = some (.int .i64 (-77)) := (hrr.cellAt (r2 * 2) (by omega)).trans hmm.1
      have q1 : wr.cell? ⟨g, (r2 + 1) * 2, none⟩ = some (.int .i64 (-78)) := (hrr.cellAt ((r2 + 1) * 2) (by omega)).trans hmm.2
      unfold I5 at hI5
      simp only [Nat.zero_add] at hI5
      obtain ⟨n0, n1, n2, n3, n4⟩ := hI5
      have a1 : IntKind.i64.wrap ((r2 : Int) + 2) = (r2 : Int) + 2 := by simp [IntKind.wrap, IntKind.bits, IntKind.signed]; omega
      have a2 : IntKind.i64.wrap ((r2 : Int) + 1) = (r2 : Int) + 1 := by simp [IntKind.wrap, IntKind.bits, IntKind.signed]; omega
      have u1 : (0 : Int) ≤ (r2 : Int) + 2 := by omega
      have u2 : (r2 : Int) + 2 ≤ (r3 : Int) := by omega
      have u3 : (r2 : Int) < (r2 : Int) + 2 := by omega
      have u4 : (r2 : Int) + 1 < (r2 : Int) + 2 := by omega
      clear hN hO hPq hrr hmm hlen
      go_wp2
      exact ⟨⟨i + 1, by push_cast; rfl, by omega, BK.out⟩, by simp [intOf]; omega⟩
    · have b1 : decide ((i : Int) < (n : Int)) = false := by simp; omega
      go_wp2
      all_goals go_ret
      all_goals refine ⟨rfl, ?_⟩
      rw [← HBE.out]
      exact HB.out.trans (Joins.below_le BK.out (by omega))
end Go.Proofs.Ytnecakampgdhcaa
