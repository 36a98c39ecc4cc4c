/- PROVED: the law PikeRuns of layer 11 answers true for every two programs and every text, place and flag, and they read afterwards as they read before: pike's Run answers what the document's Run answers, the error, the match or none, the captures, the pattern and the steps, for both programs, asked again behind another run, and of the same lists when other things stand in them; what is handed in stays, with the marks behind it; what comes out is its owner's.
   CONDITIONS: none but the form's own (each slice and string at most 2^47 - 4096 bytes). -/
import Derived.Test.YtaoagcnbdfklnaaCp
import Derived.Deep.MidRow
import Derived.Test.YtaoagcnbdfklnaaRc
import Derived.Laws.IdiomCopy
import Derived.Test.YtaoagcnbdfklnaaPe
import Derived.Test.YtaoagcnbdfklnaaLb
import Derived.Test.YtaoagcnbdfklnaaBh
import Derived.Deep.Slices
import Derived.Test.YtaoagcnbdfklnaaCc
import Derived.Laws.StructEq
import Derived.Deep.DrawnRows
import Derived.Test.YtaoagcnbdfklnaaDK
import Derived.Test.YtaoagcnbdfklnaaQd
import Derived.Test.YtaoagcnbdfklnaaPr
import Derived.Test.YtaoagcnbdfklnaaRows
/- HELPERS: a program that is lent: two marks behind each list. -/
namespace Go.Proofs.Ytaoagcnbdfklnaa
open Go.RowKit
set_option linter.unusedVariables false
set_option linter.unusedSimpArgs false
abbrev mkI (k : Int) : Iv := ⟨k, 0, 0, 0, none, 0, 0⟩
/-- an instruction whose ranges, with two marks behind them, lie in a block by themselves, apart from a row -/
structure LO (w : World) (base : Nat) (z : Value) (N : Iv) (I : In) : Prop where
  op : N.op = I.op
  x : N.x = I.x
  y : N.y = I.y
  a : N.a = I.a
  len : N.r2 = I.R.length
  sm : N.r2 * 16 ≤ 140737488351232
  rr : w.ownsRow base 51 2 (.slice N.r1 (I.R.length + 2) N.r3) (I.R.length + 2) (O2 (I.R ++ M2))
  ne : ∀ b, N.rv.ownBlock = some b → z.ownBlock ≠ some b
/-- a program that is lent -/
structure PL (w : World) (base : Nat) (ad : Option Addr) (n c : Nat) (l : List In) (MS : List Iv) : Prop where
  len : n = l.length
  lms : MS.length = n
  row : w.ownsRow base 49 5 (.slice ad (n + 2) c) (n + 2) ((MS ++ [mkI (-77), mkI (-78)]).flatMap Iv.cs)
  lo : ∀ j (hj : j < l.length), LO w base (.slice ad (n + 2) c) (MS.getD j default) l[j]
  pw : ∀ j j' b, j < n → j' < n → j ≠ j' → (MS.getD j default).rv.ownBlock = some b → (MS.getD j' default).rv.ownBlock ≠ some b
theorem RowAt.kept {w w' : World} {N : Nat} {v : Value} {L : List (Int × Int)} (h : RowAt N w v L) (hk : ∀ b, b < N → w'.heap[b]? = w.heap[b]?) : RowAt N w' v L := by
  obtain ⟨ad, cap, e, h1⟩ := h
  refine ⟨ad, cap, e, h1.imp id ?_⟩
  rintro ⟨b, off, e1, h2, h3, h4⟩
  exact ⟨b, off, e1, h2, fun k hk' => (cell_eq (hk b h2) _).trans (h3 k hk'), fun k hk' => (cell_eq (hk b h2) _).trans (h4 k hk')⟩
theorem make49 (c : Nat) (hc : c * 16 ≤ 140737488355328) (w : World) : (Instr.makeSlice 47 (.int .i64 0) (.int .i64 (c : Int))).run Try.prog w = .ok (.slice (some ⟨w.heap.size, 0, none⟩) 0 c) (w.alloc (.cells (madeCells (Value.agg #[.int .i64 0, .int .i64 0]).cells (c * 2)) 51)) := by
  obtain ⟨i0, hi0, hz0, hz1, hz2⟩ := info_parts info49
  have h := run_make (P := Try.prog) w 47 51 i0 (.agg #[.int .i64 0, .int .i64 0]) Try.underlying47 hi0 hz0 .i64 .i64 0 c (by omega) (by omega) (by rw [hz2]; omega) (by omega)
  simp only [Int.toNat_natCast, hz1, Int.toNat_zero] at h
  exact h
theorem made_own49 (c : Nat) (hc : c ≤ maxLen) (base : Nat) (w : World) (hb : base ≤ w.heap.size) : (w.alloc (.cells (madeCells (Value.agg #[.int .i64 0, .int .i64 0]).cells (c * 2)) 51)).ownsRow base 51 2 (.slice (some ⟨w.heap.size, 0, none⟩) 0 c) 0 [] :=
  ⟨rfl, .inr ⟨w.heap.size, c, _, rfl, hb, heap_alloc_new w _, Nat.zero_le _, hc, size_madeCells _ _, by simp⟩⟩
theorem make51 (c : Nat) (hc : c * 56 ≤ 140737488355328) (w : World) : (Instr.makeSlice 25 (.int .i64 0) (.int .i64 (c : Int))).run Try.prog w = .ok (.slice (some ⟨w.heap.size, 0, none⟩) 0 c) (w.alloc (.cells (madeCells Z5.cells (c * 5)) 49)) := by
  obtain ⟨i0, hi0, hz0, hz1, hz2⟩ := info_parts info51
  have h := run_make (P := Try.prog) w 25 49 i0 Z5 Try.underlying25 hi0 hz0 .i64 .i64 0 c (by omega) (by omega) (by rw [hz2]; omega) (by omega)
  simp only [Int.toNat_natCast, hz1, Int.toNat_zero] at h
  exact h
theorem made_own51 (c : Nat) (hc : c ≤ maxLen) (base : Nat) (w : World) (hb : base ≤ w.heap.size) : (w.alloc (.cells (madeCells Z5.cells (c * 5)) 49)).ownsRow base 49 5 (.slice (some ⟨w.heap.size, 0, none⟩) 0 c) 0 [] :=
  ⟨rfl, .inr ⟨w.heap.size, c, _, rfl, hb, heap_alloc_new w _, Nat.zero_le _, hc, size_madeCells _ _, by simp⟩⟩
end Go.Proofs.Ytaoagcnbdfklnaa
/- HELPERS: the marks behind the lists of a program that was lent stand. -/
namespace Go.Proofs.Ytaoagcnbdfklnaa
open Go.RowKit
set_option linter.unusedVariables false
set_option linter.unusedSimpArgs false
theorem O2_marks (R : List (Int × Int)) : (O2 (R ++ M2))[R.length * 2]? = some (.int .i64 (-77)) ∧ (O2 (R ++ M2))[(R.length + 1) * 2]? = some (.int .i64 (-78)) := by
  have h0 := (O2_at (R ++ M2) R.length (by simp)).1
  have h1 := (O2_at (R ++ M2) (R.length + 1) (by simp)).1
  simp at h0 h1
  exact ⟨by simpa using h0, by simpa using h1⟩
theorem insts_marks (MS : List Iv) : ((MS ++ [mkI (-77), mkI (-78)]).flatMap Iv.cs)[MS.length * 5]? = some (.int .i64 (-77)) ∧ ((MS ++ [mkI (-77), mkI (-78)]).flatMap Iv.cs)[(MS.length + 1) * 5]? = some (.int .i64 (-78)) := by
  have h0 := flat5 (MS ++ [mkI (-77), mkI (-78)]) MS.length 0 (by simp) (by omega)
  have h1 := flat5 (MS ++ [mkI (-77), mkI (-78)]) (MS.length + 1) 0 (by simp) (by omega)
  rw [Nat.add_zero] at h0 h1
  rw [h0, h1]
  simp
/-- what is read of the i-th instruction of a lent program -/
theorem PL.at5 {w : World} {base n c gz : Nat} {l : List In} {MS : List Iv} (h : PL w base (some ⟨gz, 0, none⟩) n c l MS) (i : Nat) (hi : i < n) : I5 w gz 0 i (MS.getD i default) := by
  have hjl : i < MS.length := by have := h.lms; omega
  have hg : MS.getD i default = MS[i] := by simp [List.getD_eq_getElem?_getD, List.getElem?_eq_getElem hjl]
  have f : ∀ q, q < 5 → w.cell? ⟨gz, i * 5 + q, none⟩ = (Iv.cs MS[i])[q]? := fun q hq => by
    rw [h.row.cellAt (i * 5 + q) (by omega), flat5 (MS ++ [mkI (-77), mkI (-78)]) i q (by simp; omega) hq, List.getElem_append_left hjl]
  have f0 := f 0 (by omega)
  rw [Nat.add_zero] at f0
  rw [hg]
  unfold I5
  rw [Nat.zero_add]
  exact ⟨f0, f 1 (by omega), f 2 (by omega), f 3 (by omega), f 4 (by omega)⟩
theorem PL.blk {w : World} {base n c : Nat} {ad : Option Addr} {l : List In} {MS : List Iv} (h : PL w base ad n c l MS) : ∃ gz, ad = some ⟨gz, 0, none⟩ ∧ n + 2 ≤ c ∧ c ≤ maxLen := by
  obtain ⟨a, c', e, h1, h2⟩ := row_shape h.row
  simp only [Value.slice.injEq] at e
  obtain ⟨_, _, rfl⟩ := e
  rcases h.row.2 with ⟨_, e⟩ | ⟨g, cap, cur, e, _⟩
  · omega
  · simp only [Value.slice.injEq] at e; exact ⟨g, e.1, h1, h2⟩
theorem LO.blk {w : World} {base : Nat} {z : Value} {N : Iv} {I : In} (h : LO w base z N I) : ∃ g, N.r1 = some ⟨g, 0, none⟩ ∧ I.R.length + 2 ≤ N.r3 ∧ N.r3 ≤ maxLen := by
  obtain ⟨a, c', e, h1, h2⟩ := row_shape h.rr
  simp only [Value.slice.injEq] at e
  obtain ⟨_, _, rfl⟩ := e
  rcases h.rr.2 with ⟨_, e⟩ | ⟨g, cap, cur, e, _⟩
  · omega
  · simp only [Value.slice.injEq] at e; exact ⟨g, e.1, h1, h2⟩
theorem PL.below {w w' : World} {base n c : Nat} {ad : Option Addr} {l : List In} {MS : List Iv} (h : PL w base ad n c l MS) (hb : Below w.heap.size w w') : PL w' base ad n c l MS :=
  ⟨h.len, h.lms, row_kept h.row (fun b hb' => hb.block b (h.row.lt b hb').2), fun j hj => by
    have hO := h.lo j hj
    exact ⟨hO.op, hO.x, hO.y, hO.a, hO.len, hO.sm, row_kept hO.rr (fun b hb' => hb.block b (hO.rr.lt b hb').2), hO.ne⟩, h.pw⟩
/-- a lent program can be read -/
theorem PL.pi {w : World} {base n c : Nat} {ad : Option Addr} {l : List In} {MS : List Iv} (h : PL w base ad n c l MS) : PI w w.heap.size ad n l := by
  obtain ⟨gz, rfl, _, _⟩ := h.blk
  refine ⟨h.len, fun hp => ⟨gz, 0, fun j => MS.getD j default, rfl, (h.row.lt gz rfl).2, fun i hi => ⟨h.at5 i (by have := h.len; omega), ?_⟩⟩⟩
  have hO := h.lo i hi
  refine ⟨hO.op, hO.x, hO.y, hO.a, hO.len, hO.sm, ?_⟩
  obtain ⟨g, e, _, _⟩ := hO.blk
  have hrr := hO.rr
  rw [e] at hrr
  refine ⟨_, _, by rw [hO.len], ?_⟩
  right
  refine ⟨g, 0, e, (hrr.lt g rfl).2, fun k hk => ?_, fun k hk => ?_⟩
  · rw [Nat.zero_add, hrr.cellAt (k * 2) (by omega), (O2_at (l[i].R ++ M2) k (by simp; omega)).1, List.getElem_append_left hk]
    simp [List.getD_eq_getElem?_getD, List.getElem?_eq_getElem hk]
  · rw [Nat.zero_add, hrr.cellAt (k * 2 + 1) (by omega), (O2_at (l[i].R ++ M2) k (by simp; omega)).2, List.getElem_append_left hk]
    simp [List.getD_eq_getElem?_getD, List.getElem?_eq_getElem hk]
set_option maxRecDepth 100000 in
set_option maxHeartbeats 8000000 in
theorem kept12 {w : World} {ad : Option Addr} {n c : Nat} {l : List In} {MS : List Iv} {s k : Int} {base : Nat} (h : PL w base ad n c l MS) (hn : n * 56 ≤ 140737488351232) :
    Calls Try.prog 12 #[pv ad n c s k] w fun e w' => e = .returned (.bool true) ∧ Below w.heap.size w w' := by
  obtain ⟨gz, rfl, hc1, hc2⟩ := h.blk
  have hb := Joins.below_alloc1 w (.cells #[.slice (some ⟨gz, 0, none⟩) n c, .int .i64 s, .int .i64 k] 27)
  obtain ⟨U, hU⟩ : ∃ U, U = w.alloc (.cells #[.slice (some ⟨gz, 0, none⟩) n c, .int .i64 s, .int .i64 k] 27) := ⟨_, rfl⟩
  rw [← hU] at hb
  have hX : U.heap[w.heap.size]? = some (.cells #[.slice (some ⟨gz, 0, none⟩) n c, .int .i64 s, .int .i64 k] 27 (0, 0)) := by rw [hU]; exact heap_alloc_new w _
  have hP := h.below hb
  have hm := insts_marks MS
  rw [h.lms] at hm
  have m0 : U.cell? ⟨gz, n * 5, none⟩ = some (.int .i64 (-77)) := (hP.row.cellAt (n * 5) (by omega)).trans hm.1
  have m1 : U.cell? ⟨gz, (n + 1) * 5, none⟩ = some (.int .i64 (-78)) := (hP.row.cellAt ((n + 1) * 5) (by omega)).trans hm.2
  have HP := hid hP
  have HB := hid hb
  have HL := hid h.len
  have ad3 : IntKind.i64.wrap ((n : Int) + 2) = (n : Int) + 2 := by simp [IntKind.wrap, IntKind.bits, IntKind.signed]; omega
  have ad4 : IntKind.i64.wrap ((n : Int) + 1) = (n : Int) + 1 := by simp [IntKind.wrap, IntKind.bits, IntKind.signed]; omega
  have hsz : w.heap.size < U.heap.size := (Array.getElem?_eq_some_iff.1 hX).1
  obtain ⟨b, hbe⟩ : ∃ b, b = w.heap.size := ⟨_, rfl⟩
  have u1 : (0 : Int) ≤ (n : Int) + 2 := by omega
  have u2 : (n : Int) + 2 ≤ (c : Int) := by omega
  have u3 : (n : Int) < (n : Int) + 2 := by omega
  have u4 : (n : Int) + 1 < (n : Int) + 2 := by omega
  clear h hb hP hm
  go_enter Try.func12, Try.ntmps12
  go_upto_region 1 with fail
  rw [← hU, ← hbe]
  rw [← hbe] at hX hsz HB
  have HX := hid hX
  have HBE := hid hbe
  obtain ⟨p0, p1, p2⟩ := three_cells hX
  clear hU hbe hX
  go_wp2_with fail
  clear p0 p1 p2 m0 m1 ad3 ad4 u1 u2 u3 u4
  go_loopw [5] (fun y wq => ∃ i : Nat, y = .int .i64 (i : Int) ∧ i ≤ n ∧ Hid (Below U.heap.size U wq)) (fun y _ => n - (intOf y).toNat)
  case atStart => exact ⟨0, rfl, by omega, Below.refl _ _⟩
  case round =>
    obtain ⟨i, rfl, hi, BK⟩ := hrel
    by_cases hil : i < n
    · have b1 : decide ((i : Int) < (n : Int)) = true := by simp; omega
      have b2 : (i : Int) < (n : Int) := by omega
      have b3 : (i : Int) < (n : Int) + 2 := by omega
      have ad1 : IntKind.i64.wrap ((i : Int) + 1) = (i : Int) + 1 := by simp [IntKind.wrap, IntKind.bits, IntKind.signed]; omega
      have hlt : i < l.length := by have := HL.out; omega
      have hPq := HP.out.below BK.out
      have hI5 := hPq.at5 i hil
      have hO := hPq.lo i hlt
      obtain ⟨N, hN⟩ : ∃ N, N = MS.getD i default := ⟨_, rfl⟩
      rw [← hN] at hI5 hO
      obtain ⟨g, e, h1, h2⟩ := hO.blk
      obtain ⟨op, xx, yy, aa, r1, r2, r3⟩ := N
      dsimp only at e h1 h2
      subst e
      have hlen : r2 = l[i].R.length := hO.len
      have hsm : r2 * 16 ≤ 140737488351232 := hO.sm
      have hrr := hO.rr
      dsimp only at hrr
      have hmm := O2_marks l[i].R
      rw [← hlen] at hrr hmm h1
      have q0 : wr.cell? ⟨g, r2 * 2, none⟩ = some (.int .i64 (-77)) := (hrr.cellAt (r2 * 2) (by omega)).trans hmm.1
      have q1 : wr.cell? ⟨g, (r2 + 1) * 2, none⟩ = some (.int .i64 (-78)) := (hrr.cellAt ((r2 + 1) * 2) (by omega)).trans hmm.2
      unfold I5 at hI5
      simp only [Nat.zero_add] at hI5
      obtain ⟨n0, n1, n2, n3, n4⟩ := hI5
      have a1 : IntKind.i64.wrap ((r2 : Int) + 2) = (r2 : Int) + 2 := by simp [IntKind.wrap, IntKind.bits, IntKind.signed]; omega
      have a2 : IntKind.i64.wrap ((r2 : Int) + 1) = (r2 : Int) + 1 := by simp [IntKind.wrap, IntKind.bits, IntKind.signed]; omega
      have u1 : (0 : Int) ≤ (r2 : Int) + 2 := by omega
      have u2 : (r2 : Int) + 2 ≤ (r3 : Int) := by omega
      have u3 : (r2 : Int) < (r2 : Int) + 2 := by omega
      have u4 : (r2 : Int) + 1 < (r2 : Int) + 2 := by omega
      clear hN hO hPq hrr hmm hlen
      go_wp2
      exact ⟨⟨i + 1, by push_cast; rfl, by omega, BK.out⟩, by simp [intOf]; omega⟩
    · have b1 : decide ((i : Int) < (n : Int)) = false := by simp; omega
      go_wp2
      all_goals go_ret
      all_goals refine ⟨rfl, ?_⟩
      rw [← HBE.out]
      exact HB.out.trans (Joins.below_le BK.out (by omega))
end Go.Proofs.Ytaoagcnbdfklnaa
/- HELPERS: a program that was lent, with other things in the same lists. -/
namespace Go.Proofs.Ytaoagcnbdfklnaa
open Go.RowKit
set_option linter.unusedVariables false
set_option linter.unusedSimpArgs false
theorem LO.kept {w w' : World} {base : Nat} {z : Value} {N : Iv} {I : In} (h : LO w base z N I) (hk : ∀ b, N.rv.ownBlock = some b → w'.heap[b]? = w.heap[b]?) : LO w' base z N I :=
  ⟨h.op, h.x, h.y, h.a, h.len, h.sm, row_kept h.rr (fun b hb => hk b ((ob_len _ _ _ _ _).trans hb)), h.ne⟩
theorem O2_set : ∀ (L : List (Int × Int)) (i : Nat) (x y : Int), ((O2 L).set (i * 2) (.int .i64 x)).set (i * 2 + 1) (.int .i64 y) = O2 (L.set i (x, y)) := by
  intro L
  induction L with
  | nil => intro i x y; simp [O2]
  | cons a L ih =>
    intro i x y
    cases i with
    | zero => simp [O2]
    | succ i =>
      have h := ih i x y
      have e : O2 (a :: L) = .int .i64 a.1 :: .int .i64 a.2 :: O2 L := by simp [O2]
      have e2 : O2 ((a :: L).set (i + 1) (x, y)) = .int .i64 a.1 :: .int .i64 a.2 :: O2 (L.set i (x, y)) := by simp [O2]
      rw [e, e2, ← h, show (i + 1) * 2 = i * 2 + 1 + 1 by omega]
      simp
theorem flat5_xy : ∀ (L : List Iv) (i : Nat) (x y : Int) (hi : i < L.length), ((L.flatMap Iv.cs).set (i * 5 + 1) (.int .i64 x)).set (i * 5 + 2) (.int .i64 y) = (L.set i { L[i] with x := x, y := y }).flatMap Iv.cs := by
  intro L
  induction L with
  | nil => intro i x y h; simp at h
  | cons a L ih =>
    intro i x y h
    cases i with
    | zero => simp [List.flatMap_cons, Iv.cs]
    | succ i =>
      have h1 := ih i x y (by simpa using h)
      have hl : (Iv.cs a).length = 5 := rfl
      rw [List.set_cons_succ, List.flatMap_cons, List.flatMap_cons, List.getElem_cons_succ, ← h1]
      rw [List.set_append_right _ _ (by omega), List.set_append_right _ _ (by omega), hl, show (i + 1) * 5 + 1 - 5 = i * 5 + 1 by omega, show (i + 1) * 5 + 2 - 5 = i * 5 + 2 by omega]
/-- one pair of an instruction's ranges is written -/
theorem PL.setR {w : World} {base n c gz g r3 : Nat} {l : List In} {MS : List Iv} {op x y a : Int} {r2 : Nat} (h : PL w base (some ⟨gz, 0, none⟩) n c l MS) (i : Nat) (hi : i < n) (hN : MS.getD i default = ⟨op, x, y, a, some ⟨g, 0, none⟩, r2, r3⟩) (k : Nat) (hk : k < r2) (p q : Int) :
    ∃ l', PL ((w.setCell ⟨g, k * 2, none⟩ (.int .i64 p)).setCell ⟨g, k * 2 + 1, none⟩ (.int .i64 q)) base (some ⟨gz, 0, none⟩) n c l' MS := by
  have hl := h.len
  have hil : i < l.length := by omega
  have hO := h.lo i hil
  rw [hN] at hO
  have hne : gz ≠ g := fun e => hO.ne g rfl (by rw [e]; rfl)
  have hkeep : ∀ b, b ≠ g → ((w.setCell ⟨g, k * 2, none⟩ (.int .i64 p)).setCell ⟨g, k * 2 + 1, none⟩ (.int .i64 q)).heap[b]? = w.heap[b]? := fun b hb => (Below.heap_setCell _ _ _ _ hb).trans (Below.heap_setCell _ _ _ _ hb)
  have hlen : r2 = l[i].R.length := hO.len
  refine ⟨l.set i { l[i] with R := l[i].R.set k (p, q) }, by simpa using hl, h.lms, row_kept h.row (fun b hb => hkeep b (by cases hb; exact hne)), fun j hj => ?_, h.pw⟩
  have hjl : j < l.length := by simpa using hj
  by_cases e : i = j
  · subst e
    rw [hN, List.getElem_set_self]
    refine ⟨hO.op, hO.x, hO.y, hO.a, by simpa using hlen, hO.sm, ?_, hO.ne⟩
    have h1 := row_setC (row_setC hO.rr (k * 2) (.int .i64 p)) (k * 2 + 1) (.int .i64 q)
    rw [O2_set, List.set_append_left _ _ (by omega)] at h1
    simpa using h1
  · rw [List.getElem_set_ne e]
    refine (h.lo j hjl).kept (fun b hb => hkeep b (fun eb => ?_))
    subst eb
    exact h.pw j i b (by omega) hi (fun e' => e e'.symm) hb (by rw [hN]; rfl)
/-- one instruction's two targets are turned -/
theorem PL.swap {w : World} {base n c gz : Nat} {l : List In} {MS : List Iv} {op x y a : Int} {r1 : Option Addr} {r2 r3 : Nat} (h : PL w base (some ⟨gz, 0, none⟩) n c l MS) (i : Nat) (hi : i < n) (hN : MS.getD i default = ⟨op, x, y, a, r1, r2, r3⟩) :
    ∃ l', PL ((w.setCell ⟨gz, i * 5 + 1, none⟩ (.int .i64 y)).setCell ⟨gz, i * 5 + 2, none⟩ (.int .i64 x)) base (some ⟨gz, 0, none⟩) n c l' (MS.set i ⟨op, y, x, a, r1, r2, r3⟩) := by
  have hl := h.len
  have hm := h.lms
  have hil : i < l.length := by omega
  have him : i < MS.length := by omega
  have hNi : MS[i] = ⟨op, x, y, a, r1, r2, r3⟩ := by rw [← hN]; simp [List.getD_eq_getElem?_getD, him]
  have hkeep : ∀ b, b ≠ gz → ((w.setCell ⟨gz, i * 5 + 1, none⟩ (.int .i64 y)).setCell ⟨gz, i * 5 + 2, none⟩ (.int .i64 x)).heap[b]? = w.heap[b]? := fun b hb => (Below.heap_setCell _ _ _ _ hb).trans (Below.heap_setCell _ _ _ _ hb)
  have hget : ∀ j, (MS.set i ⟨op, y, x, a, r1, r2, r3⟩).getD j default = if j = i then ⟨op, y, x, a, r1, r2, r3⟩ else MS.getD j default := fun j => by
    by_cases e : j = i
    · subst e; rw [if_pos rfl]; simp [List.getD_eq_getElem?_getD, him]
    · rw [if_neg e]; simp [List.getD_eq_getElem?_getD, List.getElem?_set_ne (fun e' => e e'.symm)]
  have hrv : ∀ j, ((MS.set i ⟨op, y, x, a, r1, r2, r3⟩).getD j default).rv = (MS.getD j default).rv := fun j => by
    rw [hget]
    by_cases e : j = i
    · rw [if_pos e, e, hN]
    · rw [if_neg e]
  have h1 := row_setC (row_setC h.row (i * 5 + 1) (.int .i64 y)) (i * 5 + 2) (.int .i64 x)
  rw [flat5_xy _ i y x (by simp; omega), List.set_append_left _ _ (by omega), List.getElem_append_left him, hNi] at h1
  refine ⟨l.set i { l[i] with x := l[i].y, y := l[i].x }, by simpa using hl, by simpa using hm, h1, fun j hj => ?_, fun j j' b hj hj' hne e1 e2 => ?_⟩
  · have hjl : j < l.length := by simpa using hj
    rw [hget]
    by_cases e : i = j
    · subst e
      have hO := h.lo i hil
      rw [hN] at hO
      rw [if_pos rfl, List.getElem_set_self]
      exact ⟨hO.op, hO.y, hO.x, hO.a, hO.len, hO.sm, row_kept hO.rr (fun b hb => hkeep b (fun eb => hO.ne b ((ob_len _ _ _ _ _).symm.trans hb) (by rw [eb]; rfl))), hO.ne⟩
    · rw [if_neg (fun e' => e e'.symm), List.getElem_set_ne e]
      exact (h.lo j hjl).kept (fun b hb => hkeep b (fun eb => (h.lo j hjl).ne b hb (by rw [eb]; rfl)))
  · rw [hrv] at e1 e2
    exact h.pw j j' b hj hj' hne e1 e2
theorem size49 : (Try.prog.info? 51).map (·.size) = some 2 := by kernel_rfl
theorem store49 {ops : Array Oper} {rest : List Oper} {op : Oper} {a : Act} {w : World} {Q : Exit → Act → World → Prop} (hgd : op.guard = none) (x y : Operand) (ho : op.op = .store 51 x y)
    (b i : Nat) (p q : Int) (hx : a.eval x = .pointer (some ⟨b, i * 2, none⟩)) (hy : a.eval y = .agg #[.int .i64 p, .int .i64 q]) (ht : w.there b (i * 2) 2)
    (h : wpList Try.prog ops Q rest (a.put op.dst undef) ((w.setCell ⟨b, i * 2, none⟩ (.int .i64 p)).setCell ⟨b, i * 2 + 1, none⟩ (.int .i64 q))) : wpList Try.prog ops Q (op :: rest) a w :=
  wpList_store_mid hgd 51 x y ho b (i * 2) #[.int .i64 p, .int .i64 q] hx hy ht size49 (by simp [Value.oneCell']) h
end Go.Proofs.Ytaoagcnbdfklnaa
/- HELPERS: ranges copied. -/
namespace Go.Proofs.Ytaoagcnbdfklnaa
open Go.RowKit Go.Lk
set_option linter.unusedVariables false
set_option linter.unusedSimpArgs false
theorem run_copy_two (w : World) (dT sT ty elem : TypeId) (b o dLen dCap : Nat) (a : Addr) (sLen sCap : Nat) (cs : List Value)
    (hu : Try.prog.underlying dT = some (.slice elem)) (hs : (Try.prog.info? elem).map (·.size) = some 2) (hn : cs.length = Nat.min sLen dLen * 2)
    (hsrc : ∀ j v, cs[j]? = some v → w.cell? (a.add j) = some v) (hc : ∀ j, j < cs.length → (w.cell? ⟨b, o + j, none⟩).isSome = true) (hf : ∀ j, j < cs.length → w.frozen? ⟨b, o + j, none⟩ = false) (h1 : ∀ v ∈ cs, v.oneCell' = true) :
    (Builtin.copy_ #[dT, sT] ty #[.slice (some ⟨b, o, none⟩) dLen dCap, .slice (some a) sLen sCap]).run Try.prog w = .ok (goInt (Nat.min sLen dLen)) (w.setCells b o cs) := by
  have hl := run_loadCells_list (P := Try.prog) w a cs hsrc
  have hst := run_storeCells_cells (P := Try.prog) b o cs 0 w (by simpa using hc) (by simpa using hf) h1
  cases hq : Try.prog.info? elem with
  | none => simp [hq] at hs
  | some i =>
    have hi : i.size = 2 := by simpa [hq] using hs
    rw [hn] at hl
    simp [Builtin.copy_, run_underlying hu, Builtin.lenOf, Builtin.firstCells, sizeOf, typeInfo, hq, hi, hl]
    have hst' : Sem.run Try.prog (storeCells { block := b, off := o } cs) w = Result.ok () (w.setCells b o cs) := by simpa using hst
    rw [hst']
    rfl
theorem run_copy_two0 (w : World) (dT sT ty elem : TypeId) (d a : Option Addr) (dLen dCap sLen sCap : Nat) (hu : Try.prog.underlying dT = some (.slice elem)) (hs : (Try.prog.info? elem).map (·.size) = some 2) (hn : Nat.min sLen dLen = 0) :
    (Builtin.copy_ #[dT, sT] ty #[.slice d dLen dCap, .slice a sLen sCap]).run Try.prog w = .ok (goInt 0) w := by
  cases hq : Try.prog.info? elem with
  | none => simp [hq] at hs
  | some i =>
    have hl : ∀ (x : Addr), (loadCells x 0).run Try.prog w = .ok #[] w := fun x => by simpa using run_loadCells_list (P := Try.prog) w x [] (by simp)
    cases d <;> cases a <;> simp [Builtin.copy_, run_underlying hu, Builtin.lenOf, Builtin.firstCells, sizeOf, typeInfo, hq, hn, storeCells, hl]
theorem makeR (c : Nat) (hc : c * 16 ≤ 140737488355328) (w : World) : (Instr.makeSlice 47 (.int .i64 (c : Int)) (.int .i64 (c : Int))).run Try.prog w = .ok (.slice (some ⟨w.heap.size, 0, none⟩) c c) (w.alloc (.cells (madeCells (Value.agg #[.int .i64 0, .int .i64 0]).cells (c * 2)) 51)) := by
  obtain ⟨i0, hi0, hz0, hz1, hz2⟩ := info_parts info49
  have h := run_make (P := Try.prog) w 47 51 i0 (.agg #[.int .i64 0, .int .i64 0]) Try.underlying47 hi0 hz0 .i64 .i64 c c (by omega) (by omega) (by rw [hz2]; omega) (by omega)
  simp only [Int.toNat_natCast, hz1] at h
  exact h
theorem makeI (c : Nat) (hc : c * 56 ≤ 140737488355328) (w : World) : (Instr.makeSlice 25 (.int .i64 (c : Int)) (.int .i64 (c : Int))).run Try.prog w = .ok (.slice (some ⟨w.heap.size, 0, none⟩) c c) (w.alloc (.cells (madeCells Z5.cells (c * 5)) 49)) := by
  obtain ⟨i0, hi0, hz0, hz1, hz2⟩ := info_parts info51
  have h := run_make (P := Try.prog) w 25 49 i0 Z5 Try.underlying25 hi0 hz0 .i64 .i64 c c (by omega) (by omega) (by rw [hz2]; omega) (by omega)
  simp only [Int.toNat_natCast, hz1] at h
  exact h
theorem made_rep (z : Array Value) (hz : 0 < z.size) : ∀ c : Nat, (madeCells z (c * z.size)).toList = (List.replicate c z.toList).flatten := by
  intro c
  apply List.ext_getElem?
  intro i
  have key : ∀ (c i : Nat), i < c * z.size → (List.replicate c z.toList).flatten[i]? = z[i % z.size]? := by
    intro c
    induction c with
    | zero => intro i h; simp at h
    | succ c ih =>
      intro i h
      rw [List.replicate_succ, List.flatten_cons]
      by_cases hi : i < z.size
      · rw [List.getElem?_append_left (by simpa using hi), Nat.mod_eq_of_lt hi]; simp
      · rw [List.getElem?_append_right (by simpa using Nat.le_of_not_lt hi)]
        have h2 : i - z.size < c * z.size := by rw [Nat.add_mul] at h; omega
        have := ih (i - z.size) h2
        rw [show i - z.toList.length = i - z.size by simp, this]
        rw [← Nat.mod_eq_sub_mod (by omega)]
  by_cases hi : i < c * z.size
  · rw [key c i hi]
    have hm : i % z.size < z.size := Nat.mod_lt _ hz
    simp [madeCells, hi, hm]
  · rw [List.getElem?_eq_none (by simp [madeCells]; omega), List.getElem?_eq_none (by simp; omega)]
theorem made_rowI (c N : Nat) (w : World) (hN : N ≤ w.heap.size) (hc : c ≤ maxLen) : (w.alloc (.cells (madeCells Z5.cells (c * 5)) 49)).ownsRow N 49 5 (.slice (some ⟨w.heap.size, 0, none⟩) c c) c ((List.replicate c (mkI 0)).flatMap Iv.cs) := by
  have h := World.ownsRow_lit (base := N) (e := 49) (size := 5) w (madeCells Z5.cells (c * 5)) c hN hc (by rw [size_madeCells])
  have e := made_rep Z5.cells (by decide) c
  rw [show Z5.cells.size = 5 from rfl] at e
  rw [e] at h
  have e2 : (List.replicate c Z5.cells.toList).flatten = (List.replicate c (mkI 0)).flatMap Iv.cs := by
    rw [List.flatMap_def, List.map_replicate]; rfl
  rw [e2] at h
  exact h
theorem made_rowR (c N : Nat) (w : World) (hN : N ≤ w.heap.size) (hc : c ≤ maxLen) : (w.alloc (.cells (madeCells (Value.agg #[.int .i64 0, .int .i64 0]).cells (c * 2)) 51)).ownsRow N 51 2 (.slice (some ⟨w.heap.size, 0, none⟩) c c) c (O2 (List.replicate c (0, 0))) := by
  have h := World.ownsRow_lit (base := N) (e := 51) (size := 2) w (madeCells (Value.agg #[.int .i64 0, .int .i64 0]).cells (c * 2)) c hN hc (by rw [size_madeCells])
  have e := made_rep (Value.agg #[.int .i64 0, .int .i64 0]).cells (by decide) c
  rw [show (Value.agg #[.int .i64 0, .int .i64 0]).cells.size = 2 from rfl] at e
  rw [e] at h
  have e2 : (List.replicate c (Value.agg #[.int .i64 0, .int .i64 0]).cells.toList).flatten = O2 (List.replicate c (0, 0)) := by
    unfold O2
    rw [List.flatMap_def, List.map_replicate]; rfl
  rw [e2] at h
  exact h
end Go.Proofs.Ytaoagcnbdfklnaa
/- HELPERS: a list of ranges lent. -/
namespace Go.Proofs.Ytaoagcnbdfklnaa
open Go.RowKit Go.Lk
set_option linter.unusedVariables false
set_option linter.unusedSimpArgs false
theorem copy_src {W : World} {lb lof : Nat} {R : List (Int × Int)} (h0 : ∀ k, k < R.length → W.cell? ⟨lb, lof + k * 2, none⟩ = some (.int .i64 (R.getD k (0, 0)).1)) (h1 : ∀ k, k < R.length → W.cell? ⟨lb, lof + (k * 2 + 1), none⟩ = some (.int .i64 (R.getD k (0, 0)).2)) : ∀ j v, (O2 R)[j]? = some v → W.cell? ((⟨lb, lof, none⟩ : Addr).add j) = some v := by
  intro j v hj
  have hjl := (List.getElem?_eq_some_iff.1 hj).1
  rw [O2_len] at hjl
  rw [Addr.add_mid, ← hj]
  by_cases e : j % 2 = 0
  · obtain ⟨k, rfl⟩ : ∃ k, j = k * 2 := ⟨j / 2, by omega⟩
    have hk : k < R.length := by omega
    rw [(O2_at R k hk).1, h0 k hk]
    simp [List.getD_eq_getElem?_getD, hk]
  · obtain ⟨k, rfl⟩ : ∃ k, j = k * 2 + 1 := ⟨j / 2, by omega⟩
    have hk : k < R.length := by omega
    rw [(O2_at R k hk).2, h1 k hk]
    simp [List.getD_eq_getElem?_getD, hk]
theorem O2_app (a b : List (Int × Int)) : O2 (a ++ b) = O2 a ++ O2 b := by simp [O2]
theorem copyR {W : World} {N B gr m r3 : Nat} {r1 : Option Addr} {R : List (Int × Int)} (hm : m = R.length) (hrow : W.ownsRow N 51 2 (.slice (some ⟨gr, 0, none⟩) (m + 2) (m + 2)) (m + 2) (O2 (List.replicate (m + 2) (0, 0)))) (hs : RowAt B W (.slice r1 m r3) R) :
    ∃ W', (Builtin.copy_ #[47, 47] 3 #[.slice (some ⟨gr, 0, none⟩) (m + 2) (m + 2), .slice r1 m r3]).run Try.prog W = .ok (.int .i64 (m : Int)) W' ∧ W'.ownsRow N 51 2 (.slice (some ⟨gr, 0, none⟩) (m + 2) (m + 2)) (m + 2) (O2 (R ++ [(0, 0), (0, 0)])) ∧ (∀ k, k ≠ gr → W'.heap[k]? = W.heap[k]?) ∧ W'.heap.size = W.heap.size ∧ W'.os = W.os ∧ W'.tape = W.tape ∧ W'.output = W.output := by
  obtain ⟨ad', cap', he, h0 | ⟨lb, lof, hr1, hlb, hc0, hc1⟩⟩ := hs
  · have hR : R = [] := List.length_eq_zero_iff.1 h0
    subst hR
    have hm0 : m = 0 := hm
    subst hm0
    refine ⟨W, ?_, by simpa using hrow, fun _ _ => rfl, rfl, rfl, rfl, rfl⟩
    have := run_copy_two0 W 47 47 3 51 (some ⟨gr, 0, none⟩) r1 (0 + 2) (0 + 2) 0 r3 Try.underlying47 size49 (by simp)
    simpa [goInt] using this
  · simp only [Value.slice.injEq] at he
    obtain ⟨e1, e2, e3⟩ := he
    rw [hr1] at e1
    subst e1
    have hl : (O2 R).length = m * 2 := by rw [O2_len, hm]
    have hrun := run_copy_two W 47 47 3 51 gr 0 (m + 2) (m + 2) ⟨lb, lof, none⟩ m r3 (O2 R) Try.underlying47 size49 (by rw [hl]; simp) (copy_src (fun k hk => hc0 k hk) (fun k hk => hc1 k hk)) (fun j hj => by
      rw [Nat.zero_add, hrow.cellAt j (by omega), List.getElem?_eq_getElem (by rw [O2_len]; simp; omega)]; rfl) (fun j hj => by rw [Nat.zero_add]; exact hrow.frozenAt j) (fun v hv => by
      simp only [O2, List.mem_flatMap, List.mem_cons, List.not_mem_nil, or_false] at hv
      obtain ⟨x, _, rfl | rfl⟩ := hv <;> rfl)
    refine ⟨W.setCells gr 0 (O2 R), by simpa [goInt] using hrun, ?_, fun k hk => setCells_old gr _ _ _ k hk, setCells_size gr _ _ _, ?_, ?_, ?_⟩
    · have h1 := row_setCells (O2 R) 0 W _ hrow (by rw [O2_len, O2_len]; simp; omega)
      rw [Nat.zero_add, List.take_zero, List.nil_append, hl, show List.replicate (m + 2) ((0 : Int), (0 : Int)) = List.replicate m (0, 0) ++ [(0, 0), (0, 0)] by rw [show m + 2 = m + 1 + 1 from rfl, List.replicate_succ', List.replicate_succ', List.append_assoc]; rfl, O2_app, List.drop_left' (by rw [O2_len]; simp), ← O2_app] at h1
      exact h1
    · exact (Below.setCells (B := 0) (Nat.zero_le _) (O2 R) 0 W W (Below.refl _ _)).os
    · exact (Below.setCells (B := 0) (Nat.zero_le _) (O2 R) 0 W W (Below.refl _ _)).tape
    · exact (Below.setCells (B := 0) (Nat.zero_le _) (O2 R) 0 W W (Below.refl _ _)).output
/-- the two marks are laid -/
theorem marksR {W : World} {N gr m : Nat} {R : List (Int × Int)} (hm : m = R.length) (hrow : W.ownsRow N 51 2 (.slice (some ⟨gr, 0, none⟩) (m + 2) (m + 2)) (m + 2) (O2 (R ++ [(0, 0), (0, 0)]))) :
    ((((W.setCell ⟨gr, m * 2, none⟩ (.int .i64 (-77))).setCell ⟨gr, m * 2 + 1, none⟩ (.int .i64 0)).setCell ⟨gr, (m + 1) * 2, none⟩ (.int .i64 (-78))).setCell ⟨gr, (m + 1) * 2 + 1, none⟩ (.int .i64 0)).ownsRow N 51 2 (.slice (some ⟨gr, 0, none⟩) (m + 2) (m + 2)) (m + 2) (O2 (R ++ M2)) := by
  have h1 := row_setC (row_setC hrow (m * 2) (.int .i64 (-77))) (m * 2 + 1) (.int .i64 0)
  rw [O2_set] at h1
  have h2 := row_setC (row_setC h1 ((m + 1) * 2) (.int .i64 (-78))) ((m + 1) * 2 + 1) (.int .i64 0)
  rw [O2_set] at h2
  have e : ((R ++ [(0, 0), (0, 0)]).set m (-77, 0)).set (m + 1) (-78, 0) = R ++ M2 := by
    subst hm
    rw [List.set_append_right _ _ (Nat.le_refl _), List.set_append_right _ _ (by omega)]
    simp
  rw [e] at h2
  exact h2
end Go.Proofs.Ytaoagcnbdfklnaa
/- HELPERS: a program that is lent. -/
namespace Go.Proofs.Ytaoagcnbdfklnaa
open Go.RowKit Go.Lk
set_option linter.unusedVariables false
set_option linter.unusedSimpArgs false
theorem size5 : (Try.prog.info? 49).map (·.size) = some 5 := by kernel_rfl
theorem store5 {ops : Array Oper} {rest : List Oper} {op : Oper} {a : Act} {w : World} {Q : Exit → Act → World → Prop} (hgd : op.guard = none) (x y : Operand) (ho : op.op = .store 49 x y)
    (b i : Nat) (N : Iv) (hx : a.eval x = .pointer (some ⟨b, i * 5, none⟩)) (hy : a.eval y = .agg #[.int .i64 N.op, .int .i64 N.x, .int .i64 N.y, .int .i64 N.a, .slice N.r1 N.r2 N.r3]) (ht : w.there b (i * 5) 5)
    (h : wpList Try.prog ops Q rest (a.put op.dst undef) (w.setCells b (i * 5) (Iv.cs N))) : wpList Try.prog ops Q (op :: rest) a w :=
  wpList_store_mid hgd 49 x y ho b (i * 5) #[.int .i64 N.op, .int .i64 N.x, .int .i64 N.y, .int .i64 N.a, .slice N.r1 N.r2 N.r3] hx hy ht size5 (by simp [Value.oneCell']) h
theorem flat5_set : ∀ (L : List Iv) (i : Nat) (M : Iv), i < L.length → (L.flatMap Iv.cs).take (i * 5) ++ Iv.cs M ++ (L.flatMap Iv.cs).drop (i * 5 + (Iv.cs M).length) = (L.set i M).flatMap Iv.cs := by
  intro L
  induction L with
  | nil => intro i M h; simp at h
  | cons a L ih =>
    intro i M h
    cases i with
    | zero => simp [List.flatMap_cons]
    | succ i =>
      have h1 := ih i M (by simpa using h)
      rw [List.set_cons_succ, List.flatMap_cons, List.flatMap_cons, ← h1]
      rw [show (i + 1) * 5 = (Iv.cs a).length + i * 5 by simp; omega, List.take_length_add_append, show (Iv.cs a).length + i * 5 + (Iv.cs M).length = (Iv.cs a).length + (i * 5 + (Iv.cs M).length) by omega, List.drop_length_add_append]
      simp
theorem getD_snoc (MS : List Iv) (N : Iv) (j : Nat) : (MS ++ [N]).getD j default = if j < MS.length then MS.getD j default else if j = MS.length then N else default := by
  by_cases h : j < MS.length
  · rw [if_pos h]; simp [List.getD_eq_getElem?_getD, List.getElem?_append_left h]
  · rw [if_neg h]
    by_cases e : j = MS.length
    · rw [if_pos e, e]; simp [List.getD_eq_getElem?_getD]
    · rw [if_neg e]; simp only [List.getD_eq_getElem?_getD]; rw [List.getElem?_eq_none (by simp; omega)]; rfl
/-- a round of Lent -/
theorem lent_step {wr V5 : World} {x gz gr n i : Nat} {l : List In} {MS : List Iv} {N' : Iv} (hil : i < l.length) (hin : i < n) (hML : MS.length = i) (hRZ : V5.ownsRow x 49 5 (.slice (some ⟨gz, 0, none⟩) (n + 2) (n + 2)) (n + 2) ((MS ++ List.replicate (n + 2 - i) (mkI 0)).flatMap Iv.cs))
    (hLO : ∀ j (hj : j < l.length), j < i → LO wr x (.slice (some ⟨gz, 0, none⟩) (n + 2) (n + 2)) (MS.getD j default) l[j]) (hPW : ∀ j j' b, j < i → j' < i → j ≠ j' → (MS.getD j default).rv.ownBlock = some b → (MS.getD j' default).rv.ownBlock ≠ some b)
    (hW5 : ∀ q, q < wr.heap.size → V5.heap[q]? = wr.heap[q]?) (hgz : gz < wr.heap.size) (hgr : wr.heap.size < gr) (hN : N'.r1 = some ⟨gr, 0, none⟩) (hO : LO V5 x (.slice (some ⟨gz, 0, none⟩) (n + 2) (n + 2)) N' l[i]) :
    (V5.setCells gz (i * 5) (Iv.cs N')).ownsRow x 49 5 (.slice (some ⟨gz, 0, none⟩) (n + 2) (n + 2)) (n + 2) (((MS ++ [N']) ++ List.replicate (n + 2 - (i + 1)) (mkI 0)).flatMap Iv.cs) ∧
    (∀ j (hj : j < l.length), j < i + 1 → LO (V5.setCells gz (i * 5) (Iv.cs N')) x (.slice (some ⟨gz, 0, none⟩) (n + 2) (n + 2)) ((MS ++ [N']).getD j default) l[j]) ∧
    (∀ j j' b, j < i + 1 → j' < i + 1 → j ≠ j' → ((MS ++ [N']).getD j default).rv.ownBlock = some b → ((MS ++ [N']).getD j' default).rv.ownBlock ≠ some b) := by
  have hset := row_setCells (Iv.cs N') (i * 5) V5 _ hRZ (by rw [flat5_len]; simp; omega)
  rw [flat5_set _ i N' (by simp; omega)] at hset
  have e : (MS ++ List.replicate (n + 2 - i) (mkI 0)).set i N' = (MS ++ [N']) ++ List.replicate (n + 2 - (i + 1)) (mkI 0) := by
    rw [List.set_append_right _ _ (by omega), show n + 2 - i = (n + 2 - (i + 1)) + 1 by omega, List.replicate_succ, hML, Nat.sub_self, List.set_cons_zero]
    simp
  rw [e] at hset
  have hNb : N'.rv.ownBlock = some gr := by show (Value.slice N'.r1 _ _).ownBlock = _; rw [hN]; rfl
  have hlow : ∀ j (hj : j < l.length), j < i → ∀ b, (MS.getD j default).rv.ownBlock = some b → b < wr.heap.size := fun j hj hji b hb => ((hLO j hj hji).rr.lt b ((ob_len _ _ _ _ _).trans hb)).2
  refine ⟨hset, fun j hj hji => ?_, fun j j' b hj hj' hne h1 h2 => ?_⟩
  · rw [getD_snoc]
    by_cases h : j < MS.length
    · rw [if_pos h]
      exact (hLO j hj (by omega)).kept (fun b hb => (setCells_old gz _ _ _ b (fun e' => (hLO j hj (by omega)).ne b hb (by rw [e']; rfl))).trans (hW5 b (hlow j hj (by omega) b hb)))
    · have ej : j = i := by omega
      subst ej
      rw [if_neg h, if_pos hML.symm]
      exact hO.kept (fun b hb => setCells_old gz _ _ _ b (fun e' => hO.ne b hb (by rw [e']; rfl)))
  · rw [getD_snoc] at h1 h2
    by_cases h : j < MS.length
    · rw [if_pos h] at h1
      by_cases h' : j' < MS.length
      · rw [if_pos h'] at h2; exact hPW j j' b (by omega) (by omega) hne h1 h2
      · rw [if_neg h', if_pos (by omega), hNb] at h2
        have := hlow j (by omega) (by omega) b h1
        simp at h2
        omega
    · rw [if_neg h, if_pos (by omega), hNb] at h1
      simp at h1
      rw [if_pos (by omega)] at h2
      have := hlow j' (by omega) (by omega) b h2
      omega
set_option maxRecDepth 100000 in
set_option maxHeartbeats 8000000 in
theorem lent9 {w : World} {ad : Option Addr} {n c : Nat} {l : List In} {s k : Int} (h : PI w w.heap.size ad n l) (hn : n * 56 ≤ 140737488351232) :
    Calls Try.prog 9 #[pv ad n c s k] w fun e w' => ∃ gz MS, e = .returned (pv (some ⟨gz, 0, none⟩) n (n + 2) s k) ∧ PL w' w.heap.size (some ⟨gz, 0, none⟩) n (n + 2) l MS ∧ Below w.heap.size w w' := by
  have HL := hid h.len
  obtain ⟨U, hU⟩ : ∃ U, U = (w.alloc (.cells #[.slice ad n c, .int .i64 s, .int .i64 k] 27)).alloc (.cells #[.slice none 0 0, .int .i64 0, .int .i64 0] 27) := ⟨_, rfl⟩
  have hb : Below w.heap.size w U := by rw [hU]; exact below_two' w _ _
  have hX : U.heap[w.heap.size]? = some (.cells #[.slice ad n c, .int .i64 s, .int .i64 k] 27 (0, 0)) := by rw [hU]; exact (heap_alloc_old _ _ (by simp)).trans (heap_alloc_new w _)
  have hY : U.heap[w.heap.size + 1]? = some (.cells #[.slice none 0 0, .int .i64 0, .int .i64 0] 27 (0, 0)) := by rw [hU]; exact two_new w _ _ _
  have hyU : w.heap.size + 1 < U.heap.size := (Array.getElem?_eq_some_iff.1 hY).1
  obtain ⟨x, hx⟩ : ∃ x, x = w.heap.size := ⟨_, rfl⟩
  obtain ⟨y, hy⟩ : ∃ y, y = w.heap.size + 1 := ⟨_, rfl⟩
  have hmk := makeI (n + 2) (by omega) U
  have HROW0 := hid (made_rowI (n + 2) x U (by omega) (by unfold maxLen; omega))
  obtain ⟨A, hA⟩ : ∃ A, A = U.alloc (.cells (madeCells Z5.cells ((n + 2) * 5)) 49) := ⟨_, rfl⟩
  obtain ⟨gz, hgz⟩ : ∃ gz, gz = U.heap.size := ⟨_, rfl⟩
  have hbA : Below U.heap.size U A := by rw [hA]; exact Joins.below_alloc1 U _
  rw [← hA, ← hgz] at hmk HROW0
  rw [show ((n + 2 : Nat) : Int) = (n : Int) + 2 by omega] at hmk
  rw [← hx] at hX hb h
  rw [← hy] at hY hyU
  have a2 : IntKind.i64.wrap ((n : Int) + 2) = (n : Int) + 2 := wrap_ok _ (by omega) (by omega)
  obtain ⟨c0, c1, c2⟩ := three_cells hX
  have hxy : x < y := by omega
  have hygz : y < gz := by omega
  have HX := hid ((hbA.block x (by omega)).trans hX)
  have HY := hid ((hbA.block y hyU).trans hY)
  have HB : Hid (Below x w A) := hb.trans (Joins.below_le hbA (by omega))
  have hgA : gz < A.heap.size := by rw [hA]; simp; omega
  have HXE := hid hx
  have HP := hid h
  clear h hb hX hY hbA hA hgz hyU
  go_enter Try.func9, Try.ntmps9
  go_upto_region 1 with fail
  rw [← hU, ← hy, ← hx]
  clear hU hy hx
  go_wp2_with fail
  clear hmk a2 c0 c1 c2
  go_loopw [4] (fun v wq => ∃ (i : Nat) (MS : List Iv), v = .int .i64 (i : Int) ∧ i ≤ n ∧ Hid (MS.length = i) ∧ Hid (wq.ownsRow x 49 5 (.slice (some ⟨gz, 0, none⟩) (n + 2) (n + 2)) (n + 2) ((MS ++ List.replicate (n + 2 - i) (mkI 0)).flatMap Iv.cs)) ∧ Hid (∀ j (hj : j < l.length), j < i → LO wq x (.slice (some ⟨gz, 0, none⟩) (n + 2) (n + 2)) (MS.getD j default) l[j]) ∧ Hid (∀ j j' b, j < i → j' < i → j ≠ j' → (MS.getD j default).rv.ownBlock = some b → (MS.getD j' default).rv.ownBlock ≠ some b) ∧ Hid (Below x w wq) ∧ Hid (wq.heap[x]? = some (.cells #[.slice ad n c, .int .i64 s, .int .i64 k] 27 (0, 0))) ∧ Hid (wq.heap[y]? = some (.cells #[.slice none 0 0, .int .i64 0, .int .i64 0] 27 (0, 0))) ∧ gz < wq.heap.size) (fun v _ => n - (intOf v).toNat)
  case atStart => exact ⟨0, [], rfl, by omega, rfl, hid (by simpa using HROW0.out), hid (fun j hj h => by omega), hid (fun j j' b h => by omega), HB.out, HX.out, HY.out, hgA⟩
  case round =>
    clear HROW0 HB HX HY hgA
    obtain ⟨i, MS, rfl, hi, HML, HROW, HLO, HPW, HB, HX, HY, hgw⟩ := hrel
    obtain ⟨p0, p1, p2⟩ := three_cells HX.out
    by_cases hil : i < n
    · have b1 : decide ((i : Int) < (n : Int)) = true := by simp; omega
      have b2 : (i : Int) < (n : Int) := by omega
      have ad1 : IntKind.i64.wrap ((i : Int) + 1) = (i : Int) + 1 := wrap_ok _ (by omega) (by omega)
      have hill : i < l.length := by have := HL.out; omega
      obtain ⟨pb, po, ND, hpa, hpb, hcs⟩ := HP.out.mem (by omega)
      subst hpa
      obtain ⟨h5, hIM⟩ := hcs i hill
      have h5' := h5.kept (HB.out.block pb hpb)
      have hIM' := hIM.kept HB.out (Nat.le_refl _)
      obtain ⟨N0, hN0⟩ : ∃ N0, N0 = ND i := ⟨_, rfl⟩
      rw [← hN0] at h5' hIM'
      obtain ⟨op, xx, yy, aa, r1, r2, r3⟩ := N0
      unfold I5 at h5'
      obtain ⟨m0, m1, m2, m3, m4⟩ := h5'
      have hsm : r2 * 16 ≤ 140737488351232 := hIM'.sm
      have hlen : r2 = l[i].R.length := hIM'.len
      have HIM := hid hIM'
      obtain ⟨V1, hV1⟩ : ∃ V1, V1 = wr.alloc (.cells #[.int .i64 op, .int .i64 xx, .int .i64 yy, .int .i64 aa, .slice r1 r2 r3] 49) := ⟨_, rfl⟩
      obtain ⟨bx, hbx⟩ : ∃ bx, bx = wr.heap.size := ⟨_, rfl⟩
      have hbV1 : Below wr.heap.size wr V1 := by rw [hV1]; exact Joins.below_alloc1 wr _
      have hBX : V1.heap[bx]? = some (.cells #[.int .i64 op, .int .i64 xx, .int .i64 yy, .int .i64 aa, .slice r1 r2 r3] 49 (0, 0)) := by rw [hV1, hbx]; exact heap_alloc_new wr _
      have hmkR := makeR (r2 + 2) (by omega) V1
      have hrow2 := made_rowR (r2 + 2) x V1 (by have := hbV1.size; omega) (by unfold maxLen; omega)
      obtain ⟨V2, hV2⟩ : ∃ V2, V2 = V1.alloc (.cells (madeCells (Value.agg #[.int .i64 0, .int .i64 0]).cells ((r2 + 2) * 2)) 51) := ⟨_, rfl⟩
      obtain ⟨gr, hgr⟩ : ∃ gr, gr = V1.heap.size := ⟨_, rfl⟩
      have hbV2 : Below V1.heap.size V1 V2 := by rw [hV2]; exact Joins.below_alloc1 V1 _
      rw [← hV2, ← hgr] at hmkR hrow2
      rw [show ((r2 + 2 : Nat) : Int) = (r2 : Int) + 2 by omega] at hmkR
      have hbx1 : bx < V1.heap.size := (Array.getElem?_eq_some_iff.1 hBX).1
      have hBX2 := (hbV2.block bx hbx1).trans hBX
      have hbw2 : Below x wr V2 := (hbV1.mono (by omega)).trans (hbV2.mono (by omega))
      obtain ⟨V3, hcp, hrow3, hk3, hs3, ho3, ht3, hu3⟩ := copyR (B := x) hlen hrow2 (HIM.out.row.below hbw2 (Nat.le_refl _) (Nat.le_refl _))
      have hgb : bx ≠ gr := by omega
      have hBX3 := (hk3 bx hgb).trans hBX2
      have hw3 : ∀ q, q < wr.heap.size → V3.heap[q]? = wr.heap[q]? := fun q hq => (hk3 q (by have := hbV1.size; omega)).trans ((hbV2.block q (by have := hbV1.size; omega)).trans (hbV1.block q hq))
      obtain ⟨V4a, hV4a⟩ : ∃ V4a, V4a = (V3.setCell ⟨gr, r2 * 2, none⟩ (.int .i64 (-77))).setCell ⟨gr, r2 * 2 + 1, none⟩ (.int .i64 0) := ⟨_, rfl⟩
      obtain ⟨V4, hV4⟩ : ∃ V4, V4 = (V4a.setCell ⟨gr, (r2 + 1) * 2, none⟩ (.int .i64 (-78))).setCell ⟨gr, (r2 + 1) * 2 + 1, none⟩ (.int .i64 0) := ⟨_, rfl⟩
      have hrow4 : V4.ownsRow x 51 2 (.slice (some ⟨gr, 0, none⟩) (r2 + 2) (r2 + 2)) (r2 + 2) (O2 (l[i].R ++ M2)) := by rw [hV4, hV4a]; exact marksR hlen hrow3
      have ht1 : V3.there gr (r2 * 2) 2 := row_there hrow3 (by omega)
      have hr4a := row_setC (row_setC hrow3 (r2 * 2) (.int .i64 (-77))) (r2 * 2 + 1) (.int .i64 0)
      rw [← hV4a] at hr4a
      have ht2 : V4a.there gr ((r2 + 1) * 2) 2 := row_there hr4a (by omega)
      have hk4a : ∀ q, q ≠ gr → V4a.heap[q]? = V3.heap[q]? := fun q hq => by rw [hV4a]; exact (Below.heap_setCell _ _ _ _ hq).trans (Below.heap_setCell _ _ _ _ hq)
      have hk4 : ∀ q, q ≠ gr → V4.heap[q]? = V3.heap[q]? := fun q hq => by rw [hV4]; exact (Below.heap_setCell _ _ _ _ hq).trans ((Below.heap_setCell _ _ _ _ hq).trans (hk4a q hq))
      have hBX4a := (hk4a bx hgb).trans hBX3
      have hBX4 := (hk4 bx hgb).trans hBX3
      obtain ⟨V5, hV5⟩ : ∃ V5, V5 = V4.setCell ⟨bx, 4, none⟩ (.slice (some ⟨gr, 0, none⟩) r2 (r2 + 2)) := ⟨_, rfl⟩
      have hBX5 : V5.heap[bx]? = some (.cells #[.int .i64 op, .int .i64 xx, .int .i64 yy, .int .i64 aa, .slice (some ⟨gr, 0, none⟩) r2 (r2 + 2)] 49 (0, 0)) := by rw [hV5]; exact Joins.block_setCell (i := 4) hBX4 _
      have hw5 : ∀ q, q < wr.heap.size → V5.heap[q]? = wr.heap[q]? := fun q hq => by rw [hV5]; exact (Below.heap_setCell _ _ _ _ (by show q ≠ bx; omega)).trans ((hk4 q (by have := hbV1.size; omega)).trans (hw3 q hq))
      have hrow5 : V5.ownsRow x 51 2 (.slice (some ⟨gr, 0, none⟩) (r2 + 2) (r2 + 2)) (r2 + 2) (O2 (l[i].R ++ M2)) := by rw [hV5]; exact own_setCell hrow4 (by simp [Value.ownBlock]; omega)
      have hrz := row_kept HROW.out (w' := V5) (fun q hq => hw5 q (by simp [Value.ownBlock] at hq; omega))
      have ht5 : V5.there gz (i * 5) 5 := row_there hrz (by omega)
      obtain ⟨g0, g1, g2, g3, g4⟩ := five hBX
      obtain ⟨e0, e1, e2, e3, e4⟩ := five hBX2
      obtain ⟨d0, d1, d2, d3, d4⟩ := five hBX3
      obtain ⟨f0, f1, f2, f3, f4⟩ := five hBX4a
      obtain ⟨q0, q1, q2, q3, q4⟩ := five hBX4
      obtain ⟨v0, v1, v2, v3, v4⟩ := five hBX5
      have uz4 := Joins.unfrozen_of_block hBX4 4
      have aR2 : IntKind.i64.wrap ((r2 : Int) + 2) = (r2 : Int) + 2 := wrap_ok _ (by omega) (by omega)
      have aR1 : IntKind.i64.wrap ((r2 : Int) + 1) = (r2 : Int) + 1 := wrap_ok _ (by omega) (by omega)
      have z1 : (r2 : Int) < (r2 : Int) + 2 := by omega
      have z2 : (r2 : Int) + 1 < (r2 : Int) + 2 := by omega
      have z3 : (r2 : Int) ≤ (r2 : Int) + 2 := by omega
      have z4 : (0 : Int) ≤ (r2 : Int) := by omega
      have z5 : (i : Int) < (n : Int) + 2 := by omega
      have HV1 := hid hV1
      have HV4a := hid hV4a
      have HV4 := hid hV4
      have HV5 := hid hV5
      have HBXE := hid hbx
      have HW5 := hid hw5
      have HR5 := hid hrow5
      have HRZ := hid hrz
      have HLEN := hid hlen
      have hgrx : wr.heap.size < gr := by have := hbV1.size; omega
      have hsz5 : V5.heap.size = gr + 1 := by rw [hV5, hV4, hV4a]; simp [World.setCell]; rw [hs3, hV2]; simp; omega
      have hen5 : V5.os = w.os ∧ V5.tape = w.tape ∧ V5.output = w.output := by
        rw [hV5, hV4, hV4a]
        exact ⟨ho3.trans (hbw2.os.trans HB.out.os), ht3.trans (hbw2.tape.trans HB.out.tape), hu3.trans (hbw2.output.trans HB.out.output)⟩
      have HEN := hid hen5
      have HSZ := hid hsz5
      clear hcs h5 hIM hN0 hV1 hbx hbV1 hBX hrow2 hV2 hgr hbV2 hBX2 hbw2 hrow3 hk3 hs3 ho3 ht3 hu3 hBX3 hw3 hV4a hV4 hrow4 hr4a hk4a hk4 hBX4a hBX4 hV5 hBX5 hw5 hrow5 hrz hlen hIM' hsz5 hen5 hbx1
      go_upto_region 6 with fail
      rw [← HV1.out, ← HBXE.out]
      clear m0 m1 m2 m3 m4
      go_upto_region 7 with fail
      clear hmkR g0 g1 g2 g3 g4
      go_upto_region 8 with fail
      clear hcp e0 e1 e2 e3 e4
      go_upto_region 9 with ((with_reducible refine store49 rfl (.tmp 38) (.tmp 37) rfl gr r2 (-77) 0 ?_ ?_ ht1 ?_); (rfl); (rfl))
      rw [← HV4a.out]
      clear ht1 d0 d1 d2 d3 d4
      go_upto_region 10 with ((with_reducible refine store49 rfl (.tmp 45) (.tmp 44) rfl gr (r2 + 1) (-78) 0 ?_ ?_ ht2 ?_); (rfl); (rfl))
      rw [← HV4.out]
      clear ht2 f0 f1 f2 f3 f4
      go_upto_region 11 with fail
      rw [← HV5.out]
      clear q0 q1 q2 q3 q4 uz4
      go_wp2_with ((with_reducible refine store5 rfl (.tmp 55) (.tmp 54) rfl gz i ⟨op, xx, yy, aa, some ⟨gr, 0, none⟩, r2, r2 + 2⟩ ?_ ?_ ht5 ?_); (rfl); (rfl))
      obtain ⟨s1, s2, s3⟩ := lent_step (N' := ⟨op, xx, yy, aa, some ⟨gr, 0, none⟩, r2, r2 + 2⟩) hill hil HML.out HRZ.out HLO.out HPW.out HW5.out hgw hgrx rfl ⟨HIM.out.op, HIM.out.x, HIM.out.y, HIM.out.a, HLEN.out, hsm, by rw [← HLEN.out]; exact HR5.out, fun b hb => by simp [Value.ownBlock] at hb ⊢; omega⟩
      have hold : ∀ q, q < wr.heap.size → q ≠ gz → (V5.setCells gz (i * 5) (Iv.cs ⟨op, xx, yy, aa, some ⟨gr, 0, none⟩, r2, r2 + 2⟩)).heap[q]? = wr.heap[q]? := fun q hq hne => (setCells_old gz _ _ _ q hne).trans (HW5.out q hq)
      have hxr := (Array.getElem?_eq_some_iff.1 HX.out).1
      have hyr := (Array.getElem?_eq_some_iff.1 HY.out).1
      have hbs := HB.out.size
      have hbe : Below V5.heap.size V5 (V5.setCells gz (i * 5) (Iv.cs ⟨op, xx, yy, aa, some ⟨gr, 0, none⟩, r2, r2 + 2⟩)) ∨ True := .inr trivial
      have hb0 := Below.setCells (B := 0) (Nat.zero_le gz) (Iv.cs ⟨op, xx, yy, aa, some ⟨gr, 0, none⟩, r2, r2 + 2⟩) (i * 5) V5 V5 (Below.refl _ _)
      refine ⟨⟨i + 1, MS ++ [⟨op, xx, yy, aa, some ⟨gr, 0, none⟩, r2, r2 + 2⟩], by push_cast; rfl, by omega, hid (by rw [List.length_append, HML.out]; rfl), hid s1, hid s2, hid s3, ⟨hb0.os.trans HEN.out.1, hb0.tape.trans HEN.out.2.1, hb0.output.trans HEN.out.2.2, by rw [setCells_size, HSZ.out]; omega, fun q hq => (hold q (by omega) (by omega)).trans (HB.out.block q hq)⟩, (hold x hxr (by omega)).trans HX.out, (hold y hyr (by omega)).trans HY.out, by rw [setCells_size, HSZ.out]; omega⟩, by simp [intOf]; omega⟩
    · have b1 : decide ((i : Int) < (n : Int)) = false := by simp; omega
      obtain rfl : n = i := by omega
      have hml := HML.out
      have an1 : IntKind.i64.wrap ((n : Int) + 1) = (n : Int) + 1 := wrap_ok _ (by omega) (by omega)
      have z1 : (n : Int) < (n : Int) + 2 := by omega
      have z2 : (n : Int) + 1 < (n : Int) + 2 := by omega
      have z3 : (n : Int) ≤ (n : Int) + 2 := by omega
      have z4 : (0 : Int) ≤ (n : Int) := by omega
      have ht1 : wr.there gz (n * 5) 5 := row_there HROW.out (by omega)
      have h1 := row_setCells (Iv.cs (mkI (-77))) (n * 5) wr _ HROW.out (by rw [flat5_len]; simp; omega)
      rw [flat5_set _ n (mkI (-77)) (by simp; have := HML.out; omega)] at h1
      obtain ⟨W1, hW1⟩ : ∃ W1, W1 = wr.setCells gz (n * 5) (Iv.cs (mkI (-77))) := ⟨_, rfl⟩
      rw [← hW1] at h1
      have ht2 : W1.there gz ((n + 1) * 5) 5 := row_there h1 (by omega)
      have h2 := row_setCells (Iv.cs (mkI (-78))) ((n + 1) * 5) W1 _ h1 (by rw [flat5_len]; simp; have := HML.out; omega)
      rw [flat5_set _ (n + 1) (mkI (-78)) (by simp; have := HML.out; omega)] at h2
      obtain ⟨W2, hW2⟩ : ∃ W2, W2 = W1.setCells gz ((n + 1) * 5) (Iv.cs (mkI (-78))) := ⟨_, rfl⟩
      rw [← hW2] at h2
      have e : ((MS ++ List.replicate (n + 2 - n) (mkI 0)).set n (mkI (-77))).set (n + 1) (mkI (-78)) = MS ++ [mkI (-77), mkI (-78)] := by
        have := HML.out
        rw [show n + 2 - n = 2 by omega, List.set_append_right _ _ (by omega), List.set_append_right _ _ (by omega), this, Nat.sub_self, show n + 1 - n = 1 by omega]
        rfl
      rw [e] at h2
      have hxr := (Array.getElem?_eq_some_iff.1 HX.out).1
      have hyr := (Array.getElem?_eq_some_iff.1 HY.out).1
      have hbs := HB.out.size
      have hx1 : W1.heap[x]? = _ := (show W1.heap[x]? = wr.heap[x]? by rw [hW1]; exact setCells_old gz _ _ _ x (by omega)).trans HX.out
      have hx2 : W2.heap[x]? = _ := (show W2.heap[x]? = W1.heap[x]? by rw [hW2]; exact setCells_old gz _ _ _ x (by omega)).trans hx1
      have hk2 : ∀ q, q ≠ gz → W2.heap[q]? = wr.heap[q]? := fun q hq => by rw [hW2]; exact (setCells_old gz _ _ _ q hq).trans (by rw [hW1]; exact setCells_old gz _ _ _ q hq)
      have hy2 := (hk2 y (by omega)).trans HY.out
      obtain ⟨W3, hW3⟩ : ∃ W3, W3 = W2.setCell ⟨x, 0, none⟩ (.slice (some ⟨gz, 0, none⟩) n (n + 2)) := ⟨_, rfl⟩
      have hx3 : W3.heap[x]? = some (.cells #[.slice (some ⟨gz, 0, none⟩) n (n + 2), .int .i64 s, .int .i64 k] 27 (0, 0)) := by rw [hW3]; exact Joins.block_setCell (i := 0) hx2 _
      have hy3 := (show W3.heap[y]? = W2.heap[y]? by rw [hW3]; exact Below.heap_setCell _ _ _ _ (by show y ≠ x; omega)).trans hy2
      obtain ⟨d0, d1, d2⟩ := three_cells hx1
      obtain ⟨e0, e1, e2⟩ := three_cells hx2
      obtain ⟨f0, f1, f2⟩ := three_cells hx3
      have u0 := Joins.unfrozen_of_block hx2 0
      have s0 := Joins.unfrozen_of_block hy3 0
      have s1 := Joins.unfrozen_of_block hy3 1
      have s2 := Joins.unfrozen_of_block hy3 2
      have y0 := Joins.cell_of_block hy3 0
      have y1 := Joins.cell_of_block hy3 1
      have y2 := Joins.cell_of_block hy3 2
      have hE2 : W2.heap.size = wr.heap.size ∧ W2.os = wr.os ∧ W2.tape = wr.tape ∧ W2.output = wr.output := by
        have hb0 := Below.setCells (B := 0) (Nat.zero_le gz) (Iv.cs (mkI (-77))) (n * 5) wr wr (Below.refl _ _)
        rw [← hW1] at hb0
        have hb1 := Below.setCells (B := 0) (Nat.zero_le gz) (Iv.cs (mkI (-78))) ((n + 1) * 5) W1 W1 (Below.refl _ _)
        rw [← hW2] at hb1
        refine ⟨?_, hb1.os.trans hb0.os, hb1.tape.trans hb0.tape, hb1.output.trans hb0.output⟩
        rw [hW2, setCells_size, hW1, setCells_size]
      have HE2 := hid hE2
      have HK2 := hid hk2
      have HH2 := hid h2
      have HY3 := hid hy3
      have HW1 := hid hW1
      have HW2 := hid hW2
      have HW3 := hid hW3
      clear h1 h2 e hW1 hW2 hW3 hx1 hx2 hx3 hy2 hy3 hk2 hml hE2
      go_upto_region 13 with ((with_reducible refine store5 rfl (.tmp 61) (.tmp 60) rfl gz n (mkI (-77)) ?_ ?_ ht1 ?_); (rfl); (rfl))
      rw [← HW1.out]
      clear ht1 p0 p1 p2
      go_upto_region 14 with ((with_reducible refine store5 rfl (.tmp 68) (.tmp 67) rfl gz (n + 1) (mkI (-78)) ?_ ?_ ht2 ?_); (rfl); (rfl))
      rw [← HW2.out]
      clear ht2 d0 d1 d2
      go_upto_region 15 with fail
      rw [← HW3.out]
      clear e0 e1 e2 u0
      go_wp2
      obtain ⟨F, hF⟩ : ∃ F, F = ((W3.setCell ⟨y, 0, none⟩ (.slice (some ⟨gz, 0, none⟩) n (n + 2))).setCell ⟨y, 1, none⟩ (.int .i64 s)).setCell ⟨y, 2, none⟩ (.int .i64 k) := ⟨_, rfl⟩
      rw [← hF]
      have hyF : F.heap[y]? = some (.cells #[.slice (some ⟨gz, 0, none⟩) n (n + 2), .int .i64 s, .int .i64 k] 27 (0, 0)) := by rw [hF]; exact Joins.block_setCell (i := 2) (Joins.block_setCell (i := 1) (Joins.block_setCell (i := 0) HY3.out _) _) _
      have hkF : ∀ q, q ≠ x → q ≠ y → F.heap[q]? = W2.heap[q]? := fun q h1 h2 => by rw [hF, HW3.out]; exact (Below.heap_setCell _ _ _ _ h2).trans ((Below.heap_setCell _ _ _ _ h2).trans ((Below.heap_setCell _ _ _ _ h2).trans (Below.heap_setCell _ _ _ _ h1)))
      have hsF : F.heap.size = wr.heap.size := by rw [hF, HW3.out]; simp [World.setCell]; exact HE2.out.1
      refine bodyPost_ret (results_cell_row rfl _ _ y 27 _ (0, 0) _ rfl hyF Try.underlying27 rfl (by kernel_rfl)) rfl ?_
      refine ⟨gz, MS, rfl, ?_, ?_⟩
      · rw [← HXE.out]
        refine ⟨HL.out, HML.out, row_kept HH2.out (fun q hq => hkF q (by simp [Value.ownBlock] at hq; omega) (by simp [Value.ownBlock] at hq; omega)), fun j hj => ?_, HPW.out⟩
        have hO := HLO.out j hj (by have := HL.out; omega)
        refine hO.kept (fun q hq => ?_)
        have hlt := hO.rr.lt q ((ob_len _ _ _ _ _).trans hq)
        have hne := hO.ne q hq
        have hqx : q ≠ x := fun e' => own_ne hO.rr HX.out (by decide) ((ob_len _ _ _ _ _).trans (e' ▸ hq))
        have hqy : q ≠ y := fun e' => own_ne hO.rr HY.out (by decide) ((ob_len _ _ _ _ _).trans (e' ▸ hq))
        exact (hkF q hqx hqy).trans (HK2.out q (fun e' => hne (by rw [e']; rfl)))
      · rw [← HXE.out]
        refine ⟨?_, ?_, ?_, by omega, fun q hq => (hkF q (by omega) (by omega)).trans ((HK2.out q (by omega)).trans (HB.out.block q hq))⟩
        · rw [hF, HW3.out]; exact HE2.out.2.1.trans HB.out.os
        · rw [hF, HW3.out]; exact HE2.out.2.2.1.trans HB.out.tape
        · rw [hF, HW3.out]; exact HE2.out.2.2.2.trans HB.out.output
end Go.Proofs.Ytaoagcnbdfklnaa
/- HELPERS: Turned writes into the lent program's own lists alone. -/
namespace Go.Proofs.Ytaoagcnbdfklnaa
open Go.RowKit
set_option linter.unusedVariables false
set_option linter.unusedSimpArgs false
theorem Chs.two {A : Nat → Prop} {g o o' : Nat} {w w' : World} (h : Chs A w w') (hg : A g) (p q : Value) : Chs A w ((w'.setCell ⟨g, o, none⟩ p).setCell ⟨g, o', none⟩ q) := (h.set (a := ⟨g, o, none⟩) hg p).set (a := ⟨g, o', none⟩) hg q
/-- the lists' blocks are of A -/
def AB (A : Nat → Prop) (MS : List Iv) : Prop := ∀ j b, (MS.getD j default).rv.ownBlock = some b → A b
theorem AB.swap {A : Nat → Prop} {MS : List Iv} {op x y a : Int} {r1 : Option Addr} {r2 r3 : Nat} (h : AB A MS) (i : Nat) (hN : MS.getD i default = ⟨op, x, y, a, r1, r2, r3⟩) : AB A (MS.set i ⟨op, y, x, a, r1, r2, r3⟩) := by
  intro j b hb
  by_cases e : j = i
  · subst e
    by_cases hl : j < MS.length
    · refine h j b ?_
      rw [hN]
      simpa [List.getD_eq_getElem?_getD, hl] using hb
    · exact h j b (by simpa [List.getD_eq_getElem?_getD, hl] using hb)
  · exact h j b (by simpa [List.getD_eq_getElem?_getD, List.getElem?_set_ne (fun e' => e e'.symm)] using hb)
theorem PL.eqw {w w' : World} {base n c : Nat} {ad : Option Addr} {l : List In} {MS : List Iv} (h : PL w base ad n c l MS) (e : Eqw w w') : PL w' base ad n c l MS :=
  ⟨h.len, h.lms, row_kept h.row (fun b _ => e.blk b), fun j hj => (h.lo j hj).kept (fun b _ => e.blk b), h.pw⟩
theorem Chs.eqw {A : Nat → Prop} {w w' w2 : World} (h : Chs A w w') (e : Eqw w' w2) : Chs A w w2 := ⟨e.os.trans h.os, e.tape.trans h.tape, e.output.trans h.output, by have := h.size; rw [e.heap]; exact this, fun b hb hn => (e.blk b).trans (h.block b hb hn)⟩
set_option maxRecDepth 100000 in
set_option maxHeartbeats 16000000 in
theorem turned16 {A : Nat → Prop} {w : World} {ad : Option Addr} {n c : Nat} {l : List In} {MS : List Iv} {s k : Int} {base : Nat} (h : PL w base ad n c l MS) (hn : n * 56 ≤ 140737488351232) (hA : A (match ad with | some a => a.block | none => 0)) (hAB : AB A MS) :
    Calls Try.prog 16 #[pv ad n c s k] w fun e w' => e = .returned (.tuple #[]) ∧ (∃ l' MS', PL w' base ad n c l' MS' ∧ AB A MS') ∧ Chs A w w' ∧ ∀ (b' : Nat) (cs : Array Value) (fr : Nat × Nat), w.heap[b']? = some (.cells cs 27 fr) → w'.heap[b']? = some (.cells cs 27 fr) := by
  obtain ⟨gz, rfl, hc1, hc2⟩ := h.blk
  dsimp only at hA
  obtain ⟨U, hU⟩ : ∃ U, U = w.alloc (.cells #[.slice (some ⟨gz, 0, none⟩) n c, .int .i64 s, .int .i64 k] 27) := ⟨_, rfl⟩
  have hb : Below w.heap.size w U := by rw [hU]; exact Joins.below_alloc1 w _
  have hX : U.heap[w.heap.size]? = some (.cells #[.slice (some ⟨gz, 0, none⟩) n c, .int .i64 s, .int .i64 k] 27 (0, 0)) := by rw [hU]; exact heap_alloc_new w _
  have HT := hid (h.below hb)
  have HB : Hid (Chs A w U) := Chs.of_below hb
  have HAB := hid hAB
  clear hAB
  have HF : Hid (∀ (b' : Nat) (cs : Array Value) (fr : Nat × Nat), w.heap[b']? = some (.cells cs 27 fr) → U.heap[b']? = some (.cells cs 27 fr)) := fun b' cs fr h' => (hb.block b' (Array.getElem?_eq_some_iff.1 h').1).trans h'
  have hsz : w.heap.size < U.heap.size := (Array.getElem?_eq_some_iff.1 hX).1
  obtain ⟨b, hbe⟩ : ∃ b, b = w.heap.size := ⟨_, rfl⟩
  clear h hb
  go_enter Try.func16, Try.ntmps16
  go_upto_region 1 with fail
  rw [← hU, ← hbe]
  rw [← hbe] at hX hsz
  have HX := hid hX
  have HBE := hid hbe
  clear hU hbe hX
  go_wp2_with fail
  go_loopw [2] (fun y wq => ∃ i : Nat, y = .int .i64 (i : Int) ∧ i ≤ n ∧ Hid (∃ l' MS', PL wq base (some ⟨gz, 0, none⟩) n c l' MS' ∧ AB A MS') ∧ Hid (Chs A w wq) ∧ Hid (wq.heap[b]? = some (.cells #[.slice (some ⟨gz, 0, none⟩) n c, .int .i64 s, .int .i64 k] 27 (0, 0))) ∧ b < wq.heap.size ∧ Hid (∀ (b' : Nat) (cs : Array Value) (fr : Nat × Nat), w.heap[b']? = some (.cells cs 27 fr) → wq.heap[b']? = some (.cells cs 27 fr))) (fun y _ => n - (intOf y).toNat)
  case atStart => exact ⟨0, rfl, by omega, ⟨_, _, HT.out, HAB.out⟩, HB.out, HX.out, hsz, HF.out⟩
  case round =>
    clear HT HB HX hsz HF HAB
    obtain ⟨i, rfl, hi, HT, HB, HX, hsz, HF⟩ := hrel
    obtain ⟨p0, p1, p2⟩ := three_cells HX.out
    by_cases hil : i < n
    · have b1 : decide ((i : Int) < (n : Int)) = true := by simp; omega
      have b2 : (i : Int) < (n : Int) := by omega
      have ad1 : IntKind.i64.wrap ((i : Int) + 1) = (i : Int) + 1 := by simp [IntKind.wrap, IntKind.bits, IntKind.signed]; omega
      go_wp2_with fail
      obtain ⟨l1, MS, hT, hAB⟩ := HT.out
      have HAB := hid hAB
      clear hAB
      obtain ⟨N, hN⟩ : ∃ N, N = MS.getD i default := ⟨_, rfl⟩
      obtain ⟨op, xx, yy, aa, r1, r2, r3⟩ := N
      have hr2 : r2 ≤ 8796093022208 := by
        have hO := hT.lo i (by have := hT.len; omega)
        rw [← hN] at hO; have := hO.sm; dsimp only at this; omega
      have HT1 := hid hT
      have HN := hid hN
      clear hT hN HT p0 p1 p2
      go_loopw [3] (fun y wq => ∃ j : Nat, y = .int .i64 (j : Int) ∧ j ≤ r2 ∧ Hid (∃ l', PL wq base (some ⟨gz, 0, none⟩) n c l' MS) ∧ Hid (Chs A w wq) ∧ Hid (wq.heap[b]? = some (.cells #[.slice (some ⟨gz, 0, none⟩) n c, .int .i64 s, .int .i64 k] 27 (0, 0))) ∧ b < wq.heap.size ∧ Hid (∀ (b' : Nat) (cs : Array Value) (fr : Nat × Nat), w.heap[b']? = some (.cells cs 27 fr) → wq.heap[b']? = some (.cells cs 27 fr))) (fun y _ => r2 - (intOf y).toNat)
      case atStart => exact ⟨0, rfl, by omega, ⟨_, HT1.out⟩, HB.out, HX.out, hsz, HF.out⟩
      case round =>
        clear HT1 HB HX hsz HF
        obtain ⟨j, rfl, hj, HT, HB, HX, hsz, HF⟩ := hrel
        obtain ⟨p0, p1, p2⟩ := three_cells HX.out
        obtain ⟨l2, hT⟩ := HT.out
        have hI5 := hT.at5 i hil
        rw [← HN.out] at hI5
        unfold I5 at hI5
        simp only [Nat.zero_add] at hI5
        obtain ⟨n0, n1, n2, n3, n4⟩ := hI5
        have hgb : gz ≠ b := fun e => own_ne hT.row HX.out (by decide) (by rw [e]; rfl)
        by_cases hjl : j < r2
        · have b3 : decide ((j : Int) < (r2 : Int)) = true := by simp; omega
          have b4 : (j : Int) < (r2 : Int) := by omega
          have ad2 : IntKind.i64.wrap ((j : Int) + 1) = (j : Int) + 1 := by simp [IntKind.wrap, IntKind.bits, IntKind.signed]; omega
          have m3 : IntKind.i64.wrap (3 * (j : Int)) = 3 * (j : Int) := by simp [IntKind.wrap, IntKind.bits, IntKind.signed]; omega
          have m4 : IntKind.i64.wrap (1000 + 3 * (j : Int)) = 1000 + 3 * (j : Int) := by simp [IntKind.wrap, IntKind.bits, IntKind.signed]; omega
          obtain ⟨g, hg, hO⟩ : ∃ g, r1 = some ⟨g, 0, none⟩ ∧ LO wr base (.slice (some ⟨gz, 0, none⟩) (n + 2) c) ⟨op, xx, yy, aa, r1, r2, r3⟩ (l2[i]'(by have := hT.len; omega)) := by
            have hO := hT.lo i (by have := hT.len; omega)
            rw [← HN.out] at hO
            obtain ⟨g, e, _, _⟩ := hO.blk
            exact ⟨g, e, hO⟩
          subst hg
          have hlen := hO.len
          dsimp only at hlen
          have ht := row_there hO.rr (j := j * 2) (m := 2) (by omega)
          have hgb2 : g ≠ b := fun e => own_ne hO.rr HX.out (by decide) (by rw [e]; rfl)
          have hgbase : A g := HAB.out i g (by rw [← HN.out]; rfl)
          have hgf : ∀ (b' : Nat) (cs : Array Value) (fr : Nat × Nat), w.heap[b']? = some (.cells cs 27 fr) → b' ≠ g := fun b' cs fr h' e => own_ne hO.rr (HF.out b' cs fr h') (by decide) (by rw [e]; rfl)
          have HGF := hid hgf
          clear hgf
          obtain ⟨l3, hT3⟩ := hT.setR i hil HN.out.symm j hjl (1000 + 3 * (j : Int)) (1000 + 3 * (j : Int))
          have HT3 := hid hT3
          clear hT hT3 hO hlen HT
          go_wp2_with ((with_reducible refine store49 rfl (.tmp 37) (.tmp 36) rfl g j (1000 + 3 * (j : Int)) (1000 + 3 * (j : Int)) ?_ ?_ ht ?_); (rfl); (rfl))
          exact ⟨⟨j + 1, by push_cast; rfl, by omega, ⟨_, HT3.out⟩, Chs.two HB.out hgbase _ _, (Below.heap_setCell _ _ _ _ (fun e => hgb2 e.symm)).trans ((Below.heap_setCell _ _ _ _ (fun e => hgb2 e.symm)).trans HX.out), by simpa [World.setCell] using hsz, fun b' cs fr h' => (Below.heap_setCell _ _ _ _ (HGF.out b' cs fr h')).trans ((Below.heap_setCell _ _ _ _ (HGF.out b' cs fr h')).trans (HF.out b' cs fr h'))⟩, by simp [intOf]; omega⟩
        · have b3 : decide ((j : Int) < (r2 : Int)) = false := by simp; omega
          by_cases h7 : op = 2
          · subst h7
            obtain ⟨l5, hT5⟩ := hT.swap i hil HN.out.symm
            have hgf : ∀ (b' : Nat) (cs : Array Value) (fr : Nat × Nat), w.heap[b']? = some (.cells cs 27 fr) → b' ≠ gz := fun b' cs fr h' e => own_ne hT.row (HF.out b' cs fr h') (by decide) (by rw [e]; rfl)
            have HGF := hid hgf
            have z1 := hT.row.frozenAt (i * 5 + 1)
            have z2 := hT.row.frozenAt (i * 5 + 2)
            have m2r : (wr.setCell ⟨gz, i * 5 + 1, none⟩ (.int .i64 yy)).cell? ⟨gz, i * 5 + 2, none⟩ = some (.int .i64 yy) := by
              rw [(row_setC hT.row (i * 5 + 1) (.int .i64 yy)).cellAt (i * 5 + 2) (by omega), List.getElem?_set_ne (by omega), ← hT.row.cellAt (i * 5 + 2) (by omega)]
              exact n2
            have HT5 := hid hT5
            clear hT hT5 HT hgf
            obtain ⟨W1, hW1⟩ : ∃ W1, W1 = wr.setCell ⟨gz, i * 5 + 1, none⟩ (.int .i64 yy) := ⟨_, rfl⟩
            have hX1 : W1.heap[b]? = some (.cells #[.slice (some ⟨gz, 0, none⟩) n c, .int .i64 s, .int .i64 k] 27 (0, 0)) := by rw [hW1]; exact (Below.heap_setCell _ _ _ _ (fun e => hgb e.symm)).trans HX.out
            have m2 : W1.cell? ⟨gz, i * 5 + 2, none⟩ = some (.int .i64 yy) := by rw [hW1]; exact m2r
            have y2 : W1.frozen? ⟨gz, i * 5 + 2, none⟩ = false := by rw [hW1]; simpa using z2
            have HW1 := hid hW1
            have HX1 := hid hX1
            go_upto_region 10 with fail
            go_region
            rw [← HW1.out]
            obtain ⟨V, hV⟩ : ∃ V, V = W1.drew := ⟨_, rfl⟩
            rw [← hV]
            have eV : Hid (Eqw W1 V) := by rw [hV]; exact Eqw.drew W1
            obtain ⟨p0', _, _⟩ := three_cells ((eV.out.blk b).trans HX1.out)
            have m2' := (cell_eq (eV.out.blk gz) _).trans m2
            have y2' := (frz_eq (eV.out.blk gz) _).trans y2
            clear hV hW1 hX1 m2r p0 p1 p2 n0 n1 n2 n3 n4 z1 z2 m2 y2
            go_wp2
            have hP : PL (V.setCell ⟨gz, i * 5 + 2, none⟩ (.int .i64 xx)) base (some ⟨gz, 0, none⟩) n c l5 (MS.set i ⟨2, yy, xx, aa, r1, r2, r3⟩) := by
              refine HT5.out.eqw ?_
              rw [← HW1.out]
              exact ⟨by simp only [World.setCell]; rw [eV.out.heap], eV.out.os, eV.out.tape, eV.out.output⟩
            have hC : Chs A w V := by
              have h1 := HB.out.set (a := ⟨gz, i * 5 + 1, none⟩) hA (.int .i64 yy)
              rw [← HW1.out] at h1
              exact h1.eqw eV.out
            have hold : ∀ b', b' ≠ gz → (V.setCell ⟨gz, i * 5 + 2, none⟩ (.int .i64 xx)).heap[b']? = wr.heap[b']? := fun b' hne => (Below.heap_setCell _ _ _ _ hne).trans ((eV.out.blk b').trans (by rw [HW1.out]; exact Below.heap_setCell _ _ _ _ hne))
            have hsV : wr.heap.size = (V.setCell ⟨gz, i * 5 + 2, none⟩ (.int .i64 xx)).heap.size := by
              have e1 : (V.setCell ⟨gz, i * 5 + 2, none⟩ (.int .i64 xx)).heap.size = V.heap.size := by simp [World.setCell]
              rw [e1, eV.out.heap, HW1.out]; simp [World.setCell]
            exact ⟨⟨i + 1, by push_cast; rfl, by omega, ⟨_, _, hP, HAB.out.swap i HN.out.symm⟩, hC.set (a := ⟨gz, i * 5 + 2, none⟩) hA _, (hold b (fun e => hgb e.symm)).trans HX.out, by rw [← hsV]; exact hsz, fun b' cs fr h' => (hold b' (HGF.out b' cs fr h')).trans (HF.out b' cs fr h')⟩, by simp [intOf]; omega⟩
          · have b7 : (op == 2) = false := by simpa using h7
            have HTT := hid hT
            clear hT HT
            go_wp2
            exact ⟨⟨i + 1, by push_cast; rfl, by omega, ⟨_, _, HTT.out, HAB.out⟩, HB.out, HX.out, hsz, HF.out⟩, by simp [intOf]; omega⟩
    · have b1 : decide ((i : Int) < (n : Int)) = false := by simp; omega
      go_wp2
      all_goals go_end0
      all_goals exact ⟨rfl, HT.out, HB.out, HF.out⟩
end Go.Proofs.Ytaoagcnbdfklnaa
/- HELPERS: what holds through the loops of owned. Made by tools/genowned.py. -/
namespace Go.Proofs.Ytaoagcnbdfklnaa
open Go.RowKit
set_option linter.unusedVariables false
set_option linter.unusedSimpArgs false
/-- all n cells of a slice are c -/
def Mark (w : World) (v : Value) (n : Nat) (c : Value) : Prop := ∃ ad cap, v = .slice ad n cap ∧ (n = 0 ∨ ∃ b, ad = some ⟨b, 0, none⟩ ∧ ∀ k, k < n → w.cell? ⟨b, k, none⟩ = some c)
theorem Mark.kept {w w' : World} {v : Value} {n : Nat} {c : Value} (h : Mark w v n c) (hk : ∀ b, v.ownBlock = some b → w'.heap[b]? = w.heap[b]?) : Mark w' v n c := by
  obtain ⟨ad, cap, rfl, h | ⟨b, rfl, hc⟩⟩ := h
  · exact ⟨ad, cap, rfl, .inl h⟩
  · exact ⟨_, cap, rfl, .inr ⟨b, rfl, fun k hk' => (World.cell?_of_block (a := ⟨b, k, none⟩) (hk b rfl)).trans (hc k hk')⟩⟩
theorem mark_own {w : World} {base e n : Nat} {v : Value} {c : Value} (h : w.ownsRow base e 1 v n (List.replicate n c)) : Mark w v n c := by
  rcases Joins.ownsRow_forms h with ⟨rfl, h0⟩ | ⟨g, cap, rfl⟩
  · exact ⟨none, 0, by rw [h0], .inl h0⟩
  · refine ⟨_, cap, rfl, .inr ⟨g, rfl, fun k hk => ?_⟩⟩
    rw [h.cellAt k (by omega)]
    simp [hk]
/-- a shorter slice at the head of an owned row's block -/
theorem mark_head {w : World} {base e n m : Nat} {v g : Value} {c : Value} (h : w.ownsRow base e 1 g m (List.replicate m c)) (hn : n ≤ m) (hf : ∃ ad cap, v = .slice ad n cap) (hb : ∀ ad cap, v = .slice ad n cap → 0 < n → ∃ b, ad = some ⟨b, 0, none⟩) (hbl : g.ownBlock = v.ownBlock) : Mark w v n c := by
  obtain ⟨ad, cap, rfl⟩ := hf
  by_cases h0 : n = 0
  · exact ⟨ad, cap, rfl, .inl h0⟩
  · obtain ⟨b, rfl⟩ := hb ad cap rfl (by omega)
    refine ⟨_, cap, rfl, .inr ⟨b, rfl, fun k hk => ?_⟩⟩
    rcases Joins.ownsRow_forms h with ⟨rfl, h1⟩ | ⟨g', cap', rfl⟩
    · simp [Value.ownBlock] at hbl
    · simp only [Value.ownBlock, Option.some.injEq] at hbl
      subst hbl
      rw [h.cellAt k (by omega)]
      simp [show k < m by omega]
/-- rows of one-cell elements of type E, in slices of type T, n of them; they lie as values in the block g; mk j is the j-th row's mark -/
structure Rws (E T : TypeId) (base g n : Nat) (v : Nat → Value) (len : Nat → Nat) (mk : Nat → Value) (w0 : World) : Prop where
  hg : g < w0.heap.size
  hgb : base ≤ w0.heap.size
  hd : ∀ i j, i < n → j < n → i ≠ j → ∀ b, (v i).ownBlock = some b → (v j).ownBlock ≠ some b
  hgv : ∀ j, j < n → (v j).ownBlock ≠ some g
  hlt : ∀ j, j < n → ∀ b, (v j).ownBlock = some b → base ≤ b ∧ b < w0.heap.size
  hone : ∀ j, (mk j).oneCell' = true
theorem own_kept {w w' : World} {base e n : Nat} {v : Value} {xs : List Value} (h : w.ownsRow base e 1 v n xs) (hk : ∀ b, v.ownBlock = some b → w'.heap[b]? = w.heap[b]?) : w'.ownsRow base e 1 v n xs := by
  refine ⟨h.1, ?_⟩
  rcases h.2 with hn | ⟨g, cap, cur, hv, hb, hg, rest⟩
  · exact .inl hn
  · exact .inr ⟨g, cap, cur, hv, hb, by rw [hk g (by rw [hv]; rfl)]; exact hg, rest⟩
section
variable {E T : TypeId} {base g n : Nat} {v : Nat → Value} {len : Nat → Nat} {mk : Nat → Value} {w0 : World}
/-- the first loops -/
structure I1 (E : TypeId) (base g n : Nat) (v : Nat → Value) (len : Nat → Nat) (w0 : World) (X : Nat → List Value) (w : World) : Prop where
  own : ∀ j, j < n → w.ownsRow base E 1 (v j) (len j) (X j)
  cel : ∀ j, j < n → w.cell? ⟨g, j, none⟩ = some (v j)
  siz : w.heap.size = w0.heap.size
  bel : Below base w0 w
def updR (X : Nat → List Value) (i : Nat) (l : List Value) : Nat → List Value := fun j => if j = i then l else X j
theorem I1.step {X : Nat → List Value} {w : World} (R : Rws E T base g n v len mk w0) (h : I1 E base g n v len w0 X w) {i k b cap : Nat} (hi : i < n) (hv : v i = .slice (some ⟨b, 0, none⟩) (len i) cap) (c : Value) :
    I1 E base g n v len w0 (updR X i ((X i).set k c)) (w.setCell ⟨b, k, none⟩ c) := by
  have hb : (v i).ownBlock = some b := by rw [hv]; rfl
  have hlt := R.hlt i hi b hb
  refine ⟨fun j hj => ?_, fun j hj => ?_, by simp [World.setCell, h.siz], h.bel.setCell hlt.1 _⟩
  · unfold updR
    split
    · rename_i e
      subst e
      have h1 := h.own j hj
      rw [hv] at h1 ⊢
      exact (h1.stored k c).1
    · rename_i e
      refine own_kept (h.own j hj) (fun b' hb' => heap_setCell_other w ⟨b, k, none⟩ b' c ?_)
      intro e2
      exact R.hd i j hi hj (fun e3 => e e3.symm) b hb (by rw [hb', e2])
  · rw [World.cell?_of_block (a := ⟨g, j, none⟩) (heap_setCell_other w ⟨b, k, none⟩ g c (fun e => R.hgv i hi (by rw [hb, e])))]
    exact h.cel j hj
def cnt (len : Nat → Nat) (q : Nat) : Nat := len (q / 2) + (if q % 2 = 0 then 20 else 0)
/-- where a value's block lies to the rest -/
def Sep (n : Nat) (v : Nat → Value) (w : World) (long : Value) (i : Nat) (x : Value) : Prop := ∀ b, x.ownBlock = some b → b < w.heap.size ∧ long.ownBlock ≠ some b ∧ ∀ t, i ≤ t → t < n → (v t).ownBlock ≠ some b
/-- the rows that are still to come, and what was kept -/
structure I3 (E T : TypeId) (base g n : Nat) (v : Nat → Value) (len : Nat → Nat) (mk : Nat → Value) (w0 : World) (i i' : Nat) (long : Value) (L : List Value) (w : World) : Prop where
  own : ∀ j, i' ≤ j → j < n → w.ownsRow base E 1 (v j) (len j) (List.replicate (len j) (mk j))
  cel : ∀ j, j < n → w.cell? ⟨g, j, none⟩ = some (v j)
  lon : w.ownsRow w0.heap.size T 1 long (2 * i) L
  mar : ∀ q, q < 2 * i → Mark w (L.getD q undef) (cnt len q) (mk (q / 2)) ∧ Sep n v w long i (L.getD q undef)
  siz : w0.heap.size ≤ w.heap.size
  bel : Below base w0 w
/-- what stays as it was where only one block, that of none of these, is written -/
theorem I3.kept {i i' : Nat} {long : Value} {L : List Value} {w w' : World} (R : Rws E T base g n v len mk w0) (h : I3 E T base g n v len mk w0 i i' long L w) (row : Option Nat)
    (hk : ∀ k, k < w.heap.size → row ≠ some k → w'.heap[k]? = w.heap[k]?) (hsz : w.heap.size ≤ w'.heap.size) (hb : Below base w0 w')
    (h1 : ∀ j, i' ≤ j → j < n → ∀ b, (v j).ownBlock = some b → row ≠ some b) (h2 : row ≠ some g) (h3 : ∀ b, long.ownBlock = some b → row ≠ some b) (h4 : ∀ q, q < 2 * i → ∀ b, (L.getD q undef).ownBlock = some b → row ≠ some b) :
    I3 E T base g n v len mk w0 i i' long L w' := by
  refine ⟨fun j hj hjn => own_kept (h.own j hj hjn) (fun b hb' => hk b (by have := (R.hlt j hjn b hb').2; have := h.siz; omega) (h1 j hj hjn b hb')), fun j hj => ?_, own_kept h.lon (fun b hb' => hk b (h.lon.lt b hb').2 (h3 b hb')), fun q hq => ?_, by have := h.siz; omega, hb⟩
  · rw [World.cell?_of_block (a := ⟨g, j, none⟩) (hk g (by have := R.hg; have := h.siz; omega) h2)]
    exact h.cel j hj
  · obtain ⟨hm, hs⟩ := h.mar q hq
    refine ⟨hm.kept (fun b hb' => hk b (hs b hb').1 (h4 q hq b hb')), fun b hb' => ?_⟩
    obtain ⟨s1, s2, s3⟩ := hs b hb'
    exact ⟨by omega, s2, s3⟩
/-- the row that grows -/
structure I4 (E T : TypeId) (base g n : Nat) (v : Nat → Value) (len : Nat → Nat) (mk : Nat → Value) (w0 : World) (i t : Nat) (long : Value) (L : List Value) (x : Value) (w : World) : Prop where
  inv : I3 E T base g n v len mk w0 i (i + 1) long L w
  mar : Mark w (v i) (len i) (mk i)
  own : w.ownsRow base E 1 x (len i + t) (List.replicate (len i + t) (mk i))
  blk : x.ownBlock = (v i).ownBlock ∨ ∃ b, x.ownBlock = some b ∧ w0.heap.size ≤ b ∧ long.ownBlock ≠ some b ∧ ∀ q, q < 2 * i → (L.getD q undef).ownBlock ≠ some b
theorem I4.start {i : Nat} {long : Value} {L : List Value} {w : World} (h : I3 E T base g n v len mk w0 i i long L w) (hi : i < n) : I4 E T base g n v len mk w0 i 0 long L (v i) w :=
  ⟨⟨fun j hj hjn => h.own j (by omega) hjn, h.cel, h.lon, h.mar, h.siz, h.bel⟩, mark_own (h.own i (Nat.le_refl _) hi), h.own i (Nat.le_refl _) hi, .inl rfl⟩
theorem form_head {w : World} {base e n : Nat} {v : Value} {xs : List Value} (h : w.ownsRow base e 1 v n xs) : (∃ ad cap, v = .slice ad n cap) ∧ ∀ ad cap, v = .slice ad n cap → 0 < n → ∃ b, ad = some ⟨b, 0, none⟩ := by
  rcases Joins.ownsRow_forms h with ⟨rfl, h0⟩ | ⟨g, cap, rfl⟩
  · refine ⟨⟨none, 0, by rw [h0]⟩, fun ad cap he hp => by omega⟩
  · refine ⟨⟨_, cap, rfl⟩, fun ad cap' he _ => ?_⟩
    simp only [Value.slice.injEq] at he
    exact ⟨g, he.1.symm⟩
theorem I4.step {i t : Nat} {long x x' : Value} {L : List Value} {w w' : World} {o : Obj} (R : Rws E T base g n v len mk w0) (h : I4 E T base g n v len mk w0 i t long L x w) (hi : i < n)
    (hf : ∃ ad cap, v i = .slice ad (len i) cap) (hfb : ∀ ad cap, v i = .slice ad (len i) cap → 0 < len i → ∃ b, ad = some ⟨b, 0, none⟩)
    (ho : w'.ownsRow base E 1 x' (len i + t + 1) (List.replicate (len i + t) (mk i) ++ [mk i])) (hm : Moved (w.alloc o) w' x x') : I4 E T base g n v len mk w0 i (t + 1) long L x' w' := by
  have ho' : w'.ownsRow base E 1 x' (len i + (t + 1)) (List.replicate (len i + (t + 1)) (mk i)) := by
    rw [← List.replicate_succ'] at ho
    exact ho
  have hsa : (w.alloc o).heap.size = w.heap.size + 1 := by simp
  have hBx : ∀ k, x.ownBlock = some k → base ≤ k ∧ k < w.heap.size := fun k hk => h.own.lt k hk
  -- which blocks are as they were
  have hkeep : ∀ k, k < w.heap.size → x.ownBlock ≠ some k → w'.heap[k]? = w.heap[k]? := by
    intro k hk hne
    have ha : (w.alloc o).heap[k]? = w.heap[k]? := heap_alloc_old w o hk
    rcases hm with ⟨_, hg⟩ | ⟨_, hg⟩
    · rw [hg.block k (by omega) (fun e => hne e.symm), ha]
    · rw [hg.block k (by omega) (by simp), ha]
  have hsz : w.heap.size ≤ w'.heap.size := by
    rcases hm with ⟨_, hg⟩ | ⟨_, hg⟩ <;> (have := hg.size; omega)
  have hbel : Below base w0 w' := by
    have hb0 : Below base w0 (w.alloc o) := h.inv.bel.alloc (by have := R.hgb; have := h.inv.siz; omega) o
    have hbs : base ≤ (w.alloc o).heap.size := by have := R.hgb; have := h.inv.siz; omega
    rcases hm with ⟨_, hg⟩ | ⟨_, hg⟩
    · exact hb0.grown hg hbs (fun k hk => (hBx k hk).1)
    · exact hb0.grown hg hbs (fun k hk => by cases hk)
  have hlong : ∀ b, long.ownBlock = some b → w0.heap.size ≤ b ∧ b < w.heap.size := fun b hb => h.inv.lon.lt b hb
  have hinv : I3 E T base g n v len mk w0 i (i + 1) long L w' := by
    refine h.inv.kept R x.ownBlock hkeep hsz hbel ?_ ?_ ?_ ?_
    · intro j hj hjn b hb e
      rcases h.blk with hx | ⟨b', hx, hb1, _, _⟩
      · exact R.hd i j hi hjn (by omega) b (by rw [← hx]; exact e) hb
      · have := (R.hlt j hjn b hb).2
        rw [hx] at e
        injection e with e
        omega
    · intro e
      rcases h.blk with hx | ⟨b', hx, hb1, _, _⟩
      · exact R.hgv i hi (by rw [← hx]; exact e)
      · have := R.hg
        rw [hx] at e
        injection e with e
        omega
    · intro b hb e
      rcases h.blk with hx | ⟨b', hx, _, hl, _⟩
      · have h1 := hlong b hb
        have h2 := (R.hlt i hi b (by rw [← hx]; exact e)).2
        omega
      · rw [hx] at e
        exact hl (by rw [hb, e])
    · intro q hq b hb e
      rcases h.blk with hx | ⟨b', hx, _, _, hl⟩
      · exact ((h.inv.mar q hq).2 b hb).2.2 i (Nat.le_refl _) hi (by rw [← hx]; exact e)
      · rw [hx] at e
        exact hl q hq (by rw [hb, e])
  refine ⟨hinv, ?_, ho', ?_⟩
  · by_cases hsame : x.ownBlock = (v i).ownBlock
    · rcases hm with ⟨h5, hg⟩ | ⟨h5, hg⟩
      · exact mark_head ho' (by omega) hf hfb (by rw [h5, hsame])
      · refine h.mar.kept (fun b hb => ?_)
        have hbl := (R.hlt i hi b hb).2
        have := h.inv.siz
        rw [hg.block b (by omega) (by simp), heap_alloc_old w o (by omega)]
    · refine h.mar.kept (fun b hb => hkeep b (by have := (R.hlt i hi b hb).2; have := h.inv.siz; omega) (fun e => hsame (by rw [hb, e])))
  · rcases hm with ⟨h5, hg⟩ | ⟨h5, hg⟩
    · rw [h5]; exact h.blk
    · right
      have := h.inv.siz
      refine ⟨_, h5, by omega, fun e => ?_, fun q hq e => ?_⟩
      · have := (hlong _ e).2; omega
      · have := ((h.inv.mar q hq).2 _ e).1; omega
/-- the two that are put behind -/
theorem I4.put {i : Nat} {long long' x : Value} {L : List Value} {w w' : World} {o : Obj} (R : Rws E T base g n v len mk w0) (h : I4 E T base g n v len mk w0 i 20 long L x w) (hi : i < n)
    (ho : w'.ownsRow w0.heap.size T 1 long' (2 * i + 2) (L ++ [x, v i])) (hm : Moved (w.alloc o) w' long long') : I3 E T base g n v len mk w0 (i + 1) (i + 1) long' (L ++ [x, v i]) w' := by
  have hsa : (w.alloc o).heap.size = w.heap.size + 1 := by simp
  have hlong : ∀ b, long.ownBlock = some b → w0.heap.size ≤ b ∧ b < w.heap.size := fun b hb => h.inv.lon.lt b hb
  have hsiz := h.inv.siz
  have hkeep : ∀ k, k < w.heap.size → long.ownBlock ≠ some k → w'.heap[k]? = w.heap[k]? := by
    intro k hk hne
    have ha : (w.alloc o).heap[k]? = w.heap[k]? := heap_alloc_old w o hk
    rcases hm with ⟨_, hg⟩ | ⟨_, hg⟩
    · rw [hg.block k (by omega) (fun e => hne e.symm), ha]
    · rw [hg.block k (by omega) (by simp), ha]
  have hsz : w.heap.size ≤ w'.heap.size := by
    rcases hm with ⟨_, hg⟩ | ⟨_, hg⟩ <;> (have := hg.size; omega)
  have hbel : Below base w0 w' := by
    have hb0 : Below base w0 (w.alloc o) := h.inv.bel.alloc (by have := R.hgb; omega) o
    have hbs : base ≤ (w.alloc o).heap.size := by have := R.hgb; omega
    rcases hm with ⟨_, hg⟩ | ⟨_, hg⟩
    · exact hb0.grown hg hbs (fun k hk => by have := (hlong k hk).1; have := R.hgb; omega)
    · exact hb0.grown hg hbs (fun k hk => by cases hk)
  have hlong' : ∀ b, long'.ownBlock = some b → w0.heap.size ≤ b := fun b hb => (ho.lt b hb).1
  have hneL : ∀ b, b < w.heap.size → long.ownBlock ≠ some b → long'.ownBlock ≠ some b := by
    intro b hb hne
    rcases hm with ⟨h5, _⟩ | ⟨h5, _⟩
    · rw [h5]; exact hne
    · rw [h5]; intro e; injection e with e; omega
  have hvi : ∀ j, j < n → ∀ b, (v j).ownBlock = some b → b < w.heap.size ∧ long.ownBlock ≠ some b := fun j hj b hb => by
    have h1 := (R.hlt j hj b hb).2
    exact ⟨by omega, fun e => by have := (hlong b e).1; omega⟩
  have hx : ∀ b, x.ownBlock = some b → b < w.heap.size ∧ long.ownBlock ≠ some b ∧ ∀ t, i + 1 ≤ t → t < n → (v t).ownBlock ≠ some b := by
    intro b hb
    have hlt := (h.own.lt b hb).2
    rcases h.blk with hxv | ⟨b', hxb, hb1, hl, _⟩
    · rw [hxv] at hb
      exact ⟨hlt, (hvi i hi b hb).2, fun t ht htn => R.hd i t hi htn (by omega) b hb⟩
    · rw [hxb] at hb
      injection hb with hb
      subst hb
      exact ⟨hlt, hl, fun t ht htn e => by have := (R.hlt t htn _ e).2; omega⟩
  have hLl : L.length = 2 * i := by have := h.inv.lon.1; omega
  refine ⟨fun j hj hjn => own_kept (h.inv.own j hj hjn) (fun b hb => hkeep b (hvi j hjn b hb).1 (hvi j hjn b hb).2), fun j hj => ?_, ?_, fun q hq => ?_, by omega, hbel⟩
  · rw [World.cell?_of_block (a := ⟨g, j, none⟩) (hkeep g (by have := R.hg; omega) (fun e => by have := (hlong g e).1; have := R.hg; omega))]
    exact h.inv.cel j hj
  · exact ho
  · by_cases h1 : q < 2 * i
    · have e : (L ++ [x, v i]).getD q undef = L.getD q undef := by simp [List.getD_eq_getElem?_getD, List.getElem?_append_left (show q < L.length by omega)]
      rw [e]
      obtain ⟨hmk, hs⟩ := h.inv.mar q h1
      refine ⟨hmk.kept (fun b hb => hkeep b (hs b hb).1 (hs b hb).2.1), fun b hb => ?_⟩
      obtain ⟨s1, s2, s3⟩ := hs b hb
      exact ⟨by omega, hneL b s1 s2, fun t ht htn => s3 t (by omega) htn⟩
    · by_cases h2 : q = 2 * i
      · subst h2
        have e : (L ++ [x, v i]).getD (2 * i) undef = x := by simp [List.getD_eq_getElem?_getD, ← hLl]
        have ec : cnt len (2 * i) = len i + 20 := by unfold cnt; rw [show (2 * i) / 2 = i by omega, show (2 * i) % 2 = 0 by omega]; rfl
        rw [e, ec, show (2 * i) / 2 = i by omega]
        refine ⟨(mark_own h.own).kept (fun b hb => hkeep b (hx b hb).1 (hx b hb).2.1), fun b hb => ?_⟩
        obtain ⟨s1, s2, s3⟩ := hx b hb
        exact ⟨by omega, hneL b s1 s2, s3⟩
      · have h3 : q = 2 * i + 1 := by omega
        subst h3
        have e : (L ++ [x, v i]).getD (2 * i + 1) undef = v i := by simp [List.getD_eq_getElem?_getD, ← hLl]
        have ec : cnt len (2 * i + 1) = len i := by unfold cnt; rw [show (2 * i + 1) / 2 = i by omega, show (2 * i + 1) % 2 = 1 by omega]; rfl
        rw [e, ec, show (2 * i + 1) / 2 = i by omega]
        refine ⟨h.mar.kept (fun b hb => hkeep b (hvi i hi b hb).1 (hvi i hi b hb).2), fun b hb => ?_⟩
        exact ⟨by have := (hvi i hi b hb).1; omega, hneL b (hvi i hi b hb).1 (hvi i hi b hb).2, fun t ht htn => R.hd i t hi htn (by omega) b hb⟩
end
end Go.Proofs.Ytaoagcnbdfklnaa
/- HELPERS: the contract of owned. Made by tools/genowned.py. -/
namespace Go.Proofs.Ytaoagcnbdfklnaa
open Go.RowKit
set_option linter.unusedVariables false
set_option linter.unusedSimpArgs false
theorem infoInts : (Try.prog.info? 28).map (fun i => (i.zero, i.size, i.bytes)) = some (some (.slice none 0 0), 1, 24) := by kernel_rfl
def mk64 (j : Nat) : Value := .int .i64 (-9 - (j : Int))
theorem news_one (w : World) (u : Value) (t : TypeId) (G : Nat) (hG : G = w.heap.size) : ∀ (j : Nat) (y : Value), [u][j]? = some y → (w.alloc (.cells #[u] t)).cell? ((⟨G, 0, none⟩ : Addr).add j) = some y := by
  subst hG
  intro j y hj
  match j, hj with
  | 0, hj => simp at hj; subst hj; simp [Addr.add]
theorem cell_two_new (w : World) (a b : Value) (t : TypeId) : ∀ (j : Nat) (u : Value), [a, b][j]? = some u → (w.alloc (.cells #[a, b] t)).cell? ((⟨w.heap.size, 0, none⟩ : Addr).add j) = some u := by
  intro j u hj
  match j, hj with
  | 0, hj => simp at hj; subst hj; simp [Addr.add]
  | 1, hj => simp at hj; subst hj; simp [Addr.add]
theorem one_cell_int (k : IntKind) (z : Int) : ∀ u ∈ [Value.int k z], u.oneCell' = true := by
  intro u hu
  simp at hu
  subst hu
  rfl
theorem take_set_snoc (X : List Value) (t m : Nat) (c : Value) (hX : X.length = m) (ht : t < m) (h : X.take t = List.replicate t c) : (X.set t c).take (t + 1) = List.replicate (t + 1) c := by
  rw [List.take_set, List.take_succ_eq_append_getElem (by omega), h, List.replicate_succ']
  simp
set_option maxHeartbeats 8000000 in
set_option maxRecDepth 1000000 in
theorem owned17 (base g n cp : Nat) (v : Nat → Value) (len : Nat → Nat) (w0 : World) (hn : n ≤ 1048578) (R : Hid (Rws 3 28 base g n v len mk64 w0)) (hO : Hid (∀ j, j < n → ∃ X, w0.ownsRow base 3 1 (v j) (len j) X)) (hc : Hid (∀ j, j < n → w0.cell? ⟨g, j, none⟩ = some (v j)))
    (hl : Hid (∀ j, j < n → len j ≤ 100000000)) :
    Calls Try.prog 17 #[.slice (some ⟨g, 0, none⟩) n cp] w0 fun e w' => e = .returned (.bool true) ∧ Below base w0 w' := by
  obtain ⟨i0, hi0, hz0, hz1, hz2⟩ := info_parts info3
  obtain ⟨i1, hj0, hy0, hy1, hy2⟩ := info_parts infoInts
  go_enter Try.func17, Try.ntmps17
  go_wp2
  go_loopw [3] (fun i wr => ∃ (k : Nat), k ≤ n ∧ i = .int .i64 k ∧ Hid (∃ X, I1 3 base g n v len w0 X wr ∧ ∀ j, j < k → X j = List.replicate (len j) (mk64 j))) (fun i _ => n - (intOf i).toNat)
  case atStart =>
    refine ⟨0, by omega, rfl, ?_⟩
    obtain ⟨X, hX⟩ := Deep.choose_lt (α := List Value) (n := n) (p := fun j X => w0.ownsRow base 3 1 (v j) (len j) X) hO.out
    exact ⟨X, ⟨hX, hc.out, rfl, Below.refl _ _⟩, fun j hj => absurd hj (by omega)⟩
  case round =>
    obtain ⟨k, hk, rfl, HI⟩ := hrel
    by_cases hlt : k < n
    · have hform : ∃ ad m cap, v k = .slice ad m cap ∧ m = len k ∧ (0 < m → ∃ b, ad = some ⟨b, 0, none⟩) := by
        obtain ⟨X, h1, _⟩ := HI.out
        obtain ⟨⟨ad, cap, he⟩, hb⟩ := form_head (h1.own k hlt)
        exact ⟨ad, _, cap, he, rfl, fun hp => hb ad cap he hp⟩
      obtain ⟨ad, m, cap, hv, hm, hb⟩ := hform
      have HV : Hid (v k = .slice ad m cap) := hv
      have HM : Hid (m = len k) := hm
      have HB : Hid (0 < m → ∃ b, ad = some ⟨b, 0, none⟩) := hb
      have hm8 : m ≤ 100000000 := by rw [hm]; exact hl.out k hlt
      clear hv hm hb
      go_wp2
      go_loopw [4] (fun i wr => ∃ (t : Nat), t ≤ m ∧ i = .int .i64 t ∧ Hid (∃ X, I1 3 base g n v len w0 X wr ∧ (∀ j, j < k → X j = List.replicate (len j) (mk64 j)) ∧ (X k).take t = List.replicate t (mk64 k))) (fun i _ => m - (intOf i).toNat)
      case atStart =>
        refine ⟨0, by omega, rfl, ?_⟩
        obtain ⟨X, h1, h2⟩ := HI.out
        exact ⟨X, h1, h2, rfl⟩
      case round =>
        clear HI
        obtain ⟨t, ht, rfl, HT⟩ := hrel
        have c0 : wr.cell? ⟨g, k, none⟩ = some (.slice ad m cap) := by
          obtain ⟨X, h1, _⟩ := HT.out
          rw [h1.cel k hlt, HV.out]
        by_cases hlt2 : t < m
        · obtain ⟨b, rfl⟩ := HB.out (by omega)
          have hcell : ∃ y, wr.cell? ⟨b, t, none⟩ = some y := by
            obtain ⟨X, h1, _⟩ := HT.out
            have ho := h1.own k hlt
            rw [HV.out, ← HM.out] at ho
            refine ⟨_, (ho.cellAt t (by omega)).trans (List.getElem?_eq_getElem (by have := ho.1; omega))⟩
          have hfr : wr.frozen? ⟨b, t, none⟩ = false := by
            obtain ⟨X, h1, _⟩ := HT.out
            have ho := h1.own k hlt
            rw [HV.out, ← HM.out] at ho
            exact ho.frozenAt t
          obtain ⟨y, hy⟩ := hcell
          have HN : Hid (∃ X, I1 3 base g n v len w0 X (wr.setCell ⟨b, t, none⟩ (mk64 k)) ∧ (∀ j, j < k → X j = List.replicate (len j) (mk64 j)) ∧ (X k).take (t + 1) = List.replicate (t + 1) (mk64 k)) := by
            obtain ⟨X, h1, h2, h3⟩ := HT.out
            refine ⟨updR X k ((X k).set t (mk64 k)), h1.step R.out hlt (by rw [HV.out, HM.out]) _, fun j hj => ?_, ?_⟩
            · unfold updR
              rw [if_neg (by omega)]
              exact h2 j hj
            · unfold updR
              rw [if_pos rfl]
              exact take_set_snoc _ _ m _ (by have := (h1.own k hlt).1; rw [this, HM.out]; omega) hlt2 h3
          clear HT
          go_wp2
          go_roundw
          case rel => exact ⟨t + 1, by omega, by go_num, HN⟩
          case measure => simp [intOf]; omega
        · have htm : t = m := by omega
          have HN : Hid (∃ X, I1 3 base g n v len w0 X wr ∧ ∀ j, j < k + 1 → X j = List.replicate (len j) (mk64 j)) := by
            obtain ⟨X, h1, h2, h3⟩ := HT.out
            refine ⟨X, h1, fun j hj => ?_⟩
            by_cases hjk : j = k
            · subst hjk
              rw [htm, List.take_of_length_le (by have := (h1.own j hlt).1; rw [this, HM.out]; omega)] at h3
              rw [h3, HM.out]
            · exact h2 j (by omega)
          clear HT
          go_wp2
          go_roundw
          case rel => exact ⟨k + 1, by omega, by go_num, HN⟩
          case measure => simp [intOf]; omega
    · have hkn : k = n := by omega
      have HS : Hid (I3 3 28 base g n v len mk64 w0 0 0 (.slice none 0 0) [] wr) := by
        obtain ⟨X, h1, h2⟩ := HI.out
        refine ⟨fun j _ hj => by rw [← h2 j (by omega)]; exact h1.own j hj, h1.cel, World.ownsRow_nil _ _ _ _, fun q hq => absurd hq (by omega), by rw [h1.siz]; exact Nat.le_refl _, h1.bel⟩
      clear HI hO hc hkn
      go_wp2
      go_loopw [5, 6] (fun lo i wr => ∃ (k : Nat) (L : List Value) (lo' : Value), k ≤ n ∧ i = .int .i64 k ∧ lo' = lo ∧ Hid (I3 3 28 base g n v len mk64 w0 k k lo' L wr)) (fun _ i _ => n - (intOf i).toNat)
      case atStart => exact ⟨0, [], _, by omega, rfl, rfl, HS⟩
      case round =>
        clear HS
        obtain ⟨k, L, lo, hk, rfl, rfl, HI⟩ := hrel
        by_cases hlt : k < n
        · have c0 := HI.out.cel k hlt
          have H4 : Hid (I4 3 28 base g n v len mk64 w0 k 0 lo L (v k) wr) := I4.start HI.out hlt
          have HF := form_head (HI.out.own k (Nat.le_refl _) hlt)
          have HF1 : Hid (∃ ad cap, v k = .slice ad (len k) cap) := HF.1
          have HF2 : Hid (∀ ad cap, v k = .slice ad (len k) cap → 0 < len k → ∃ b, ad = some ⟨b, 0, none⟩) := HF.2
          have hm8 := hl.out k hlt
          clear HF HI
          obtain ⟨vk, hvk⟩ : ∃ vk, vk = v k := ⟨_, rfl⟩
          rw [← hvk] at c0 H4
          have HVK : Hid (vk = v k) := hvk
          clear hvk
          go_wp2
          go_loopw [7, 8] (fun x i wr => ∃ (t : Nat) (x' : Value), t ≤ 20 ∧ i = .int .i64 t ∧ x' = x ∧ Hid (I4 3 28 base g n v len mk64 w0 k t lo L x' wr)) (fun _ i _ => 20 - (intOf i).toNat)
          case atStart => exact ⟨0, _, by omega, rfl, rfl, H4⟩
          case round =>
            clear H4 c0
            obtain ⟨t, x, ht, rfl, rfl, H4⟩ := hrel
            by_cases hlt2 : t < 20
            · go_wp2_with (at_builtin; refine wpList_append_move rfl (.tmp 48) (.tmp 51) 28 rfl base 3 i0 (.int .i64 0) 8 Try.underlying28 hi0 hz0 hz1 hz2 rfl x (len k + t) _ rfl (H4.out.own.alloc _) ⟨wr.heap.size, 0, none⟩ 1 1 [.int .i64 (-9 - (k : Int))] rfl rfl (by decide) (by exact news_one _ _ _ _ rfl) (one_cell_int _ _) (by unfold maxLen; omega) (by omega) (by have := H4.out.inv.siz; have := R.out.hgb; simp; omega) ?_; intro x' w' ho hmv)
              have HN : Hid (I4 3 28 base g n v len mk64 w0 k (t + 1) lo L x' w') := H4.out.step R.out hlt HF1.out HF2.out ho.out hmv.out
              clear ho hmv H4
              go_wp2
              go_roundw
              case rel => exact ⟨t + 1, _, by omega, by go_num, rfl, HN⟩
              case measure => simp [intOf]; omega
            · have ht9 : t = 20 := by omega
              subst ht9
              have c0 := H4.out.inv.cel k hlt
              rw [← HVK.out] at c0
              obtain ⟨⟨adx, capx, hex⟩, -⟩ := form_head H4.out.own
              obtain ⟨lx, hlx⟩ : ∃ lx, lx = len k + 20 := ⟨_, rfl⟩
              rw [← hlx] at hex
              obtain ⟨adv, capv, hev0⟩ := HF1.out
              obtain ⟨lv, hlv⟩ : ∃ lv, lv = len k := ⟨_, rfl⟩
              rw [← hlv] at hev0
              have hev : vk = .slice adv lv capv := by rw [HVK.out]; exact hev0
              subst hex hev
              clear hlx hlv hev0
              have n1 : ∀ (j : Nat) (u : Value), [Value.slice adx lx capx, .slice adv lv capv][j]? = some u → (wr.alloc (.cells #[.slice adx lx capx, .slice adv lv capv] 28)).cell? ((⟨wr.heap.size, 0, none⟩ : Addr).add j) = some u := cell_two_new wr _ _ 28
              have n2 : ∀ u ∈ [Value.slice adx lx capx, .slice adv lv capv], u.oneCell' = true := by
                intro u hu
                simp only [List.mem_cons, List.not_mem_nil, or_false] at hu
                rcases hu with rfl | rfl <;> rfl
              have N1 : Hid (∀ (j : Nat) (u : Value), [Value.slice adx lx capx, .slice adv lv capv][j]? = some u → (wr.alloc (.cells #[.slice adx lx capx, .slice adv lv capv] 28)).cell? ((⟨wr.heap.size, 0, none⟩ : Addr).add j) = some u) := n1
              have N2 : Hid (∀ u ∈ [Value.slice adx lx capx, .slice adv lv capv], u.oneCell' = true) := n2
              clear n1 n2
              go_wp2_with (at_builtin; refine wpList_append_move rfl (.tmp 53) (.tmp 59) 42 rfl w0.heap.size 28 i1 (.slice none 0 0) 24 Try.underlying42 hj0 hy0 hy1 hy2 rfl lo (2 * k) L rfl (H4.out.inv.lon.alloc _) ⟨wr.heap.size, 0, none⟩ 2 2 [.slice adx lx capx, .slice adv lv capv] rfl rfl (by decide) N1.out N2.out (by unfold maxLen; omega) (by omega) (by have := H4.out.inv.siz; simp; omega) ?_; intro lo2 w' ho hmv)
              have HN : Hid (∃ L', I3 3 28 base g n v len mk64 w0 (k + 1) (k + 1) lo2 L' w') := by
                have ho' := ho.out
                rw [HVK.out] at ho'
                exact ⟨_, H4.out.put R.out hlt ho' hmv.out⟩
              obtain ⟨L2, hN⟩ := HN.out
              have HN2 : Hid (I3 3 28 base g n v len mk64 w0 (k + 1) (k + 1) lo2 L2 w') := hN
              clear ho hmv H4 HN hN N1 N2
              go_wp2
              go_roundw
              case rel => exact ⟨k + 1, L2, _, by omega, by go_num, rfl, HN2⟩
              case measure => simp [intOf]; omega
        · have hkn2 : k = n := by omega
          rw [hkn2] at HI
          clear hkn2
          have hLf : ∃ adL capL, lo = .slice adL (2 * n) capL ∧ (0 < 2 * n → ∃ b, adL = some ⟨b, 0, none⟩) := by
            obtain ⟨⟨ad, cap, he⟩, hb⟩ := form_head HI.out.lon
            exact ⟨ad, cap, he, fun hp => hb ad cap he hp⟩
          obtain ⟨adL, capL, rfl, hLb⟩ := hLf
          have HLB : Hid (0 < 2 * n → ∃ b, adL = some ⟨b, 0, none⟩) := hLb
          clear hLb
          go_wp2
          go_loopw [9] (fun i wr' => ∃ (q : Nat), q ≤ 2 * n ∧ i = .int .i64 q ∧ wr' = wr) (fun i _ => 2 * n - (intOf i).toNat)
          case atStart => exact ⟨0, by omega, rfl, rfl⟩
          case round =>
            obtain ⟨q, hq, rfl, rfl⟩ := hrel
            by_cases hlq : q < 2 * n
            · obtain ⟨gL, rfl⟩ := HLB.out (by omega)
              have c0 : wr.cell? ⟨gL, q, none⟩ = some (L.getD q undef) := by
                have hll := HI.out.lon.1
                rw [HI.out.lon.cellAt q (by omega)]
                simp [show q < L.length by omega]
              obtain ⟨ad, cap, hv, hmk⟩ := (HI.out.mar q hlq).1
              have hm8 : cnt len q ≤ 100000100 := by
                have := hl.out (q / 2) (by omega)
                unfold cnt
                split <;> omega
              rw [hv] at c0
              generalize cnt len q = m at c0 hmk hm8
              have HMK : Hid (m = 0 ∨ ∃ b, ad = some ⟨b, 0, none⟩ ∧ ∀ k, k < m → wr.cell? ⟨b, k, none⟩ = some (mk64 (q / 2))) := hmk
              clear hv hmk
              go_wp2
              go_loopw [10] (fun i wr' => ∃ (t : Nat), t ≤ m ∧ i = .int .i64 t ∧ wr' = wr) (fun i _ => m - (intOf i).toNat)
              case atStart => exact ⟨0, by omega, rfl, rfl⟩
              case round =>
                obtain ⟨t, ht, rfl, rfl⟩ := hrel
                by_cases hlt3 : t < m
                · obtain ⟨b, rfl, hcb⟩ := HMK.out.resolve_left (by omega)
                  have d0 : wr.cell? ⟨b, t, none⟩ = some (.int .i64 (-9 - (q : Int) / 2)) := by
                    have := hcb t hlt3
                    rw [mk64, show ((q / 2 : Nat) : Int) = (q : Int) / 2 by omega] at this
                    exact this
                  clear hcb
                  go_wp2
                  go_roundw
                  case rel => exact ⟨t + 1, by omega, by go_num, trivial⟩
                  case measure => simp [intOf]; omega
                · have htm : t = m := by omega
                  go_wp2
                  go_roundw
                  case rel => exact ⟨q + 1, by omega, by go_num, trivial⟩
                  case measure => simp [intOf]; omega
            · have hqn : q = 2 * n := by omega
              have HBX : Hid (Below base w0 wr) := HI.out.bel
              clear HI
              go_wp2
              go_ret
              exact ⟨rfl, HBX.out⟩
end Go.Proofs.Ytaoagcnbdfklnaa
/- HELPERS: two programs that hold the same are told to be the same. -/
namespace Go.Proofs.Ytaoagcnbdfklnaa
open Go.RowKit
set_option linter.unusedVariables false
set_option linter.unusedSimpArgs false
attribute [local go_sem ↓] Go.wp_at_zero Go.wp_at_succ
theorem fields49 : Try.prog.underlying 51 = some (.struct (Try.prog.fieldsOf 51)) := by kernel_rfl
theorem held49 : Try.prog.stoodInHeld 51 = false := by kernel_rfl
theorem guard49 : Try.prog.eqGuardType Try.prog.depth 51 = false := by kernel_rfl
set_option maxRecDepth 100000 in
theorem rng_neq (lo hi : Int) (W : World) : (binOp .neq 51 (.agg #[.int .i64 lo, .int .i64 hi]) (.agg #[.int .i64 lo, .int .i64 hi])).run Try.prog W = .ok (.bool false) W := by
  have he : ∀ (a b : Int), (Op.equalIn 9999 3 (.int .i64 a) (.int .i64 b)).run Try.prog W = .ok (a == b) W := fun a b => run_equalIn_int W 9998 3 .i64 .i64 a b Try.underlying3
  rw [run_neq_struct, show Op.equalIn 10000 51 = Op.equalIn (9999 + 1) 51 from rfl, run_equalIn_agg W 9999 51 _ _ fields49 held49]
  have hp : ∀ (xs : Array Value) (o : Nat) (v : Value), xs[o]? = some v → (part 3 xs o).run Try.prog W = .ok v W := by
    intro xs o v h
    simp [part, Try.isAgg3, h, Result.andThen]
  simp [Program.fieldsOf, Try.underlying51, Op.eqFields, hp, he, Result.andThen]
theorem rng_guard (x y : Operand) (lo hi lo' hi' : Int) (W : World) : (eqGuard .neq 51 x y (.agg #[.int .i64 lo, .int .i64 hi]) (.agg #[.int .i64 lo', .int .i64 hi'])).run Try.prog W = .ok () W := run_eqGuard_agg W .neq 51 x y _ _ guard49
set_option maxRecDepth 100000 in
set_option maxHeartbeats 8000000 in
theorem same11 {w : World} {ad ad' : Option Addr} {n c c' : Nat} {l : List In} {s k : Int} (h : PI w w.heap.size ad n l) (h' : PI w w.heap.size ad' n l) (hn : n ≤ 9223372036854775807) :
    Calls Try.prog 13 #[pv ad n c s k, pv ad' n c' s k] w fun e w' => e = .returned (.bool true) ∧ Below w.heap.size w w' := by
  obtain ⟨U, hU⟩ : ∃ U, U = (w.alloc (.cells #[.slice ad n c, .int .i64 s, .int .i64 k] 27)).alloc (.cells #[.slice ad' n c', .int .i64 s, .int .i64 k] 27) := ⟨_, rfl⟩
  have hb : Below w.heap.size w U := by rw [hU]; exact below_two' w _ _
  have hX1 : U.heap[w.heap.size]? = some (.cells #[.slice ad n c, .int .i64 s, .int .i64 k] 27 (0, 0)) := by rw [hU]; exact (heap_alloc_old _ _ (by simp)).trans (heap_alloc_new w _)
  have hX2 : U.heap[w.heap.size + 1]? = some (.cells #[.slice ad' n c', .int .i64 s, .int .i64 k] 27 (0, 0)) := by rw [hU]; exact two_new w _ _ _
  have HP := hid (h.kept hb hb.size)
  have HP' := hid (h'.kept hb hb.size)
  have HB := hid hb
  have HL := hid h.len
  have l1 : w.heap.size < U.heap.size := (Array.getElem?_eq_some_iff.1 hX1).1
  have l2 : w.heap.size + 1 < U.heap.size := (Array.getElem?_eq_some_iff.1 hX2).1
  clear h h' hb
  go_enter Try.func13, Try.ntmps13
  go_upto_region 1 with fail
  rw [← hU]
  obtain ⟨x2, hx2⟩ : ∃ x2, x2 = w.heap.size + 1 := ⟨_, rfl⟩
  rw [← hx2] at hX2 l2 ⊢
  obtain ⟨x1, hx1⟩ : ∃ x1, x1 = w.heap.size := ⟨_, rfl⟩
  rw [← hx1] at hX1 l1 HB ⊢
  have HX1 := hid hX1
  have HX2 := hid hX2
  have HXE := hid hx1
  clear hx1 hx2 hU hX1 hX2
  obtain ⟨p0, p1, p2⟩ := three_cells HX1.out
  obtain ⟨q0, q1, q2⟩ := three_cells HX2.out
  go_wp2_with fail
  clear p0 p1 p2 q0 q1 q2
  go_loopw [5] (fun y wq => ∃ i : Nat, y = .int .i64 (i : Int) ∧ i ≤ n ∧ Hid (Below U.heap.size U wq)) (fun y _ => n - (intOf y).toNat)
  case atStart => exact ⟨0, rfl, by omega, Below.refl _ _⟩
  case round =>
    obtain ⟨i, rfl, hi, BK⟩ := hrel
    obtain ⟨p0, p1, p2⟩ := three_cells ((BK.out.block x1 l1).trans HX1.out)
    obtain ⟨q0, q1, q2⟩ := three_cells ((BK.out.block x2 l2).trans HX2.out)
    have hUw : U.heap.size ≤ wr.heap.size := BK.out.size
    have l1w : x1 < wr.heap.size := by omega
    have l2w : x2 < wr.heap.size := by omega
    by_cases hil : i < n
    · have b1 : decide ((i : Int) < (n : Int)) = true := by simp; omega
      have b2 : (i : Int) < (n : Int) := by omega
      have ad1 : IntKind.i64.wrap ((i : Int) + 1) = (i : Int) + 1 := by simp [IntKind.wrap, IntKind.bits, IntKind.signed]; omega
      have hlt : i < l.length := by have := HL.out; omega
      obtain ⟨g, o, ND, e, hg, hcs⟩ := HP.out.mem (by omega)
      obtain ⟨g', o', ND', e', hg', hcs'⟩ := HP'.out.mem (by omega)
      subst e e'
      have lg : g < wr.heap.size := by omega
      have lg' : g' < wr.heap.size := by omega
      obtain ⟨m0, m1, m2, m3, m4⟩ := (hcs i hlt).1.kept (BK.out.block g hg)
      obtain ⟨t0, t1, t2, t3, t4⟩ := (hcs' i hlt).1.kept (BK.out.block g' hg')
      have hI := (hcs i hlt).2.kept BK.out BK.out.size
      have hI' := (hcs' i hlt).2.kept BK.out BK.out.size
      obtain ⟨M, hM⟩ : ∃ M, M = ND i := ⟨_, rfl⟩
      obtain ⟨M', hM'⟩ : ∃ M, M = ND' i := ⟨_, rfl⟩
      rw [← hM] at m0 m1 m2 m3 m4 hI
      rw [← hM'] at t0 t1 t2 t3 t4 hI'
      clear hM hM' hcs hcs'
      obtain ⟨op, x, y, a, r1, r2, r3⟩ := M
      obtain ⟨op', x', y', a', r1', r2', r3'⟩ := M'
      obtain rfl : op' = op := hI'.op.trans hI.op.symm
      obtain rfl : x' = x := hI'.x.trans hI.x.symm
      obtain rfl : y' = y := hI'.y.trans hI.y.symm
      obtain rfl : a' = a := hI'.a.trans hI.a.symm
      obtain rfl : r2' = r2 := hI'.len.trans hI.len.symm
      have hr2 : r2' ≤ 8796093022208 := by have := hI.sm; dsimp only at this; omega
      have HI := hid hI
      have HI' := hid hI'
      clear hI hI'
      dsimp only at m0 m1 m2 m3 m4 t0 t1 t2 t3 t4
      go_wp2_with fail
      obtain ⟨V, hV⟩ : ∃ V, V = (wr.alloc (.cells #[.int .i64 op', .int .i64 x', .int .i64 y', .int .i64 a', .slice r1 r2' r3] 49)).alloc (.cells #[.int .i64 op', .int .i64 x', .int .i64 y', .int .i64 a', .slice r1' r2' r3'] 49) := ⟨_, rfl⟩
      rw [← hV]
      have HBV : Hid (Below wr.heap.size wr V) := by rw [hV]; exact below_two' wr _ _
      have hZ1 : Hid (V.heap[wr.heap.size]? = some (.cells #[.int .i64 op', .int .i64 x', .int .i64 y', .int .i64 a', .slice r1 r2' r3] 49 (0, 0))) := by rw [hV]; exact (heap_alloc_old _ _ (by simp)).trans (heap_alloc_new wr _)
      have hZ2 : Hid (V.heap[wr.heap.size + 1]? = some (.cells #[.int .i64 op', .int .i64 x', .int .i64 y', .int .i64 a', .slice r1' r2' r3'] 49 (0, 0))) := by rw [hV]; exact two_new wr _ _ _
      have k1 : wr.heap.size < V.heap.size := (Array.getElem?_eq_some_iff.1 hZ1.out).1
      have k2 : wr.heap.size + 1 < V.heap.size := (Array.getElem?_eq_some_iff.1 hZ2.out).1
      obtain ⟨z2, hz2⟩ : ∃ z2, z2 = wr.heap.size + 1 := ⟨_, rfl⟩
      rw [← hz2] at hZ2 k2 ⊢
      have HBW := hid (BK.out.trans (Joins.below_le HBV.out BK.out.size))
      have HIV := hid (HI.out.kept HBV.out HBV.out.size)
      have HIV' := hid (HI'.out.kept HBV.out HBV.out.size)
      obtain ⟨z1, hz1⟩ : ∃ z1, z1 = wr.heap.size := ⟨_, rfl⟩
      rw [← hz1] at hZ1 k1 ⊢
      clear hV hz1 hz2 HBV HI HI' m0 m1 m2 m3 m4 t0 t1 t2 t3 t4 p0 p1 p2 q0 q1 q2 b1
      go_loopw [8] (fun y wq => ∃ j : Nat, y = .int .i64 (j : Int) ∧ j ≤ r2' ∧ Hid (Below V.heap.size V wq)) (fun y _ => r2' - (intOf y).toNat)
      case atStart => exact ⟨0, rfl, by omega, Below.refl _ _⟩
      case round =>
        obtain ⟨j, rfl, hj, BJ⟩ := hrel
        obtain ⟨d0, d1, d2, d3, d4⟩ := five ((BJ.out.block z1 k1).trans hZ1.out)
        obtain ⟨f0, f1, f2, f3, f4⟩ := five ((BJ.out.block z2 k2).trans hZ2.out)
        by_cases hjl : j < r2'
        · have b3 : decide ((j : Int) < (r2' : Int)) = true := by simp; omega
          have b4 : (j : Int) < (r2' : Int) := by omega
          have ad2 : IntKind.i64.wrap ((j : Int) + 1) = (j : Int) + 1 := by simp [IntKind.wrap, IntKind.bits, IntKind.signed]; omega
          have hlen : r2' = (l[i]).R.length := HIV.out.len
          obtain ⟨a1, cap1, e1, h1⟩ := HIV.out.row.below BJ.out (Nat.le_refl _) (Nat.le_refl _)
          obtain ⟨a2, cap2, e2, h2⟩ := HIV'.out.row.below BJ.out (Nat.le_refl _) (Nat.le_refl _)
          simp only [Value.slice.injEq] at e1 e2
          obtain ⟨rfl, _, rfl⟩ := e1
          obtain ⟨rfl, _, rfl⟩ := e2
          rcases h1 with h1 | ⟨rb, ro, rfl, _, u0, u1⟩
          · omega
          rcases h2 with h2 | ⟨rb', ro', rfl, _, v0, v1⟩
          · omega
          have u0 := u0 j (by omega)
          have u1 := u1 j (by omega)
          have v0 := v0 j (by omega)
          have v1 := v1 j (by omega)
          obtain ⟨⟨lo, hi'⟩, hv⟩ : ∃ v, (l[i]).R.getD j (0, 0) = v := ⟨_, rfl⟩
          rw [hv] at u0 u1 v0 v1
          dsimp only at u0 u1 v0 v1
          have hneq := fun W' => rng_neq lo hi' W'
          have hgd := fun x y W' => rng_guard x y lo hi' lo hi' W'
          clear hv hlen
          go_wp2_with fail
          go_quiet (fail)
          go_wp2
          exact ⟨⟨j + 1, by push_cast; rfl, by omega, BJ.out.trans ⟨rfl, rfl, rfl, Nat.le_refl _, fun _ _ => rfl⟩⟩, by simp [intOf]; omega⟩
        · have b3 : decide ((j : Int) < (r2' : Int)) = false := by simp; omega
          go_wp2
          exact ⟨⟨i + 1, by push_cast; rfl, by omega, HBW.out.trans (Joins.below_le BJ.out HBW.out.size)⟩, by simp [intOf]; omega⟩
    · have b1 : decide ((i : Int) < (n : Int)) = false := by simp; omega
      go_wp2
      all_goals go_ret
      all_goals refine ⟨rfl, ?_⟩
      rw [← HXE.out]
      exact HB.out.trans (Joins.below_le BK.out (by omega))
end Go.Proofs.Ytaoagcnbdfklnaa
/- HELPERS: what a law's walk carries from world to world; answers as cells. -/
namespace Go.Proofs.Ytaoagcnbdfklnaa
open Go.RowKit Go.Lk
set_option linter.unusedVariables false
set_option linter.unusedSimpArgs false
/-- a box -/
def BX (W : World) (b : Nat) (cs : Array Value) (t : TypeId) : Prop := W.heap[b]? = some (.cells cs t (0, 0))
theorem BX.lt {W : World} {b : Nat} {cs : Array Value} {t : TypeId} (h : BX W b cs t) : b < W.heap.size := (Array.getElem?_eq_some_iff.1 h).1
theorem BX.kept {W W' : World} {b : Nat} {cs : Array Value} {t : TypeId} (h : BX W b cs t) (hb : Below W.heap.size W W') : BX W' b cs t := (hb.block b h.lt).trans h
theorem BX.new (W : World) (cs : Array Value) (t : TypeId) : BX (W.alloc (.cells cs t)) W.heap.size cs t := heap_alloc_new W _
theorem own_b {W W' : World} {N e size n : Nat} {v : Value} {xs : List Value} (h : W.ownsRow N e size v n xs) (hb : Below W.heap.size W W') : W'.ownsRow N e size v n xs := row_kept h (fun b hb' => hb.block b (h.lt b hb').2)
theorem pi_b {W W' : World} {ad : Option Addr} {n : Nat} {l : List In} (h : PI W W.heap.size ad n l) (hb : Below W.heap.size W W') : PI W' W'.heap.size ad n l := h.kept hb hb.size
theorem tx_b {W W' : World} {ad : Option Addr} {n : Nat} {l : List Int} (h : TextAt W.heap.size W ad n l) (hb : Below W.heap.size W W') : TextAt W'.heap.size W' ad n l := (h.below hb).mono hb.size
/-- an answer -/
structure An where
  ok : Bool
  wh : Int
  st : Int
  cl : List Int
  co : Int
def whF : Fd → Int
  | none => 0
  | some y => y.1
def capsF : Fd → List Int
  | none => []
  | some y => y.2
def anR (r : Fd × Nat) : An := ⟨r.1.isSome, whF r.1, r.2, capsF r.1, 0⟩
def anE (c : Int) : An := ⟨false, 0, 0, [], c⟩
/-- what a run answers, by the program, the text and the place -/
def ans (l : List In) (tx : List Int) (s k a : Int) (anch : Bool) : An := if errR l s k tx.length a = 0 then anR (lockRun (prOf l tx s.toNat k.toNat) tx.length a.toNat anch) else anE (errR l s k tx.length a)
def FW (A : An) (w : World) (e : Ending) (w' : World) : Prop :=
  ∃ a1 n1 c1, e = .returned (.tuple #[.agg #[.bool A.ok, .slice a1 n1 c1, .int .i64 A.wh, .int .i64 A.st], .int .i64 A.co]) ∧ n1 = A.cl.length ∧ w'.ownsRow w.heap.size 3 1 (.slice a1 n1 c1) n1 (I64 A.cl) ∧ Below w.heap.size w w'
theorem own_len {w : World} {N n : Nat} {v : Value} {l : List Int} (h : w.ownsRow N 3 1 v n (I64 l)) : n = l.length := by have := h.1; simp [I64] at this; omega
theorem FE.fw {c : Int} {w w' : World} {e : Ending} (h : FE c w e w') : FW (anE c) w e w' := ⟨none, 0, 0, h.2, rfl, World.ownsRow_nil _ _ _ _, h.1⟩
theorem FR.fw {K : Nat} {r : Fd × Nat} {w w' : World} {e : Ending} (h : FR K r w e w') : FW (anR r) w e w' := by
  obtain ⟨h1, h2⟩ := h
  obtain ⟨fd, n⟩ := r
  cases fd with
  | none => exact ⟨none, 0, 0, h2, rfl, World.ownsRow_nil _ _ _ _, h1⟩
  | some y =>
    obtain ⟨g, h2, h3⟩ := h2
    exact ⟨_, _, _, h2, own_len h3, h3, h1⟩
theorem FQ.fw {K : Nat} {r : Fd × Nat} {w w' : World} {e : Ending} (h : FQ K r w e w') : FW (anR r) w e w' := by
  obtain ⟨h1, h2⟩ := h
  obtain ⟨fd, n⟩ := r
  cases fd with
  | none => exact ⟨none, 0, 0, h2, rfl, World.ownsRow_nil _ _ _ _, h1⟩
  | some y =>
    obtain ⟨g, q, h2, h3⟩ := h2
    exact ⟨_, _, _, h2, own_len h3, h3, h1⟩
theorem RunA.fw {l : List In} {tx : List Int} {s k a : Int} {anch : Bool} {w w' : World} {e : Ending} (h : RunA l tx s k a anch w e w') : FW (ans l tx s k a anch) w e w' := by
  unfold ans
  rcases h with ⟨h0, h⟩ | ⟨h0, h⟩
  · rw [if_pos h0]; exact h.fw
  · rw [if_neg h0]; exact h.fw
theorem RunB.fw {l : List In} {tx : List Int} {s k a : Int} {anch : Bool} {w w' : World} {e : Ending} (h : RunB l tx s k a anch w e w') : FW (ans l tx s k a anch) w e w' := by
  unfold ans
  rcases h with ⟨h0, h⟩ | ⟨h0, h⟩
  · rw [if_pos h0]; exact h.fw
  · rw [if_neg h0]; exact h.fw
theorem ans_len {l : List In} {tx : List Int} {s k a : Int} {anch : Bool} : (ans l tx s k a anch).cl.length ≤ 1002 := by
  unfold ans
  split
  · rename_i h
    unfold errR at h
    split at h
    · cases h
    · split at h
      · cases h
      · split at h
        · cases h
        · rename_i h1 h2 h3
          have hm : mayB l s k = true := by simpa using h2
          have hmo := may_ok hm
          obtain ⟨S, rfl⟩ := Int.eq_ofNat_of_zero_le hmo.2.1
          obtain ⟨K, rfl⟩ := Int.eq_ofNat_of_zero_le (show 0 ≤ k by omega)
          have h5 := (lockRun_steps (pr_ok (tx := tx) hm) tx.length a.toNat anch).2.2
          show (capsF (lockRun (prOf l tx S K) tx.length a.toNat anch).1).length ≤ 1002
          cases hr : (lockRun (prOf l tx S K) tx.length a.toNat anch).1 with
          | none => simp [capsF]
          | some y =>
            have h6 := h5 y hr
            have : (prOf l tx S K).K = K := rfl
            show y.2.length ≤ 1002
            omega
  · simp [anE]
theorem same15' {w : World} {A : An} {a1 a2 : Option Addr} {n1 c1 n2 c2 : Nat} {N1 N2 : Nat} (h1 : w.ownsRow N1 3 1 (.slice a1 n1 c1) n1 (I64 A.cl)) (h2 : w.ownsRow N2 3 1 (.slice a2 n2 c2) n2 (I64 A.cl)) (hl : A.cl.length ≤ 1002) :
    Calls Try.prog 15 #[.agg #[.bool A.ok, .slice a1 n1 c1, .int .i64 A.wh, .int .i64 A.st], .agg #[.bool A.ok, .slice a2 n2 c2, .int .i64 A.wh, .int .i64 A.st]] w fun e w' => e = .returned (.bool true) ∧ Below w.heap.size w w' :=
  same15 fun W hb => (same14 A.cl A.cl _ _ W (ints_own (own_len h1) (own_b h1 hb)) (ints_own (own_len h2) (own_b h2 hb)) (by omega) (by omega)).mono fun e w' h => by
    obtain ⟨he, q, rfl⟩ := h
    refine ⟨by rw [he]; simp, (Eqw.drewN W q).below _⟩
theorem text_ints {w : World} {N n c : Nat} {ad : Option Addr} {l : List Int} (h : TextAt N w ad n l) : IntsC w (.slice ad n c) l := by
  obtain ⟨h1, _, h | ⟨b, o, e, _, hc⟩⟩ := h
  · exact ⟨ad, c, by rw [h1], .inl (by omega)⟩
  · exact ⟨ad, c, by rw [h1], .inr ⟨b, o, e, fun k hk => hc k (by omega)⟩⟩
/-- the lent text can be read -/
theorem row_text {w : World} {N n c tb : Nat} {l : List Int} {y : List Int} (hn : n = l.length) (h : w.ownsRow N 3 1 (.slice (some ⟨tb, 0, none⟩) (n + 2) c) (n + 2) (I64 (l ++ y))) (hl : n ≤ 17592186043904) : TextAt w.heap.size w (some ⟨tb, 0, none⟩) n l := by
  refine ⟨hn, by omega, .inr ⟨tb, 0, rfl, (h.lt tb rfl).2, fun k hk => ?_⟩⟩
  rw [Nat.zero_add, h.cellAt k (by omega)]
  simp only [I64, List.map_append]
  rw [List.getElem?_append_left (by simp; omega)]
  simp [List.getD_eq_getElem?_getD, show k < l.length by omega]
theorem run_copy_one0 (w : World) (dT sT ty elem : TypeId) (d a : Option Addr) (dLen dCap sLen sCap : Nat) (hu : Try.prog.underlying dT = some (.slice elem)) (hs : (Try.prog.info? elem).map (·.size) = some 1) (hn : Nat.min sLen dLen = 0) :
    (Builtin.copy_ #[dT, sT] ty #[.slice d dLen dCap, .slice a sLen sCap]).run Try.prog w = .ok (goInt 0) w := by
  cases hq : Try.prog.info? elem with
  | none => simp [hq] at hs
  | some i =>
    have hl : ∀ (x : Addr), (loadCells x 0).run Try.prog w = .ok #[] w := fun x => by simpa using run_loadCells_list (P := Try.prog) w x [] (by simp)
    cases d <;> cases a <;> simp [Builtin.copy_, run_underlying hu, Builtin.lenOf, Builtin.firstCells, sizeOf, typeInfo, hq, hn, storeCells, hl]
theorem copyT {W : World} {N tb tn tc : Nat} {tad : Option Addr} {tx : List Int} (hT : TextAt W.heap.size W tad tn tx) (ho : W.ownsRow N 3 1 (.slice (some ⟨tb, 0, none⟩) (tn + 2) (tn + 2)) (tn + 2) (I64 (List.replicate (tn + 2) 0))) :
    ∃ W2, (Builtin.copy_ #[28, 28] 3 #[.slice (some ⟨tb, 0, none⟩) (tn + 2) (tn + 2), .slice tad tn tc]).run Try.prog W = .ok (.int .i64 (tn : Int)) W2 ∧ W2.ownsRow N 3 1 (.slice (some ⟨tb, 0, none⟩) (tn + 2) (tn + 2)) (tn + 2) (I64 (tx ++ [0, 0])) ∧ Chg W W2 [tb] [tb] := by
  obtain ⟨h1, h2, h0 | ⟨b, o, rfl, hb, hc⟩⟩ := hT
  · have htx : tx = [] := List.length_eq_zero_iff.1 (by omega)
    subst htx
    subst h0
    refine ⟨W, ?_, by simpa using ho, Chg.refl _ _⟩
    have := run_copy_one0 W 28 28 3 3 (some ⟨tb, 0, none⟩) tad (0 + 2) (0 + 2) 0 tc Try.underlying28 size3 (by simp)
    simpa [goInt] using this
  · have hl : (I64 tx).length = tn := by simp [I64]; omega
    have h := run_copy_cells (P := Try.prog) W 28 28 3 3 tb 0 (tn + 2) (tn + 2) ⟨b, o, none⟩ tn tc (I64 tx) Try.underlying28 size3 (by rw [hl]; simp) (fun j v hj => by
      have hjl := (List.getElem?_eq_some_iff.1 hj).1
      rw [Addr.add_mid, hc j (by omega), ← hj]
      simp [I64, List.getD_eq_getElem?_getD, show j < tx.length by omega]) (fun j hj => by
      rw [Nat.zero_add, ho.cellAt j (by omega), List.getElem?_eq_getElem (by simp [I64]; omega)]; rfl) (fun j hj => by rw [Nat.zero_add]; exact ho.frozenAt j) (one_cell_ints tx)
    rw [hl] at h
    refine ⟨W.setCells tb 0 (I64 tx), by simpa [goInt] using h, ?_, ?_⟩
    · have h3 := row_setCells (I64 tx) 0 W _ ho (by rw [hl]; simp [I64])
      rw [Nat.zero_add, List.take_zero, List.nil_append, hl] at h3
      have e : I64 tx ++ (I64 (List.replicate (tn + 2) 0)).drop tn = I64 (tx ++ [0, 0]) := by
        simp only [I64, List.map_append, List.map_replicate]
        rw [List.drop_replicate, show tn + 2 - tn = 2 by omega]
        rfl
      rw [e] at h3
      exact h3
    · exact setCells_chg (w' := W) tb (by simp) (I64 tx) 0 W (Chg.refl _ _)
/-- the blocks of lent programs -/
def AT (W : World) (NB : Nat) (b : Nat) : Prop := NB ≤ b ∧ ∃ arr t, W.heap[b]? = some (.cells arr t (0, 0)) ∧ (t = 49 ∨ t = 51)
theorem own_at {w : World} {base e size n : Nat} {v : Value} {xs : List Value} (h : w.ownsRow base e size v n xs) {k : Nat} (hk : v.ownBlock = some k) : base ≤ k ∧ ∃ arr, w.heap[k]? = some (.cells arr e (0, 0)) := by
  refine ⟨(h.lt k hk).1, ?_⟩
  rcases h.2 with ⟨e', _⟩ | ⟨g, cap, cur, e', _, hg, _⟩
  · subst e'; simp [Value.ownBlock] at hk
  · subst e'
    simp [Value.ownBlock] at hk
    subst hk
    exact ⟨_, hg⟩
theorem PL.at_ {W : World} {NB gz n c : Nat} {l : List In} {MS : List Iv} (h : PL W NB (some ⟨gz, 0, none⟩) n c l MS) : AT W NB gz ∧ AB (AT W NB) MS := by
  refine ⟨?_, fun j b hb => ?_⟩
  · obtain ⟨h1, arr, h2⟩ := own_at h.row (k := gz) rfl
    exact ⟨h1, arr, _, h2, .inl rfl⟩
  · by_cases hj : j < l.length
    · have hr := (h.lo j hj).rr
      obtain ⟨h1, arr, h2⟩ := own_at hr (k := b) (by have := hb; simp only [Iv.rv] at this; cases hr1 : (MS.getD j default).r1 with | none => rw [hr1] at this; simp [Value.ownBlock] at this | some a => rw [hr1] at this; simpa [Value.ownBlock] using this)
      exact ⟨h1, arr, _, h2, .inr rfl⟩
    · have hd : MS.getD j default = default := by rw [List.getD_eq_getElem?_getD, List.getElem?_eq_none (by have := h.len; have := h.lms; omega)]; rfl
      rw [hd] at hb
      simp [Iv.rv, default, Value.ownBlock] at hb
theorem BX.chs {W W' : World} {NB b : Nat} {cs : Array Value} {t : TypeId} (h : BX W b cs t) (hc : Chs (AT W NB) W W') (h1 : t ≠ 49) (h2 : t ≠ 51) : BX W' b cs t := by
  refine (hc.block b h.lt ?_).trans h
  rintro ⟨_, arr, t', h3, h4⟩
  have : W.heap[b]? = some (.cells cs t (0, 0)) := h
  rw [this] at h3
  simp only [Option.some.injEq, Obj.cells.injEq] at h3
  obtain ⟨_, rfl, _⟩ := h3
  rcases h4 with h4 | h4
  · exact h1 h4
  · exact h2 h4
theorem own_chs {W W' : World} {NB N n : Nat} {v : Value} {xs : List Value} (h : W.ownsRow N 3 1 v n xs) (hc : Chs (AT W NB) W W') : W'.ownsRow N 3 1 v n xs := row_kept h (fun b hb => by
  obtain ⟨_, arr, ha⟩ := own_at h hb
  exact (BX.chs (cs := arr) ha hc (by decide) (by decide)).trans ha.symm)
theorem chs_below {W W' : World} {NB B : Nat} (hc : Chs (AT W NB) W W') (h : B ≤ NB) (hB : B ≤ W.heap.size) : Below B W W' := ⟨hc.os, hc.tape, hc.output, hc.size, fun k hk => hc.block k (by omega) (fun hA => by have := hA.1; omega)⟩
theorem BX.chg {W W' : World} {N tb n : Nat} {v : Value} {xs : List Value} {b : Nat} {cs : Array Value} {t : TypeId} (h : BX W b cs t) (hc : Chg W W' [tb] [tb]) (ho : W.ownsRow N 3 1 v n xs) (hv : v.ownBlock = some tb) (ht : t ≠ 3) : BX W' b cs t := by
  refine (hc.block b h.lt ?_).trans h
  simp only [List.mem_singleton]
  intro e
  exact own_ne ho h ht (by rw [e]; exact hv)
theorem own_chg {W W' : World} {tb N n : Nat} {v : Value} {xs : List Value} (h : W.ownsRow N 3 1 v n xs) (hc : Chg W W' [tb] [tb]) (hN : tb < N) : W'.ownsRow N 3 1 v n xs := row_kept h (fun b hb => hc.block b (h.lt b hb).2 (by simp only [List.mem_singleton]; have := (h.lt b hb).1; omega))
theorem PL.chg {W W' : World} {tb NB n c : Nat} {ad : Option Addr} {l : List In} {MS : List Iv} (h : PL W NB ad n c l MS) (hc : Chg W W' [tb] [tb]) (hN : tb < NB) : PL W' NB ad n c l MS :=
  ⟨h.len, h.lms, row_kept h.row (fun b hb => hc.block b (h.row.lt b hb).2 (by simp only [List.mem_singleton]; have := (h.row.lt b hb).1; omega)), fun j hj => by
    have hO := h.lo j hj
    exact ⟨hO.op, hO.x, hO.y, hO.a, hO.len, hO.sm, row_kept hO.rr (fun b hb => hc.block b (hO.rr.lt b hb).2 (by simp only [List.mem_singleton]; have := (hO.rr.lt b hb).1; omega)), hO.ne⟩, h.pw⟩
/-- four rows that came out -/
def rows4 (a b c d : Value) : Nat → Value
  | 0 => a
  | 1 => b
  | 2 => c
  | _ => d
def lens4 (a b c d : Nat) : Nat → Nat
  | 0 => a
  | 1 => b
  | 2 => c
  | _ => d
theorem four_lt {p : Nat → Prop} (h0 : p 0) (h1 : p 1) (h2 : p 2) (h3 : p 3) : ∀ j, j < 4 → p j := fun j hj => by
  match j, hj with
  | 0, _ => exact h0
  | 1, _ => exact h1
  | 2, _ => exact h2
  | 3, _ => exact h3
theorem owned_four {W : World} {B N1 T1 N2 T2 N3 T3 N4 g : Nat} {va vb vc vd : Value} {na nb nc nd : Nat} {la lb lc ld : List Int} (hg : BX W g #[va, vb, vc, vd] 28) (hs : B ≤ W.heap.size) (hB : B ≤ N1) (h12 : T1 ≤ N2) (h23 : T2 ≤ N3) (h34 : T3 ≤ N4)
    (la' : ∀ b, va.ownBlock = some b → N1 ≤ b ∧ b < T1) (lb' : ∀ b, vb.ownBlock = some b → N2 ≤ b ∧ b < T2) (lc' : ∀ b, vc.ownBlock = some b → N3 ≤ b ∧ b < T3) (hN1 : N1 ≤ T1) (hN2 : N2 ≤ T2) (hN3 : N3 ≤ T3)
    (ra : W.ownsRow N1 3 1 va na (I64 la)) (rb : W.ownsRow N2 3 1 vb nb (I64 lb)) (rc : W.ownsRow N3 3 1 vc nc (I64 lc)) (rd : W.ownsRow N4 3 1 vd nd (I64 ld)) (hl : na ≤ 1002 ∧ nb ≤ 1002 ∧ nc ≤ 1002 ∧ nd ≤ 1002) :
    Calls Try.prog 17 #[.slice (some ⟨g, 0, none⟩) 4 4] W fun e w' => e = .returned (.bool true) ∧ Below B W w' := by
  have ld' : ∀ b, vd.ownBlock = some b → N4 ≤ b ∧ b < W.heap.size := fun b hb => rd.lt b hb
  have lgt : ∀ v : Value, ∀ N n (l : List Int), W.ownsRow N 3 1 v n (I64 l) → v.ownBlock ≠ some g := fun v N n l h => own_ne h hg (by decide)
  have lo4 : ∀ j, j < 4 → ∀ b, (rows4 va vb vc vd j).ownBlock = some b → B ≤ b ∧ b < W.heap.size := four_lt (fun b hb => ⟨by have := (la' b hb).1; omega, (ra.lt b hb).2⟩) (fun b hb => ⟨by have := (lb' b hb).1; omega, (rb.lt b hb).2⟩) (fun b hb => ⟨by have := (lc' b hb).1; omega, (rc.lt b hb).2⟩) (fun b hb => ⟨by have := (ld' b hb).1; omega, (ld' b hb).2⟩)
  refine owned17 B g 4 4 (rows4 va vb vc vd) (lens4 na nb nc nd) W (by omega) ⟨hg.lt, hs, ?_, ?_, lo4, fun j => rfl⟩ ?_ ?_ ?_
  · intro i j hi hj hij b hb hb'
    have key : ∀ i, i < 4 → ∀ b, (rows4 va vb vc vd i).ownBlock = some b → lens4 N1 N2 N3 N4 i ≤ b ∧ (i < 3 → b < lens4 N2 N3 N4 0 i) := four_lt (fun b hb => ⟨(la' b hb).1, fun _ => by have := (la' b hb).2; show b < N2; omega⟩) (fun b hb => ⟨(lb' b hb).1, fun _ => by have := (lb' b hb).2; show b < N3; omega⟩) (fun b hb => ⟨(lc' b hb).1, fun _ => by have := (lc' b hb).2; show b < N4; omega⟩) (fun b hb => ⟨(ld' b hb).1, fun h => by omega⟩)
    have mono : ∀ i, i < 4 → ∀ j, j < 4 → i < j → lens4 N2 N3 N4 0 i ≤ lens4 N1 N2 N3 N4 j := by
      intro i hi j hj hlt
      rcases (show i = 0 ∨ i = 1 ∨ i = 2 by omega) with rfl | rfl | rfl
      · rcases (show j = 1 ∨ j = 2 ∨ j = 3 by omega) with rfl | rfl | rfl <;> (simp only [lens4]; omega)
      · rcases (show j = 2 ∨ j = 3 by omega) with rfl | rfl <;> (simp only [lens4]; omega)
      · rcases (show j = 3 by omega) with rfl; simp only [lens4]; omega
    have h1 := key i hi b hb
    have h2 := key j hj b hb'
    rcases Nat.lt_or_gt_of_ne hij with h | h
    · have := mono i hi j hj h
      have := h1.2 (by omega)
      omega
    · have := mono j hj i hi h
      have := h2.2 (by omega)
      omega
  · exact four_lt (lgt _ _ _ _ ra) (lgt _ _ _ _ rb) (lgt _ _ _ _ rc) (lgt _ _ _ _ rd)
  · exact four_lt ⟨_, ra.mono hB⟩ ⟨_, rb.mono (by omega)⟩ ⟨_, rc.mono (by omega)⟩ ⟨_, rd.mono (by omega)⟩
  · exact four_lt (Joins.cell_of_block hg 0) (Joins.cell_of_block hg 1) (Joins.cell_of_block hg 2) (Joins.cell_of_block hg 3)
  · exact four_lt (by show na ≤ _; omega) (by show nb ≤ _; omega) (by show nc ≤ _; omega) (by show nd ≤ _; omega)
end Go.Proofs.Ytaoagcnbdfklnaa
/- HELPERS: the law PikeRuns. Made by tools/gen_prun.py. -/
namespace Go.Proofs.Ytaoagcnbdfklnaa
open Go.RowKit Go.Lk
set_option linter.unusedVariables false
set_option linter.unusedSimpArgs false
theorem makeT (c : Nat) (hc : c * 8 ≤ 140737488355328) (w : World) : (Instr.makeSlice 28 (.int .i64 (c : Int)) (.int .i64 (c : Int))).run Try.prog w = .ok (.slice (some ⟨w.heap.size, 0, none⟩) c c) (w.alloc (.cells (madeCells #[.int .i64 0] c) 3)) := by
  obtain ⟨i0, hi0, hz0, hz1, hz2⟩ := info_parts info3
  have h := run_make (P := Try.prog) w 28 3 i0 (.int .i64 0) Try.underlying28 hi0 hz0 .i64 .i64 c c (by omega) (by omega) (by rw [hz2]; omega) (by omega)
  simp only [Int.toNat_natCast, hz1, Nat.mul_one] at h
  exact h
theorem madeT (c N : Nat) (w : World) (hN : N ≤ w.heap.size) (hc : c ≤ 35184372088832) : (w.alloc (.cells (madeCells #[.int .i64 0] c) 3)).ownsRow N 3 1 (.slice (some ⟨w.heap.size, 0, none⟩) c c) c (I64 (List.replicate c 0)) := by
  have h := World.ownsRow_lit (base := N) (e := 3) (size := 1) w (madeCells #[.int .i64 0] c) c hN (by unfold maxLen; omega) (by rw [size_madeCells]; omega)
  rw [toList_madeCells_one] at h
  simpa [I64] using h
theorem mark71 {tx : List Int} {tn : Nat} (h : tn = tx.length) : (I64 (tx ++ [71, 72]))[tn]? = some (.int .i64 71) := by
  subst h; simp [I64]
theorem mark72 {tx : List Int} {tn : Nat} (h : tn = tx.length) : (I64 (tx ++ [71, 72]))[tn + 1]? = some (.int .i64 72) := by
  subst h; simp [I64]
theorem fill97 {tx : List Int} {tn i : Nat} (h : tn = tx.length) (hi : i < tn) : (I64 (List.replicate i 97 ++ (tx.drop i ++ [71, 72]))).set i (.int .i64 97) = I64 (List.replicate (i + 1) 97 ++ (tx.drop (i + 1) ++ [71, 72])) := by
  have hd : tx.drop i = tx[i]'(by omega) :: tx.drop (i + 1) := List.drop_eq_getElem_cons (by omega)
  rw [hd]
  simp only [I64, List.map_append, List.map_replicate, List.map_cons]
  rw [List.set_append_right _ _ (by simp), List.length_replicate, Nat.sub_self, List.cons_append, List.set_cons_zero, List.replicate_succ', List.append_assoc]
  rfl
theorem marks2 {tx : List Int} {tn : Nat} (h : tn = tx.length) : ((I64 (tx ++ [0, 0])).set tn (.int .i64 71)).set (tn + 1) (.int .i64 72) = I64 (tx ++ [71, 72]) := by
  subst h
  simp only [I64, List.map_append]
  rw [List.set_append_right _ _ (by simp), List.set_append_right _ _ (by simp)]
  simp
set_option maxRecDepth 100000 in
set_option maxHeartbeats 32000000 in
theorem runs4 {w : World} {ad ad2 tad : Option Addr} {n c n2 c2 tn tc : Nat} {s k s2 k2 a : Int} {anch : Bool} {l l2 : List In} {tx : List Int} (hP : PI w w.heap.size ad n l) (hP2 : PI w w.heap.size ad2 n2 l2) (hT : TextAt w.heap.size w tad tn tx) (hn : n * 56 ≤ 140737488351232) (htn : tn ≤ 17592186043904) :
    Calls Try.prog 4 #[pv ad n c s k, pv ad2 n2 c2 s2 k2, av tad tn tc a anch] w fun e w' => e = .returned (.bool true) ∧ Below w.heap.size w w' := by
  obtain ⟨B, hB⟩ : ∃ B, B = w.heap.size := ⟨_, rfl⟩
  have htl : tn = tx.length := hT.1
  obtain ⟨U, hU⟩ : ∃ U, U = ((w.alloc (.cells #[.slice ad n c, .int .i64 s, .int .i64 k] 27)).alloc (.cells #[.slice ad2 n2 c2, .int .i64 s2, .int .i64 k2] 27)).alloc (.cells #[.slice tad tn tc, .int .i64 a, .bool anch] 30) := ⟨_, rfl⟩
  obtain ⟨q0, q1, q2, q3⟩ := three_new w (.cells #[.slice ad n c, .int .i64 s, .int .i64 k] 27) (.cells #[.slice ad2 n2 c2, .int .i64 s2, .int .i64 k2] 27) (.cells #[.slice tad tn tc, .int .i64 a, .bool anch] 30)
  rw [← hU] at q0 q1 q2 q3
  have hbU : Below w.heap.size w U := ⟨by rw [hU]; rfl, by rw [hU]; rfl, by rw [hU]; rfl, by rw [hU]; simp; omega, q3⟩
  obtain ⟨x0, hx0⟩ : ∃ x0, x0 = w.heap.size := ⟨_, rfl⟩
  obtain ⟨x1, hx1⟩ : ∃ x1, x1 = w.heap.size + 1 := ⟨_, rfl⟩
  obtain ⟨x2, hx2⟩ : ∃ x2, x2 = w.heap.size + 1 + 1 := ⟨_, rfl⟩
  rw [← hx0] at q0
  rw [← hx1] at q1
  rw [← hx2] at q2
  have B0 : Hid (BX U x0 #[.slice ad n c, .int .i64 s, .int .i64 k] 27) := q0
  have B1 : Hid (BX U x1 #[.slice ad2 n2 c2, .int .i64 s2, .int .i64 k2] 27) := q1
  have B2 : Hid (BX U x2 #[.slice tad tn tc, .int .i64 a, .bool anch] 30) := q2
  have HP0 : Hid (PI w B ad n l) := by show PI _ _ _ _ _; rw [hB]; exact hP
  have HP2 : Hid (PI w B ad2 n2 l2) := by show PI _ _ _ _ _; rw [hB]; exact hP2
  have HT0 : Hid (TextAt B w tad tn tx) := by show TextAt _ _ _ _ _; rw [hB]; exact hT
  have HTOT : Hid (Below B w U) := by show Below _ _ _; rw [hB]; exact hbU
  have HBE := hid hB
  have hBU : B ≤ U.heap.size := by rw [hB]; exact hbU.size
  have HTL := hid htl
  have HAW := awake7 U
  clear hP hP2 hT q0 q1 q2 q3 hbU htl
  go_enter Try.func4, Try.ntmps4
  go_upto_region 1 with fail
  rw [← hU, ← hx2, ← hx1, ← hx0]
  clear hU hx0 hx1 hx2 hB
  go_upto_region 2 with (go_at_call 7; (with_reducible refine HAW.mono ?_); rintro e w1 ⟨rfl, hb⟩; have HB1 := hid hb; clear hb HAW)
  replace B0 : Hid (BX w1 x0 #[.slice ad n c, .int .i64 s, .int .i64 k] 27) := BX.kept B0.out HB1.out
  replace B1 : Hid (BX w1 x1 #[.slice ad2 n2 c2, .int .i64 s2, .int .i64 k2] 27) := BX.kept B1.out HB1.out
  replace B2 : Hid (BX w1 x2 #[.slice tad tn tc, .int .i64 a, .bool anch] 30) := BX.kept B2.out HB1.out
  have hsU : B ≤ U.heap.size := by have := HTOT.out.size; have := HBE.out; omega
  replace HTOT : Hid (Below B w w1) := HTOT.out.trans (Joins.below_le HB1.out hsU)
  clear HB1
  have hmk := makeT (tn + 2) (by omega) w1
  obtain ⟨M, hM⟩ : ∃ M, M = w1.alloc (.cells (madeCells #[.int .i64 0] (tn + 2)) 3) := ⟨_, rfl⟩
  obtain ⟨tb, htb⟩ : ∃ tb, tb = w1.heap.size := ⟨_, rfl⟩
  rw [← hM, ← htb, show ((tn + 2 : Nat) : Int) = (tn : Int) + 2 by omega] at hmk
  have hbM : Below w1.heap.size w1 M := by rw [hM]; exact Joins.below_alloc1 w1 _
  have hbs : B ≤ w1.heap.size := by have := HTOT.out.size; have := HBE.out; omega
  have TR : Hid (M.ownsRow B 3 1 (.slice (some ⟨tb, 0, none⟩) (tn + 2) (tn + 2)) (tn + 2) (I64 (List.replicate (tn + 2) 0))) := by show World.ownsRow _ _ _ _ _ _ _; rw [hM, htb]; exact madeT (tn + 2) B w1 hbs (by omega)
  have HBM := hid hbM
  have a2 : IntKind.i64.wrap ((tn : Int) + 2) = (tn : Int) + 2 := wrap_ok _ (by omega) (by omega)
  have a1 : IntKind.i64.wrap ((tn : Int) + 1) = (tn : Int) + 1 := wrap_ok _ (by omega) (by omega)
  obtain ⟨e0, e1, e2⟩ := three_cells B2.out
  have HTB := hid htb
  clear hbM hM htb
  go_upto_region 3 with fail
  clear hmk e0 e1 e2 a2
  replace B0 : Hid (BX M x0 #[.slice ad n c, .int .i64 s, .int .i64 k] 27) := BX.kept B0.out HBM.out
  replace B1 : Hid (BX M x1 #[.slice ad2 n2 c2, .int .i64 s2, .int .i64 k2] 27) := BX.kept B1.out HBM.out
  replace B2 : Hid (BX M x2 #[.slice tad tn tc, .int .i64 a, .bool anch] 30) := BX.kept B2.out HBM.out
  have hsw1 : B ≤ w1.heap.size := hbs
  replace HTOT : Hid (Below B w M) := HTOT.out.trans (Joins.below_le HBM.out hsw1)
  obtain ⟨M2, hcp, hrow2, hch2⟩ := copyT (tc := tc) ((HT0.out.below HTOT.out).mono (by have := HTOT.out.size; have := HBE.out; omega)) TR.out
  have hst := row_setC (row_setC hrow2 tn (.int .i64 71)) (tn + 1) (.int .i64 72)
  rw [marks2 HTL.out] at hst
  obtain ⟨e0, e1, e2⟩ := three_cells B2.out
  have hx2n : x2 ≠ tb := fun e => own_ne TR.out B2.out (by decide) (by rw [e]; rfl)
  have hk2 : M2.heap[x2]? = M.heap[x2]? := hch2.block x2 B2.out.lt (by simpa using hx2n)
  have e0b := (cell_eq hk2 0).trans e0
  have d0 := (row_there hrow2 (j := tn) (m := 1) (by omega) 0 (by omega))
  have d1 := (row_there hrow2 (j := tn + 1) (m := 1) (by omega) 0 (by omega))
  rw [Nat.add_zero] at d0 d1
  obtain ⟨v0, hv0⟩ := Option.isSome_iff_exists.1 d0.1
  obtain ⟨v1, hv1⟩ := Option.isSome_iff_exists.1 d1.1
  have f0 := d0.2
  have f1 := d1.2
  obtain ⟨M3, hM3⟩ : ∃ M3, M3 = M2.setCell ⟨tb, tn, none⟩ (.int .i64 71) := ⟨_, rfl⟩
  have hk3 : M3.heap[x2]? = M2.heap[x2]? := by rw [hM3]; exact Below.heap_setCell _ _ _ _ hx2n
  have e0c := (cell_eq hk3 0).trans e0b
  obtain ⟨M4, hM4⟩ : ∃ M4, M4 = M3.setCell ⟨tb, tn + 1, none⟩ (.int .i64 72) := ⟨_, rfl⟩
  have hk4 : M4.heap[x2]? = M3.heap[x2]? := by rw [hM4]; exact Below.heap_setCell _ _ _ _ hx2n
  have e0d := (cell_eq hk4 0).trans e0c
  have d1b := row_there (row_setC hrow2 tn (.int .i64 71)) (j := tn + 1) (m := 1) (by omega) 0 (by omega)
  rw [Nat.add_zero, ← hM3] at d1b
  obtain ⟨v1b, hv1b⟩ := Option.isSome_iff_exists.1 d1b.1
  have f1b := d1b.2
  have b1 : (tn : Int) < ((tn + 2 : Nat) : Int) := by omega
  have b1' : (tn : Int) < (tn : Int) + 2 := by omega
  have b2 : ((tn + 1 : Nat) : Int) < ((tn + 2 : Nat) : Int) := by omega
  have b2' : (tn : Int) + 1 < (tn : Int) + 2 := by omega
  have b3 : (tn : Int) ≤ ((tn + 2 : Nat) : Int) := by omega
  have b3' : (tn : Int) ≤ (tn : Int) + 2 := by omega
  have hch4 : Chg M M4 [tb] [tb] := by rw [hM4, hM3]; exact (hch2.set (a := ⟨tb, tn, none⟩) _ (by simp)).set (a := ⟨tb, tn + 1, none⟩) _ (by simp)
  have htbB : B ≤ tb := (TR.out.lt tb rfl).1
  have hbT : Below B M M4 := hch4.below (by have := (TR.out.lt tb rfl).2; omega) (by simpa using htbB)
  rw [← hM3, ← hM4] at hst
  have HST := hid hst
  have HCH := hid hch4
  have HBT := hid hbT
  have HM3 := hid hM3
  have HM4 := hid hM4
  clear hst hch4 hbT hch2 hrow2 d0 d1 d1b hk2 hk3 hk4 hM3 hM4
  go_upto_region 4 with fail
  clear hcp e0 e1 e2
  go_upto_region 5 with fail
  rw [← HM3.out]
  clear HM3 e0b hv0 f0 hv1 f1
  go_upto_region 6 with fail
  rw [← HM4.out]
  clear HM4 e0c hv1b f1b
  go_upto_region 7 with fail
  clear e0d b1 b1' b2 b2' b3 b3' a1
  replace B0 : Hid (BX M4 x0 #[.slice ad n c, .int .i64 s, .int .i64 k] 27) := (HCH.out.block x0 B0.out.lt (by simpa using (fun e => own_ne TR.out B0.out (by decide) (by rw [e]; rfl) : x0 ≠ tb))).trans B0.out
  replace B1 : Hid (BX M4 x1 #[.slice ad2 n2 c2, .int .i64 s2, .int .i64 k2] 27) := (HCH.out.block x1 B1.out.lt (by simpa using (fun e => own_ne TR.out B1.out (by decide) (by rw [e]; rfl) : x1 ≠ tb))).trans B1.out
  replace B2 : Hid (BX M4 x2 #[.slice tad tn tc, .int .i64 a, .bool anch] 30) := (HCH.out.block x2 B2.out.lt (by simpa using hx2n)).trans B2.out
  replace HTOT : Hid (Below B w M4) := HTOT.out.trans HBT.out
  replace TR : Hid (M4.ownsRow B 3 1 (.slice (some ⟨tb, 0, none⟩) (tn + 2) (tn + 2)) (tn + 2) (I64 (tx ++ [71, 72]))) := HST.out
  clear HST HCH HBT HBM hx2n hBU hbs hsw1 hsU HTB
  have hsM4 : B ≤ M4.heap.size := by have := HTOT.out.size; have := HBE.out; omega
  have HC := lent9 (c := c) (s := s) (k := k) (HP0.out.kept HTOT.out hsM4) hn
  obtain ⟨NB, hNB⟩ : ∃ NB, NB = M4.heap.size := ⟨_, rfl⟩
  have hNBB : B ≤ NB := by omega
  have htbN : tb < NB := by have := (TR.out.lt tb rfl).2; omega
  rw [← hNB] at HC
  have HNB := hid hNB
  clear hNB
  obtain ⟨e0, e1, e2⟩ := three_cells B0.out
  go_upto_region 8 with (go_at_call 9; (with_reducible refine HC.mono ?_); rintro e w5 ⟨gz, MS, rfl, hpl, hb⟩; have PLQ := hid hpl; have HB := hid hb; clear hpl hb HC e0 e1 e2)
  replace HB : Hid (Below M4.heap.size M4 w5) := by show Below _ _ _; rw [← HNB.out]; exact HB.out
  obtain ⟨U5, hU5⟩ : ∃ U5, U5 = w5.alloc (.cells #[.slice (some ⟨gz, 0, none⟩) n (n + 2), .int .i64 s, .int .i64 k] 27) := ⟨_, rfl⟩
  obtain ⟨xq, hxq⟩ : ∃ xq, xq = w5.heap.size := ⟨_, rfl⟩
  rw [← hU5, ← hxq]
  have hbb : Below w5.heap.size w5 U5 := by rw [hU5]; exact Joins.below_alloc1 w5 _
  have BXxq : Hid (BX U5 xq #[.slice (some ⟨gz, 0, none⟩) n (n + 2), .int .i64 s, .int .i64 k] 27) := by show BX _ _ _ _; rw [hU5, hxq]; exact BX.new w5 _ _
  have HBV : Hid (Below M4.heap.size M4 U5) := HB.out.trans (Joins.below_le hbb HB.out.size)
  have HBB := hid hbb
  clear hU5 hxq hbb
  replace B0 : Hid (BX U5 x0 #[.slice ad n c, .int .i64 s, .int .i64 k] 27) := BX.kept B0.out HBV.out
  replace B1 : Hid (BX U5 x1 #[.slice ad2 n2 c2, .int .i64 s2, .int .i64 k2] 27) := BX.kept B1.out HBV.out
  replace B2 : Hid (BX U5 x2 #[.slice tad tn tc, .int .i64 a, .bool anch] 30) := BX.kept B2.out HBV.out
  replace TR : Hid (U5.ownsRow B 3 1 (.slice (some ⟨tb, 0, none⟩) (tn + 2) (tn + 2)) (tn + 2) (I64 (tx ++ [71, 72]))) := own_b TR.out HBV.out
  replace HTOT : Hid (Below B w U5) := HTOT.out.trans (Joins.below_le HBV.out hsM4)
  replace PLQ : Hid (PL U5 NB (some ⟨gz, 0, none⟩) n (n + 2) l MS) := PL.below PLQ.out HBB.out
  clear HB HBB HBV hsM4
  have hsU5 : B ≤ U5.heap.size := by have := HTOT.out.size; have := HBE.out; omega
  have HC := (run10 (c := n + 2) (tc := tn + 2) (s := s) (k := k) (a := a) (anch := anch) PLQ.out.pi (row_text HTL.out TR.out (by omega))).mono fun e w' h => h.fw
  obtain ⟨A1, hA1⟩ : ∃ A1, A1 = ans l tx s k a anch := ⟨_, rfl⟩
  have HAA1 := hid hA1
  have lenA1 : A1.cl.length ≤ 1002 := by rw [hA1]; exact ans_len
  clear hA1
  rw [← HAA1.out] at HC
  obtain ⟨Nxa, hNxa⟩ : ∃ Nxa, Nxa = U5.heap.size := ⟨_, rfl⟩
  have HNxa := hid hNxa
  have hlexa : B ≤ Nxa := by omega
  have htbxa : tb < Nxa := by have := (TR.out.lt tb rfl).2; omega
  clear hNxa
  obtain ⟨g0, g1, g2⟩ := three_cells BXxq.out
  obtain ⟨e0, e1, e2⟩ := three_cells B2.out
  go_upto_region 9 with (go_at_call 10; (with_reducible refine HC.mono ?_); rintro e w6 ⟨rxa, nxa, cxa, rfl, hnn, hro, hb⟩; have Rxa := hid hro; have HB := hid hb; clear hnn hro hb HC e0 e1 e2 g0 g1 g2)
  obtain ⟨U6, hU6⟩ : ∃ U6, U6 = w6.alloc (.cells #[.bool A1.ok, .slice rxa nxa cxa, .int .i64 A1.wh, .int .i64 A1.st] 33) := ⟨_, rfl⟩
  obtain ⟨xa, hxa⟩ : ∃ xa, xa = w6.heap.size := ⟨_, rfl⟩
  rw [← hU6, ← hxa]
  have hbb : Below w6.heap.size w6 U6 := by rw [hU6]; exact Joins.below_alloc1 w6 _
  have BXxa : Hid (BX U6 xa #[.bool A1.ok, .slice rxa nxa cxa, .int .i64 A1.wh, .int .i64 A1.st] 33) := by show BX _ _ _ _; rw [hU6, hxa]; exact BX.new w6 _ _
  have HBV : Hid (Below U5.heap.size U5 U6) := HB.out.trans (Joins.below_le hbb HB.out.size)
  have HBB := hid hbb
  clear hU6 hxa hbb
  replace B0 : Hid (BX U6 x0 #[.slice ad n c, .int .i64 s, .int .i64 k] 27) := BX.kept B0.out HBV.out
  replace B1 : Hid (BX U6 x1 #[.slice ad2 n2 c2, .int .i64 s2, .int .i64 k2] 27) := BX.kept B1.out HBV.out
  replace B2 : Hid (BX U6 x2 #[.slice tad tn tc, .int .i64 a, .bool anch] 30) := BX.kept B2.out HBV.out
  replace TR : Hid (U6.ownsRow B 3 1 (.slice (some ⟨tb, 0, none⟩) (tn + 2) (tn + 2)) (tn + 2) (I64 (tx ++ [71, 72]))) := own_b TR.out HBV.out
  replace PLQ : Hid (PL U6 NB (some ⟨gz, 0, none⟩) n (n + 2) l MS) := PL.below PLQ.out HBV.out
  replace BXxq : Hid (BX U6 xq #[.slice (some ⟨gz, 0, none⟩) n (n + 2), .int .i64 s, .int .i64 k] 27) := BX.kept BXxq.out HBV.out
  replace HTOT : Hid (Below B w U6) := HTOT.out.trans (Joins.below_le HBV.out hsU5)
  replace Rxa : Hid (U6.ownsRow Nxa 3 1 (.slice rxa nxa cxa) nxa (I64 A1.cl)) := by show World.ownsRow _ _ _ _ _ _ _; rw [HNxa.out]; exact own_b Rxa.out HBB.out
  obtain ⟨Txa, hTxa⟩ : ∃ Txa, Txa = U6.heap.size := ⟨_, rfl⟩
  have Lxa : Hid (∀ b, (Value.slice rxa nxa cxa).ownBlock = some b → Nxa ≤ b ∧ b < Txa) := fun b hb => by have := Rxa.out.lt b hb; rw [hTxa]; exact this
  have NTxa : Nxa ≤ Txa := by have := HBV.out.size; have := HNxa.out; omega
  have HTxa := hid hTxa
  clear hTxa
  clear HB HBB HBV hsU5
  have hsU6 : B ≤ U6.heap.size := by have := HTOT.out.size; have := HBE.out; omega
  have HC := (run10 (c := c2) (tc := tn + 2) (s := s2) (k := k2) (a := a) (anch := anch) (HP2.out.kept HTOT.out hsU6) (row_text HTL.out TR.out (by omega))).mono fun e w' h => h.fw
  obtain ⟨A2, hA2⟩ : ∃ A2, A2 = ans l2 tx s2 k2 a anch := ⟨_, rfl⟩
  have HAA2 := hid hA2
  have lenA2 : A2.cl.length ≤ 1002 := by rw [hA2]; exact ans_len
  clear hA2
  rw [← HAA2.out] at HC
  obtain ⟨Nxb, hNxb⟩ : ∃ Nxb, Nxb = U6.heap.size := ⟨_, rfl⟩
  have HNxb := hid hNxb
  have hlexb : B ≤ Nxb := by omega
  have htbxb : tb < Nxb := by have := (TR.out.lt tb rfl).2; omega
  clear hNxb
  obtain ⟨g0, g1, g2⟩ := three_cells B1.out
  obtain ⟨e0, e1, e2⟩ := three_cells B2.out
  go_upto_region 10 with (go_at_call 10; (with_reducible refine HC.mono ?_); rintro e w7 ⟨rxb, nxb, cxb, rfl, hnn, hro, hb⟩; have Rxb := hid hro; have HB := hid hb; clear hnn hro hb HC e0 e1 e2 g0 g1 g2)
  obtain ⟨U7, hU7⟩ : ∃ U7, U7 = w7.alloc (.cells #[.bool A2.ok, .slice rxb nxb cxb, .int .i64 A2.wh, .int .i64 A2.st] 33) := ⟨_, rfl⟩
  obtain ⟨xb, hxb⟩ : ∃ xb, xb = w7.heap.size := ⟨_, rfl⟩
  rw [← hU7, ← hxb]
  have hbb : Below w7.heap.size w7 U7 := by rw [hU7]; exact Joins.below_alloc1 w7 _
  have BXxb : Hid (BX U7 xb #[.bool A2.ok, .slice rxb nxb cxb, .int .i64 A2.wh, .int .i64 A2.st] 33) := by show BX _ _ _ _; rw [hU7, hxb]; exact BX.new w7 _ _
  have HBV : Hid (Below U6.heap.size U6 U7) := HB.out.trans (Joins.below_le hbb HB.out.size)
  have HBB := hid hbb
  clear hU7 hxb hbb
  replace B0 : Hid (BX U7 x0 #[.slice ad n c, .int .i64 s, .int .i64 k] 27) := BX.kept B0.out HBV.out
  replace B1 : Hid (BX U7 x1 #[.slice ad2 n2 c2, .int .i64 s2, .int .i64 k2] 27) := BX.kept B1.out HBV.out
  replace B2 : Hid (BX U7 x2 #[.slice tad tn tc, .int .i64 a, .bool anch] 30) := BX.kept B2.out HBV.out
  replace TR : Hid (U7.ownsRow B 3 1 (.slice (some ⟨tb, 0, none⟩) (tn + 2) (tn + 2)) (tn + 2) (I64 (tx ++ [71, 72]))) := own_b TR.out HBV.out
  replace PLQ : Hid (PL U7 NB (some ⟨gz, 0, none⟩) n (n + 2) l MS) := PL.below PLQ.out HBV.out
  replace BXxq : Hid (BX U7 xq #[.slice (some ⟨gz, 0, none⟩) n (n + 2), .int .i64 s, .int .i64 k] 27) := BX.kept BXxq.out HBV.out
  replace BXxa : Hid (BX U7 xa #[.bool A1.ok, .slice rxa nxa cxa, .int .i64 A1.wh, .int .i64 A1.st] 33) := BX.kept BXxa.out HBV.out
  replace Rxa : Hid (U7.ownsRow Nxa 3 1 (.slice rxa nxa cxa) nxa (I64 A1.cl)) := own_b Rxa.out HBV.out
  replace HTOT : Hid (Below B w U7) := HTOT.out.trans (Joins.below_le HBV.out hsU6)
  replace Rxb : Hid (U7.ownsRow Nxb 3 1 (.slice rxb nxb cxb) nxb (I64 A2.cl)) := by show World.ownsRow _ _ _ _ _ _ _; rw [HNxb.out]; exact own_b Rxb.out HBB.out
  obtain ⟨Txb, hTxb⟩ : ∃ Txb, Txb = U7.heap.size := ⟨_, rfl⟩
  have Lxb : Hid (∀ b, (Value.slice rxb nxb cxb).ownBlock = some b → Nxb ≤ b ∧ b < Txb) := fun b hb => by have := Rxb.out.lt b hb; rw [hTxb]; exact this
  have NTxb : Nxb ≤ Txb := by have := HBV.out.size; have := HNxb.out; omega
  have HTxb := hid hTxb
  clear hTxb
  clear HB HBB HBV hsU6
  have hsU7 : B ≤ U7.heap.size := by have := HTOT.out.size; have := HBE.out; omega
  have HC := (run10 (c := n + 2) (tc := tn + 2) (s := s) (k := k) (a := a) (anch := anch) PLQ.out.pi (row_text HTL.out TR.out (by omega))).mono fun e w' h => h.fw
  rw [← HAA1.out] at HC
  obtain ⟨Nxc, hNxc⟩ : ∃ Nxc, Nxc = U7.heap.size := ⟨_, rfl⟩
  have HNxc := hid hNxc
  have hlexc : B ≤ Nxc := by omega
  have htbxc : tb < Nxc := by have := (TR.out.lt tb rfl).2; omega
  clear hNxc
  obtain ⟨g0, g1, g2⟩ := three_cells BXxq.out
  obtain ⟨e0, e1, e2⟩ := three_cells B2.out
  go_upto_region 11 with (go_at_call 10; (with_reducible refine HC.mono ?_); rintro e w8 ⟨rxc, nxc, cxc, rfl, hnn, hro, hb⟩; have Rxc := hid hro; have HB := hid hb; clear hnn hro hb HC e0 e1 e2 g0 g1 g2)
  obtain ⟨U8, hU8⟩ : ∃ U8, U8 = w8.alloc (.cells #[.bool A1.ok, .slice rxc nxc cxc, .int .i64 A1.wh, .int .i64 A1.st] 33) := ⟨_, rfl⟩
  obtain ⟨xc, hxc⟩ : ∃ xc, xc = w8.heap.size := ⟨_, rfl⟩
  rw [← hU8, ← hxc]
  have hbb : Below w8.heap.size w8 U8 := by rw [hU8]; exact Joins.below_alloc1 w8 _
  have BXxc : Hid (BX U8 xc #[.bool A1.ok, .slice rxc nxc cxc, .int .i64 A1.wh, .int .i64 A1.st] 33) := by show BX _ _ _ _; rw [hU8, hxc]; exact BX.new w8 _ _
  have HBV : Hid (Below U7.heap.size U7 U8) := HB.out.trans (Joins.below_le hbb HB.out.size)
  have HBB := hid hbb
  clear hU8 hxc hbb
  replace B0 : Hid (BX U8 x0 #[.slice ad n c, .int .i64 s, .int .i64 k] 27) := BX.kept B0.out HBV.out
  replace B1 : Hid (BX U8 x1 #[.slice ad2 n2 c2, .int .i64 s2, .int .i64 k2] 27) := BX.kept B1.out HBV.out
  replace B2 : Hid (BX U8 x2 #[.slice tad tn tc, .int .i64 a, .bool anch] 30) := BX.kept B2.out HBV.out
  replace TR : Hid (U8.ownsRow B 3 1 (.slice (some ⟨tb, 0, none⟩) (tn + 2) (tn + 2)) (tn + 2) (I64 (tx ++ [71, 72]))) := own_b TR.out HBV.out
  replace PLQ : Hid (PL U8 NB (some ⟨gz, 0, none⟩) n (n + 2) l MS) := PL.below PLQ.out HBV.out
  replace BXxq : Hid (BX U8 xq #[.slice (some ⟨gz, 0, none⟩) n (n + 2), .int .i64 s, .int .i64 k] 27) := BX.kept BXxq.out HBV.out
  replace BXxa : Hid (BX U8 xa #[.bool A1.ok, .slice rxa nxa cxa, .int .i64 A1.wh, .int .i64 A1.st] 33) := BX.kept BXxa.out HBV.out
  replace Rxa : Hid (U8.ownsRow Nxa 3 1 (.slice rxa nxa cxa) nxa (I64 A1.cl)) := own_b Rxa.out HBV.out
  replace BXxb : Hid (BX U8 xb #[.bool A2.ok, .slice rxb nxb cxb, .int .i64 A2.wh, .int .i64 A2.st] 33) := BX.kept BXxb.out HBV.out
  replace Rxb : Hid (U8.ownsRow Nxb 3 1 (.slice rxb nxb cxb) nxb (I64 A2.cl)) := own_b Rxb.out HBV.out
  replace HTOT : Hid (Below B w U8) := HTOT.out.trans (Joins.below_le HBV.out hsU7)
  replace Rxc : Hid (U8.ownsRow Nxc 3 1 (.slice rxc nxc cxc) nxc (I64 A1.cl)) := by show World.ownsRow _ _ _ _ _ _ _; rw [HNxc.out]; exact own_b Rxc.out HBB.out
  obtain ⟨Txc, hTxc⟩ : ∃ Txc, Txc = U8.heap.size := ⟨_, rfl⟩
  have Lxc : Hid (∀ b, (Value.slice rxc nxc cxc).ownBlock = some b → Nxc ≤ b ∧ b < Txc) := fun b hb => by have := Rxc.out.lt b hb; rw [hTxc]; exact this
  have NTxc : Nxc ≤ Txc := by have := HBV.out.size; have := HNxc.out; omega
  have HTxc := hid hTxc
  have SZC : Hid (Txc ≤ U8.heap.size) := by show Txc ≤ _; omega
  clear hTxc
  clear HB HBB HBV hsU7
  have hsU8 : B ≤ U8.heap.size := by have := HTOT.out.size; have := HBE.out; omega
  have HC := (run11 (c := c) (tc := tc) (s := s) (k := k) (a := a) (anch := anch) (HP0.out.kept HTOT.out hsU8) ((HT0.out.below HTOT.out).mono hsU8)).mono fun e w' h => h.fw
  rw [← HAA1.out] at HC
  obtain ⟨Nxw, hNxw⟩ : ∃ Nxw, Nxw = U8.heap.size := ⟨_, rfl⟩
  have HNxw := hid hNxw
  have hlexw : B ≤ Nxw := by omega
  have htbxw : tb < Nxw := by have := (TR.out.lt tb rfl).2; omega
  clear hNxw
  obtain ⟨g0, g1, g2⟩ := three_cells B0.out
  obtain ⟨e0, e1, e2⟩ := three_cells B2.out
  go_upto_region 12 with (go_at_call 11; (with_reducible refine HC.mono ?_); rintro e w9 ⟨rxw, nxw, cxw, rfl, hnn, hro, hb⟩; have Rxw := hid hro; have HB := hid hb; clear hnn hro hb HC e0 e1 e2 g0 g1 g2)
  obtain ⟨U9, hU9⟩ : ∃ U9, U9 = w9.alloc (.cells #[.bool A1.ok, .slice rxw nxw cxw, .int .i64 A1.wh, .int .i64 A1.st] 33) := ⟨_, rfl⟩
  obtain ⟨xw, hxw⟩ : ∃ xw, xw = w9.heap.size := ⟨_, rfl⟩
  rw [← hU9, ← hxw]
  have hbb : Below w9.heap.size w9 U9 := by rw [hU9]; exact Joins.below_alloc1 w9 _
  have BXxw : Hid (BX U9 xw #[.bool A1.ok, .slice rxw nxw cxw, .int .i64 A1.wh, .int .i64 A1.st] 33) := by show BX _ _ _ _; rw [hU9, hxw]; exact BX.new w9 _ _
  have HBV : Hid (Below U8.heap.size U8 U9) := HB.out.trans (Joins.below_le hbb HB.out.size)
  have HBB := hid hbb
  clear hU9 hxw hbb
  replace B0 : Hid (BX U9 x0 #[.slice ad n c, .int .i64 s, .int .i64 k] 27) := BX.kept B0.out HBV.out
  replace B1 : Hid (BX U9 x1 #[.slice ad2 n2 c2, .int .i64 s2, .int .i64 k2] 27) := BX.kept B1.out HBV.out
  replace B2 : Hid (BX U9 x2 #[.slice tad tn tc, .int .i64 a, .bool anch] 30) := BX.kept B2.out HBV.out
  replace TR : Hid (U9.ownsRow B 3 1 (.slice (some ⟨tb, 0, none⟩) (tn + 2) (tn + 2)) (tn + 2) (I64 (tx ++ [71, 72]))) := own_b TR.out HBV.out
  replace PLQ : Hid (PL U9 NB (some ⟨gz, 0, none⟩) n (n + 2) l MS) := PL.below PLQ.out HBV.out
  replace BXxq : Hid (BX U9 xq #[.slice (some ⟨gz, 0, none⟩) n (n + 2), .int .i64 s, .int .i64 k] 27) := BX.kept BXxq.out HBV.out
  replace BXxa : Hid (BX U9 xa #[.bool A1.ok, .slice rxa nxa cxa, .int .i64 A1.wh, .int .i64 A1.st] 33) := BX.kept BXxa.out HBV.out
  replace Rxa : Hid (U9.ownsRow Nxa 3 1 (.slice rxa nxa cxa) nxa (I64 A1.cl)) := own_b Rxa.out HBV.out
  replace BXxb : Hid (BX U9 xb #[.bool A2.ok, .slice rxb nxb cxb, .int .i64 A2.wh, .int .i64 A2.st] 33) := BX.kept BXxb.out HBV.out
  replace Rxb : Hid (U9.ownsRow Nxb 3 1 (.slice rxb nxb cxb) nxb (I64 A2.cl)) := own_b Rxb.out HBV.out
  replace SZC : Hid (Txc ≤ U9.heap.size) := Nat.le_trans SZC.out (HBV.out).size
  replace BXxc : Hid (BX U9 xc #[.bool A1.ok, .slice rxc nxc cxc, .int .i64 A1.wh, .int .i64 A1.st] 33) := BX.kept BXxc.out HBV.out
  replace Rxc : Hid (U9.ownsRow Nxc 3 1 (.slice rxc nxc cxc) nxc (I64 A1.cl)) := own_b Rxc.out HBV.out
  replace HTOT : Hid (Below B w U9) := HTOT.out.trans (Joins.below_le HBV.out hsU8)
  replace Rxw : Hid (U9.ownsRow Nxw 3 1 (.slice rxw nxw cxw) nxw (I64 A1.cl)) := by show World.ownsRow _ _ _ _ _ _ _; rw [HNxw.out]; exact own_b Rxw.out HBB.out
  clear HB HBB HBV hsU8
  have hsU9 : B ≤ U9.heap.size := by have := HTOT.out.size; have := HBE.out; omega
  have HC := (run11 (c := c2) (tc := tc) (s := s2) (k := k2) (a := a) (anch := anch) (HP2.out.kept HTOT.out hsU9) ((HT0.out.below HTOT.out).mono hsU9)).mono fun e w' h => h.fw
  rw [← HAA2.out] at HC
  obtain ⟨Nxs, hNxs⟩ : ∃ Nxs, Nxs = U9.heap.size := ⟨_, rfl⟩
  have HNxs := hid hNxs
  have hlexs : B ≤ Nxs := by omega
  have htbxs : tb < Nxs := by have := (TR.out.lt tb rfl).2; omega
  clear hNxs
  obtain ⟨g0, g1, g2⟩ := three_cells B1.out
  obtain ⟨e0, e1, e2⟩ := three_cells B2.out
  go_upto_region 13 with (go_at_call 11; (with_reducible refine HC.mono ?_); rintro e wA ⟨rxs, nxs, cxs, rfl, hnn, hro, hb⟩; have Rxs := hid hro; have HB := hid hb; clear hnn hro hb HC e0 e1 e2 g0 g1 g2)
  obtain ⟨UA, hUA⟩ : ∃ UA, UA = wA.alloc (.cells #[.bool A2.ok, .slice rxs nxs cxs, .int .i64 A2.wh, .int .i64 A2.st] 33) := ⟨_, rfl⟩
  obtain ⟨xs, hxs⟩ : ∃ xs, xs = wA.heap.size := ⟨_, rfl⟩
  rw [← hUA, ← hxs]
  have hbb : Below wA.heap.size wA UA := by rw [hUA]; exact Joins.below_alloc1 wA _
  have BXxs : Hid (BX UA xs #[.bool A2.ok, .slice rxs nxs cxs, .int .i64 A2.wh, .int .i64 A2.st] 33) := by show BX _ _ _ _; rw [hUA, hxs]; exact BX.new wA _ _
  have HBV : Hid (Below U9.heap.size U9 UA) := HB.out.trans (Joins.below_le hbb HB.out.size)
  have HBB := hid hbb
  clear hUA hxs hbb
  replace B0 : Hid (BX UA x0 #[.slice ad n c, .int .i64 s, .int .i64 k] 27) := BX.kept B0.out HBV.out
  replace B1 : Hid (BX UA x1 #[.slice ad2 n2 c2, .int .i64 s2, .int .i64 k2] 27) := BX.kept B1.out HBV.out
  replace B2 : Hid (BX UA x2 #[.slice tad tn tc, .int .i64 a, .bool anch] 30) := BX.kept B2.out HBV.out
  replace TR : Hid (UA.ownsRow B 3 1 (.slice (some ⟨tb, 0, none⟩) (tn + 2) (tn + 2)) (tn + 2) (I64 (tx ++ [71, 72]))) := own_b TR.out HBV.out
  replace PLQ : Hid (PL UA NB (some ⟨gz, 0, none⟩) n (n + 2) l MS) := PL.below PLQ.out HBV.out
  replace BXxq : Hid (BX UA xq #[.slice (some ⟨gz, 0, none⟩) n (n + 2), .int .i64 s, .int .i64 k] 27) := BX.kept BXxq.out HBV.out
  replace BXxa : Hid (BX UA xa #[.bool A1.ok, .slice rxa nxa cxa, .int .i64 A1.wh, .int .i64 A1.st] 33) := BX.kept BXxa.out HBV.out
  replace Rxa : Hid (UA.ownsRow Nxa 3 1 (.slice rxa nxa cxa) nxa (I64 A1.cl)) := own_b Rxa.out HBV.out
  replace BXxb : Hid (BX UA xb #[.bool A2.ok, .slice rxb nxb cxb, .int .i64 A2.wh, .int .i64 A2.st] 33) := BX.kept BXxb.out HBV.out
  replace Rxb : Hid (UA.ownsRow Nxb 3 1 (.slice rxb nxb cxb) nxb (I64 A2.cl)) := own_b Rxb.out HBV.out
  replace SZC : Hid (Txc ≤ UA.heap.size) := Nat.le_trans SZC.out (HBV.out).size
  replace BXxc : Hid (BX UA xc #[.bool A1.ok, .slice rxc nxc cxc, .int .i64 A1.wh, .int .i64 A1.st] 33) := BX.kept BXxc.out HBV.out
  replace Rxc : Hid (UA.ownsRow Nxc 3 1 (.slice rxc nxc cxc) nxc (I64 A1.cl)) := own_b Rxc.out HBV.out
  replace BXxw : Hid (BX UA xw #[.bool A1.ok, .slice rxw nxw cxw, .int .i64 A1.wh, .int .i64 A1.st] 33) := BX.kept BXxw.out HBV.out
  replace Rxw : Hid (UA.ownsRow Nxw 3 1 (.slice rxw nxw cxw) nxw (I64 A1.cl)) := own_b Rxw.out HBV.out
  replace HTOT : Hid (Below B w UA) := HTOT.out.trans (Joins.below_le HBV.out hsU9)
  replace Rxs : Hid (UA.ownsRow Nxs 3 1 (.slice rxs nxs cxs) nxs (I64 A2.cl)) := by show World.ownsRow _ _ _ _ _ _ _; rw [HNxs.out]; exact own_b Rxs.out HBB.out
  clear HB HBB HBV hsU9
  have hsUA : B ≤ UA.heap.size := by have := HTOT.out.size; have := HBE.out; omega
  have HC := kept12 (s := s) (k := k) PLQ.out hn
  obtain ⟨g0, g1, g2⟩ := three_cells BXxq.out
  go_upto_region 14 with (go_at_call 12; (with_reducible refine HC.mono ?_); rintro e wB ⟨rfl, hb⟩; have HB := hid hb; clear hb HC g0 g1 g2)
  replace B0 : Hid (BX wB x0 #[.slice ad n c, .int .i64 s, .int .i64 k] 27) := BX.kept B0.out HB.out
  replace B1 : Hid (BX wB x1 #[.slice ad2 n2 c2, .int .i64 s2, .int .i64 k2] 27) := BX.kept B1.out HB.out
  replace B2 : Hid (BX wB x2 #[.slice tad tn tc, .int .i64 a, .bool anch] 30) := BX.kept B2.out HB.out
  replace TR : Hid (wB.ownsRow B 3 1 (.slice (some ⟨tb, 0, none⟩) (tn + 2) (tn + 2)) (tn + 2) (I64 (tx ++ [71, 72]))) := own_b TR.out HB.out
  replace PLQ : Hid (PL wB NB (some ⟨gz, 0, none⟩) n (n + 2) l MS) := PL.below PLQ.out HB.out
  replace BXxq : Hid (BX wB xq #[.slice (some ⟨gz, 0, none⟩) n (n + 2), .int .i64 s, .int .i64 k] 27) := BX.kept BXxq.out HB.out
  replace BXxa : Hid (BX wB xa #[.bool A1.ok, .slice rxa nxa cxa, .int .i64 A1.wh, .int .i64 A1.st] 33) := BX.kept BXxa.out HB.out
  replace Rxa : Hid (wB.ownsRow Nxa 3 1 (.slice rxa nxa cxa) nxa (I64 A1.cl)) := own_b Rxa.out HB.out
  replace BXxb : Hid (BX wB xb #[.bool A2.ok, .slice rxb nxb cxb, .int .i64 A2.wh, .int .i64 A2.st] 33) := BX.kept BXxb.out HB.out
  replace Rxb : Hid (wB.ownsRow Nxb 3 1 (.slice rxb nxb cxb) nxb (I64 A2.cl)) := own_b Rxb.out HB.out
  replace SZC : Hid (Txc ≤ wB.heap.size) := Nat.le_trans SZC.out (HB.out).size
  replace BXxc : Hid (BX wB xc #[.bool A1.ok, .slice rxc nxc cxc, .int .i64 A1.wh, .int .i64 A1.st] 33) := BX.kept BXxc.out HB.out
  replace Rxc : Hid (wB.ownsRow Nxc 3 1 (.slice rxc nxc cxc) nxc (I64 A1.cl)) := own_b Rxc.out HB.out
  replace BXxw : Hid (BX wB xw #[.bool A1.ok, .slice rxw nxw cxw, .int .i64 A1.wh, .int .i64 A1.st] 33) := BX.kept BXxw.out HB.out
  replace Rxw : Hid (wB.ownsRow Nxw 3 1 (.slice rxw nxw cxw) nxw (I64 A1.cl)) := own_b Rxw.out HB.out
  replace BXxs : Hid (BX wB xs #[.bool A2.ok, .slice rxs nxs cxs, .int .i64 A2.wh, .int .i64 A2.st] 33) := BX.kept BXxs.out HB.out
  replace Rxs : Hid (wB.ownsRow Nxs 3 1 (.slice rxs nxs cxs) nxs (I64 A2.cl)) := own_b Rxs.out HB.out
  replace HTOT : Hid (Below B w wB) := HTOT.out.trans (Joins.below_le HB.out hsUA)
  clear HB hsUA
  have hswB : B ≤ wB.heap.size := by have := HTOT.out.size; have := HBE.out; omega
  have HC := same11 (c := n + 2) (c' := c) (s := s) (k := k) PLQ.out.pi (HP0.out.kept HTOT.out hswB) (by have := hn; omega)
  obtain ⟨g0, g1, g2⟩ := three_cells BXxq.out
  obtain ⟨e0, e1, e2⟩ := three_cells B0.out
  go_upto_region 15 with (go_at_call 13; (with_reducible refine HC.mono ?_); rintro e wC ⟨rfl, hb⟩; have HB := hid hb; clear hb HC g0 g1 g2 e0 e1 e2)
  replace B0 : Hid (BX wC x0 #[.slice ad n c, .int .i64 s, .int .i64 k] 27) := BX.kept B0.out HB.out
  replace B1 : Hid (BX wC x1 #[.slice ad2 n2 c2, .int .i64 s2, .int .i64 k2] 27) := BX.kept B1.out HB.out
  replace B2 : Hid (BX wC x2 #[.slice tad tn tc, .int .i64 a, .bool anch] 30) := BX.kept B2.out HB.out
  replace TR : Hid (wC.ownsRow B 3 1 (.slice (some ⟨tb, 0, none⟩) (tn + 2) (tn + 2)) (tn + 2) (I64 (tx ++ [71, 72]))) := own_b TR.out HB.out
  replace PLQ : Hid (PL wC NB (some ⟨gz, 0, none⟩) n (n + 2) l MS) := PL.below PLQ.out HB.out
  replace BXxq : Hid (BX wC xq #[.slice (some ⟨gz, 0, none⟩) n (n + 2), .int .i64 s, .int .i64 k] 27) := BX.kept BXxq.out HB.out
  replace BXxa : Hid (BX wC xa #[.bool A1.ok, .slice rxa nxa cxa, .int .i64 A1.wh, .int .i64 A1.st] 33) := BX.kept BXxa.out HB.out
  replace Rxa : Hid (wC.ownsRow Nxa 3 1 (.slice rxa nxa cxa) nxa (I64 A1.cl)) := own_b Rxa.out HB.out
  replace BXxb : Hid (BX wC xb #[.bool A2.ok, .slice rxb nxb cxb, .int .i64 A2.wh, .int .i64 A2.st] 33) := BX.kept BXxb.out HB.out
  replace Rxb : Hid (wC.ownsRow Nxb 3 1 (.slice rxb nxb cxb) nxb (I64 A2.cl)) := own_b Rxb.out HB.out
  replace SZC : Hid (Txc ≤ wC.heap.size) := Nat.le_trans SZC.out (HB.out).size
  replace BXxc : Hid (BX wC xc #[.bool A1.ok, .slice rxc nxc cxc, .int .i64 A1.wh, .int .i64 A1.st] 33) := BX.kept BXxc.out HB.out
  replace Rxc : Hid (wC.ownsRow Nxc 3 1 (.slice rxc nxc cxc) nxc (I64 A1.cl)) := own_b Rxc.out HB.out
  replace BXxw : Hid (BX wC xw #[.bool A1.ok, .slice rxw nxw cxw, .int .i64 A1.wh, .int .i64 A1.st] 33) := BX.kept BXxw.out HB.out
  replace Rxw : Hid (wC.ownsRow Nxw 3 1 (.slice rxw nxw cxw) nxw (I64 A1.cl)) := own_b Rxw.out HB.out
  replace BXxs : Hid (BX wC xs #[.bool A2.ok, .slice rxs nxs cxs, .int .i64 A2.wh, .int .i64 A2.st] 33) := BX.kept BXxs.out HB.out
  replace Rxs : Hid (wC.ownsRow Nxs 3 1 (.slice rxs nxs cxs) nxs (I64 A2.cl)) := own_b Rxs.out HB.out
  replace HTOT : Hid (Below B w wC) := HTOT.out.trans (Joins.below_le HB.out hswB)
  clear HB hswB
  have hswC : B ≤ wC.heap.size := by have := HTOT.out.size; have := HBE.out; omega
  have HC := (same14 tx tx (.slice (some ⟨tb, 0, none⟩) tn (tn + 2)) (.slice tad tn tc) wC (text_ints (row_text HTL.out TR.out (by omega))) (text_ints ((HT0.out.below HTOT.out).mono hswC)) (by have := HTL.out; omega) (by have := HTL.out; omega)).mono fun e w' h => (show e = .returned (.bool true) ∧ Below wC.heap.size wC w' from by obtain ⟨he, q, rfl⟩ := h; exact ⟨by rw [he]; simp, (Eqw.drewN wC q).below _⟩)
  obtain ⟨e0, e1, e2⟩ := three_cells B2.out
  go_upto_region 16 with (go_at_call 14; (with_reducible refine HC.mono ?_); rintro e wD ⟨rfl, hb⟩; have HB := hid hb; clear hb HC e0 e1 e2)
  replace B0 : Hid (BX wD x0 #[.slice ad n c, .int .i64 s, .int .i64 k] 27) := BX.kept B0.out HB.out
  replace B1 : Hid (BX wD x1 #[.slice ad2 n2 c2, .int .i64 s2, .int .i64 k2] 27) := BX.kept B1.out HB.out
  replace B2 : Hid (BX wD x2 #[.slice tad tn tc, .int .i64 a, .bool anch] 30) := BX.kept B2.out HB.out
  replace TR : Hid (wD.ownsRow B 3 1 (.slice (some ⟨tb, 0, none⟩) (tn + 2) (tn + 2)) (tn + 2) (I64 (tx ++ [71, 72]))) := own_b TR.out HB.out
  replace PLQ : Hid (PL wD NB (some ⟨gz, 0, none⟩) n (n + 2) l MS) := PL.below PLQ.out HB.out
  replace BXxq : Hid (BX wD xq #[.slice (some ⟨gz, 0, none⟩) n (n + 2), .int .i64 s, .int .i64 k] 27) := BX.kept BXxq.out HB.out
  replace BXxa : Hid (BX wD xa #[.bool A1.ok, .slice rxa nxa cxa, .int .i64 A1.wh, .int .i64 A1.st] 33) := BX.kept BXxa.out HB.out
  replace Rxa : Hid (wD.ownsRow Nxa 3 1 (.slice rxa nxa cxa) nxa (I64 A1.cl)) := own_b Rxa.out HB.out
  replace BXxb : Hid (BX wD xb #[.bool A2.ok, .slice rxb nxb cxb, .int .i64 A2.wh, .int .i64 A2.st] 33) := BX.kept BXxb.out HB.out
  replace Rxb : Hid (wD.ownsRow Nxb 3 1 (.slice rxb nxb cxb) nxb (I64 A2.cl)) := own_b Rxb.out HB.out
  replace SZC : Hid (Txc ≤ wD.heap.size) := Nat.le_trans SZC.out (HB.out).size
  replace BXxc : Hid (BX wD xc #[.bool A1.ok, .slice rxc nxc cxc, .int .i64 A1.wh, .int .i64 A1.st] 33) := BX.kept BXxc.out HB.out
  replace Rxc : Hid (wD.ownsRow Nxc 3 1 (.slice rxc nxc cxc) nxc (I64 A1.cl)) := own_b Rxc.out HB.out
  replace BXxw : Hid (BX wD xw #[.bool A1.ok, .slice rxw nxw cxw, .int .i64 A1.wh, .int .i64 A1.st] 33) := BX.kept BXxw.out HB.out
  replace Rxw : Hid (wD.ownsRow Nxw 3 1 (.slice rxw nxw cxw) nxw (I64 A1.cl)) := own_b Rxw.out HB.out
  replace BXxs : Hid (BX wD xs #[.bool A2.ok, .slice rxs nxs cxs, .int .i64 A2.wh, .int .i64 A2.st] 33) := BX.kept BXxs.out HB.out
  replace Rxs : Hid (wD.ownsRow Nxs 3 1 (.slice rxs nxs cxs) nxs (I64 A2.cl)) := own_b Rxs.out HB.out
  replace HTOT : Hid (Below B w wD) := HTOT.out.trans (Joins.below_le HB.out hswC)
  clear HB hswC
  have hswD : B ≤ wD.heap.size := by have := HTOT.out.size; have := HBE.out; omega
  have HC := same15' Rxa.out Rxw.out lenA1
  obtain ⟨g0, g1, g2, g3⟩ := four_cells BXxa.out
  obtain ⟨e0, e1, e2, e3⟩ := four_cells BXxw.out
  go_upto_region 17 with (go_at_call 15; (with_reducible refine HC.mono ?_); rintro e wE ⟨rfl, hb⟩; have HB := hid hb; clear hb HC g0 g1 g2 g3 e0 e1 e2 e3)
  replace B0 : Hid (BX wE x0 #[.slice ad n c, .int .i64 s, .int .i64 k] 27) := BX.kept B0.out HB.out
  replace B1 : Hid (BX wE x1 #[.slice ad2 n2 c2, .int .i64 s2, .int .i64 k2] 27) := BX.kept B1.out HB.out
  replace B2 : Hid (BX wE x2 #[.slice tad tn tc, .int .i64 a, .bool anch] 30) := BX.kept B2.out HB.out
  replace TR : Hid (wE.ownsRow B 3 1 (.slice (some ⟨tb, 0, none⟩) (tn + 2) (tn + 2)) (tn + 2) (I64 (tx ++ [71, 72]))) := own_b TR.out HB.out
  replace PLQ : Hid (PL wE NB (some ⟨gz, 0, none⟩) n (n + 2) l MS) := PL.below PLQ.out HB.out
  replace BXxq : Hid (BX wE xq #[.slice (some ⟨gz, 0, none⟩) n (n + 2), .int .i64 s, .int .i64 k] 27) := BX.kept BXxq.out HB.out
  replace BXxa : Hid (BX wE xa #[.bool A1.ok, .slice rxa nxa cxa, .int .i64 A1.wh, .int .i64 A1.st] 33) := BX.kept BXxa.out HB.out
  replace Rxa : Hid (wE.ownsRow Nxa 3 1 (.slice rxa nxa cxa) nxa (I64 A1.cl)) := own_b Rxa.out HB.out
  replace BXxb : Hid (BX wE xb #[.bool A2.ok, .slice rxb nxb cxb, .int .i64 A2.wh, .int .i64 A2.st] 33) := BX.kept BXxb.out HB.out
  replace Rxb : Hid (wE.ownsRow Nxb 3 1 (.slice rxb nxb cxb) nxb (I64 A2.cl)) := own_b Rxb.out HB.out
  replace SZC : Hid (Txc ≤ wE.heap.size) := Nat.le_trans SZC.out (HB.out).size
  replace BXxc : Hid (BX wE xc #[.bool A1.ok, .slice rxc nxc cxc, .int .i64 A1.wh, .int .i64 A1.st] 33) := BX.kept BXxc.out HB.out
  replace Rxc : Hid (wE.ownsRow Nxc 3 1 (.slice rxc nxc cxc) nxc (I64 A1.cl)) := own_b Rxc.out HB.out
  replace BXxw : Hid (BX wE xw #[.bool A1.ok, .slice rxw nxw cxw, .int .i64 A1.wh, .int .i64 A1.st] 33) := BX.kept BXxw.out HB.out
  replace Rxw : Hid (wE.ownsRow Nxw 3 1 (.slice rxw nxw cxw) nxw (I64 A1.cl)) := own_b Rxw.out HB.out
  replace BXxs : Hid (BX wE xs #[.bool A2.ok, .slice rxs nxs cxs, .int .i64 A2.wh, .int .i64 A2.st] 33) := BX.kept BXxs.out HB.out
  replace Rxs : Hid (wE.ownsRow Nxs 3 1 (.slice rxs nxs cxs) nxs (I64 A2.cl)) := own_b Rxs.out HB.out
  replace HTOT : Hid (Below B w wE) := HTOT.out.trans (Joins.below_le HB.out hswD)
  clear HB hswD
  have hswE : B ≤ wE.heap.size := by have := HTOT.out.size; have := HBE.out; omega
  have HC := same15' Rxb.out Rxs.out lenA2
  obtain ⟨g0, g1, g2, g3⟩ := four_cells BXxb.out
  obtain ⟨e0, e1, e2, e3⟩ := four_cells BXxs.out
  go_upto_region 18 with (go_at_call 15; (with_reducible refine HC.mono ?_); rintro e wF ⟨rfl, hb⟩; have HB := hid hb; clear hb HC g0 g1 g2 g3 e0 e1 e2 e3)
  replace B0 : Hid (BX wF x0 #[.slice ad n c, .int .i64 s, .int .i64 k] 27) := BX.kept B0.out HB.out
  replace B1 : Hid (BX wF x1 #[.slice ad2 n2 c2, .int .i64 s2, .int .i64 k2] 27) := BX.kept B1.out HB.out
  replace B2 : Hid (BX wF x2 #[.slice tad tn tc, .int .i64 a, .bool anch] 30) := BX.kept B2.out HB.out
  replace TR : Hid (wF.ownsRow B 3 1 (.slice (some ⟨tb, 0, none⟩) (tn + 2) (tn + 2)) (tn + 2) (I64 (tx ++ [71, 72]))) := own_b TR.out HB.out
  replace PLQ : Hid (PL wF NB (some ⟨gz, 0, none⟩) n (n + 2) l MS) := PL.below PLQ.out HB.out
  replace BXxq : Hid (BX wF xq #[.slice (some ⟨gz, 0, none⟩) n (n + 2), .int .i64 s, .int .i64 k] 27) := BX.kept BXxq.out HB.out
  replace BXxa : Hid (BX wF xa #[.bool A1.ok, .slice rxa nxa cxa, .int .i64 A1.wh, .int .i64 A1.st] 33) := BX.kept BXxa.out HB.out
  replace Rxa : Hid (wF.ownsRow Nxa 3 1 (.slice rxa nxa cxa) nxa (I64 A1.cl)) := own_b Rxa.out HB.out
  replace BXxb : Hid (BX wF xb #[.bool A2.ok, .slice rxb nxb cxb, .int .i64 A2.wh, .int .i64 A2.st] 33) := BX.kept BXxb.out HB.out
  replace Rxb : Hid (wF.ownsRow Nxb 3 1 (.slice rxb nxb cxb) nxb (I64 A2.cl)) := own_b Rxb.out HB.out
  replace SZC : Hid (Txc ≤ wF.heap.size) := Nat.le_trans SZC.out (HB.out).size
  replace BXxc : Hid (BX wF xc #[.bool A1.ok, .slice rxc nxc cxc, .int .i64 A1.wh, .int .i64 A1.st] 33) := BX.kept BXxc.out HB.out
  replace Rxc : Hid (wF.ownsRow Nxc 3 1 (.slice rxc nxc cxc) nxc (I64 A1.cl)) := own_b Rxc.out HB.out
  replace BXxw : Hid (BX wF xw #[.bool A1.ok, .slice rxw nxw cxw, .int .i64 A1.wh, .int .i64 A1.st] 33) := BX.kept BXxw.out HB.out
  replace Rxw : Hid (wF.ownsRow Nxw 3 1 (.slice rxw nxw cxw) nxw (I64 A1.cl)) := own_b Rxw.out HB.out
  replace BXxs : Hid (BX wF xs #[.bool A2.ok, .slice rxs nxs cxs, .int .i64 A2.wh, .int .i64 A2.st] 33) := BX.kept BXxs.out HB.out
  replace Rxs : Hid (wF.ownsRow Nxs 3 1 (.slice rxs nxs cxs) nxs (I64 A2.cl)) := own_b Rxs.out HB.out
  replace HTOT : Hid (Below B w wF) := HTOT.out.trans (Joins.below_le HB.out hswE)
  clear HB hswE
  have hswF : B ≤ wF.heap.size := by have := HTOT.out.size; have := HBE.out; omega
  have HC := same15' Rxc.out Rxw.out lenA1
  obtain ⟨g0, g1, g2, g3⟩ := four_cells BXxc.out
  obtain ⟨e0, e1, e2, e3⟩ := four_cells BXxw.out
  go_upto_region 19 with (go_at_call 15; (with_reducible refine HC.mono ?_); rintro e wG ⟨rfl, hb⟩; have HB := hid hb; clear hb HC g0 g1 g2 g3 e0 e1 e2 e3)
  replace B0 : Hid (BX wG x0 #[.slice ad n c, .int .i64 s, .int .i64 k] 27) := BX.kept B0.out HB.out
  replace B1 : Hid (BX wG x1 #[.slice ad2 n2 c2, .int .i64 s2, .int .i64 k2] 27) := BX.kept B1.out HB.out
  replace B2 : Hid (BX wG x2 #[.slice tad tn tc, .int .i64 a, .bool anch] 30) := BX.kept B2.out HB.out
  replace TR : Hid (wG.ownsRow B 3 1 (.slice (some ⟨tb, 0, none⟩) (tn + 2) (tn + 2)) (tn + 2) (I64 (tx ++ [71, 72]))) := own_b TR.out HB.out
  replace PLQ : Hid (PL wG NB (some ⟨gz, 0, none⟩) n (n + 2) l MS) := PL.below PLQ.out HB.out
  replace BXxq : Hid (BX wG xq #[.slice (some ⟨gz, 0, none⟩) n (n + 2), .int .i64 s, .int .i64 k] 27) := BX.kept BXxq.out HB.out
  replace BXxa : Hid (BX wG xa #[.bool A1.ok, .slice rxa nxa cxa, .int .i64 A1.wh, .int .i64 A1.st] 33) := BX.kept BXxa.out HB.out
  replace Rxa : Hid (wG.ownsRow Nxa 3 1 (.slice rxa nxa cxa) nxa (I64 A1.cl)) := own_b Rxa.out HB.out
  replace BXxb : Hid (BX wG xb #[.bool A2.ok, .slice rxb nxb cxb, .int .i64 A2.wh, .int .i64 A2.st] 33) := BX.kept BXxb.out HB.out
  replace Rxb : Hid (wG.ownsRow Nxb 3 1 (.slice rxb nxb cxb) nxb (I64 A2.cl)) := own_b Rxb.out HB.out
  replace SZC : Hid (Txc ≤ wG.heap.size) := Nat.le_trans SZC.out (HB.out).size
  replace BXxc : Hid (BX wG xc #[.bool A1.ok, .slice rxc nxc cxc, .int .i64 A1.wh, .int .i64 A1.st] 33) := BX.kept BXxc.out HB.out
  replace Rxc : Hid (wG.ownsRow Nxc 3 1 (.slice rxc nxc cxc) nxc (I64 A1.cl)) := own_b Rxc.out HB.out
  replace BXxw : Hid (BX wG xw #[.bool A1.ok, .slice rxw nxw cxw, .int .i64 A1.wh, .int .i64 A1.st] 33) := BX.kept BXxw.out HB.out
  replace Rxw : Hid (wG.ownsRow Nxw 3 1 (.slice rxw nxw cxw) nxw (I64 A1.cl)) := own_b Rxw.out HB.out
  replace BXxs : Hid (BX wG xs #[.bool A2.ok, .slice rxs nxs cxs, .int .i64 A2.wh, .int .i64 A2.st] 33) := BX.kept BXxs.out HB.out
  replace Rxs : Hid (wG.ownsRow Nxs 3 1 (.slice rxs nxs cxs) nxs (I64 A2.cl)) := own_b Rxs.out HB.out
  replace HTOT : Hid (Below B w wG) := HTOT.out.trans (Joins.below_le HB.out hswF)
  clear HB hswF
  obtain ⟨e0, e1, e2⟩ := three_cells B2.out
  have t71 : wG.cell? ⟨tb, tn, none⟩ = some (.int .i64 71) := (TR.out.cellAt tn (by omega)).trans (mark71 HTL.out)
  have t72 : wG.cell? ⟨tb, tn + 1, none⟩ = some (.int .i64 72) := (TR.out.cellAt (tn + 1) (by omega)).trans (mark72 HTL.out)
  have a1 : IntKind.i64.wrap ((tn : Int) + 1) = (tn : Int) + 1 := wrap_ok _ (by omega) (by omega)
  have b1' : (tn : Int) < (tn : Int) + 2 := by omega
  have b2' : (tn : Int) + 1 < (tn : Int) + 2 := by omega
  have c1 : (A1.co != A1.co) = false := by simp
  have c2 : (A2.co != A2.co) = false := by simp
  go_upto_region 21 with fail
  clear e0 e1 e2 t71 t72 a1 b1' b2' c1 c2
  have hswG : B ≤ wG.heap.size := by have := HTOT.out.size; have := HBE.out; omega
  obtain ⟨hA, hAB⟩ := PLQ.out.at_
  have HC := turned16 (s := s) (k := k) PLQ.out hn hA hAB
  obtain ⟨g0, g1, g2⟩ := three_cells BXxq.out
  go_upto_region 22 with (go_at_call 16; (with_reducible refine HC.mono ?_); rintro e wH ⟨rfl, ⟨l3, MS3, hpl, -⟩, hch, -⟩; have PLT := hid hpl; have HCH := hid hch; clear hpl hch HC g0 g1 g2 hA hAB)
  replace B0 : Hid (BX wH x0 #[.slice ad n c, .int .i64 s, .int .i64 k] 27) := BX.chs B0.out HCH.out (by decide) (by decide)
  replace B1 : Hid (BX wH x1 #[.slice ad2 n2 c2, .int .i64 s2, .int .i64 k2] 27) := BX.chs B1.out HCH.out (by decide) (by decide)
  replace B2 : Hid (BX wH x2 #[.slice tad tn tc, .int .i64 a, .bool anch] 30) := BX.chs B2.out HCH.out (by decide) (by decide)
  replace TR : Hid (wH.ownsRow B 3 1 (.slice (some ⟨tb, 0, none⟩) (tn + 2) (tn + 2)) (tn + 2) (I64 (tx ++ [71, 72]))) := own_chs TR.out HCH.out
  replace BXxq : Hid (BX wH xq #[.slice (some ⟨gz, 0, none⟩) n (n + 2), .int .i64 s, .int .i64 k] 27) := BX.chs BXxq.out HCH.out (by decide) (by decide)
  replace BXxa : Hid (BX wH xa #[.bool A1.ok, .slice rxa nxa cxa, .int .i64 A1.wh, .int .i64 A1.st] 33) := BX.chs BXxa.out HCH.out (by decide) (by decide)
  replace Rxa : Hid (wH.ownsRow Nxa 3 1 (.slice rxa nxa cxa) nxa (I64 A1.cl)) := own_chs Rxa.out HCH.out
  replace BXxb : Hid (BX wH xb #[.bool A2.ok, .slice rxb nxb cxb, .int .i64 A2.wh, .int .i64 A2.st] 33) := BX.chs BXxb.out HCH.out (by decide) (by decide)
  replace Rxb : Hid (wH.ownsRow Nxb 3 1 (.slice rxb nxb cxb) nxb (I64 A2.cl)) := own_chs Rxb.out HCH.out
  replace SZC : Hid (Txc ≤ wH.heap.size) := Nat.le_trans SZC.out HCH.out.size
  replace BXxc : Hid (BX wH xc #[.bool A1.ok, .slice rxc nxc cxc, .int .i64 A1.wh, .int .i64 A1.st] 33) := BX.chs BXxc.out HCH.out (by decide) (by decide)
  replace Rxc : Hid (wH.ownsRow Nxc 3 1 (.slice rxc nxc cxc) nxc (I64 A1.cl)) := own_chs Rxc.out HCH.out
  replace BXxw : Hid (BX wH xw #[.bool A1.ok, .slice rxw nxw cxw, .int .i64 A1.wh, .int .i64 A1.st] 33) := BX.chs BXxw.out HCH.out (by decide) (by decide)
  replace Rxw : Hid (wH.ownsRow Nxw 3 1 (.slice rxw nxw cxw) nxw (I64 A1.cl)) := own_chs Rxw.out HCH.out
  replace BXxs : Hid (BX wH xs #[.bool A2.ok, .slice rxs nxs cxs, .int .i64 A2.wh, .int .i64 A2.st] 33) := BX.chs BXxs.out HCH.out (by decide) (by decide)
  replace Rxs : Hid (wH.ownsRow Nxs 3 1 (.slice rxs nxs cxs) nxs (I64 A2.cl)) := own_chs Rxs.out HCH.out
  replace HTOT : Hid (Below B w wH) := HTOT.out.trans (chs_below HCH.out hNBB hswG)
  clear HCH hswG PLQ
  have hswH : B ≤ wH.heap.size := by have := HTOT.out.size; have := HBE.out; omega
  have HROW : Hid (wH.ownsRow B 3 1 (.slice (some ⟨tb, 0, none⟩) (tn + 2) (tn + 2)) (tn + 2) (I64 (List.replicate 0 97 ++ (tx.drop 0 ++ [71, 72])))) := by show World.ownsRow _ _ _ _ _ _ _; simpa using TR.out
  go_wp2_with fail
  go_loopw [27] (fun s27 wr => ∃ i : Nat, s27 = .int .i64 (i : Int) ∧ i ≤ tn ∧ Hid (Chg wH wr [tb] [tb]) ∧ Hid (wr.ownsRow B 3 1 (.slice (some ⟨tb, 0, none⟩) (tn + 2) (tn + 2)) (tn + 2) (I64 (List.replicate i 97 ++ (tx.drop i ++ [71, 72]))))) (fun s27 _ => tn - (intOf s27).toNat)
  case atStart => exact ⟨0, rfl, Nat.zero_le _, Chg.refl _ _, HROW.out⟩
  case round =>
    clear HROW
    obtain ⟨i, rfl, hi, HCG, HRW⟩ := hrel
    by_cases hit : i < tn
    · have b1 : decide ((i : Int) < (tn : Int)) = true := by simp; omega
      have b2 : (i : Int) < (tn : Int) := by omega
      have ap : IntKind.i64.wrap ((i : Int) + 1) = (i : Int) + 1 := wrap_ok _ (by omega) (by omega)
      have d0 := row_there HRW.out (j := i) (m := 1) (by omega) 0 (by omega)
      rw [Nat.add_zero] at d0
      obtain ⟨v0, hv0⟩ := Option.isSome_iff_exists.1 d0.1
      have f0 := d0.2
      have hnew := row_setC HRW.out i (.int .i64 97)
      rw [fill97 HTL.out hit] at hnew
      have HNEW := hid hnew
      have HCG2 := hid (HCG.out.set (a := ⟨tb, i, none⟩) (.int .i64 97) (by simp))
      have hi2 : i < 9223372036854775807 := by omega
      clear d0 hnew
      go_wp2
      exact ⟨⟨i + 1, by push_cast; rfl, by omega, HCG2.out, HNEW.out⟩, by simp [intOf]; omega⟩
    · have b1 : decide ((i : Int) < (tn : Int)) = false := by simp; omega
      have b2 : ¬ ((i : Int) < (tn : Int)) := by omega
      obtain rfl : tn = i := by omega
      replace B0 : Hid (BX wr x0 #[.slice ad n c, .int .i64 s, .int .i64 k] 27) := BX.chg B0.out HCG.out TR.out rfl (by decide)
      replace B1 : Hid (BX wr x1 #[.slice ad2 n2 c2, .int .i64 s2, .int .i64 k2] 27) := BX.chg B1.out HCG.out TR.out rfl (by decide)
      replace B2 : Hid (BX wr x2 #[.slice tad tn tc, .int .i64 a, .bool anch] 30) := BX.chg B2.out HCG.out TR.out rfl (by decide)
      replace BXxq : Hid (BX wr xq #[.slice (some ⟨gz, 0, none⟩) n (n + 2), .int .i64 s, .int .i64 k] 27) := BX.chg BXxq.out HCG.out TR.out rfl (by decide)
      replace BXxa : Hid (BX wr xa #[.bool A1.ok, .slice rxa nxa cxa, .int .i64 A1.wh, .int .i64 A1.st] 33) := BX.chg BXxa.out HCG.out TR.out rfl (by decide)
      replace Rxa : Hid (wr.ownsRow Nxa 3 1 (.slice rxa nxa cxa) nxa (I64 A1.cl)) := own_chg Rxa.out HCG.out (by omega)
      replace BXxb : Hid (BX wr xb #[.bool A2.ok, .slice rxb nxb cxb, .int .i64 A2.wh, .int .i64 A2.st] 33) := BX.chg BXxb.out HCG.out TR.out rfl (by decide)
      replace Rxb : Hid (wr.ownsRow Nxb 3 1 (.slice rxb nxb cxb) nxb (I64 A2.cl)) := own_chg Rxb.out HCG.out (by omega)
      replace SZC : Hid (Txc ≤ wr.heap.size) := Nat.le_trans SZC.out HCG.out.size
      replace BXxc : Hid (BX wr xc #[.bool A1.ok, .slice rxc nxc cxc, .int .i64 A1.wh, .int .i64 A1.st] 33) := BX.chg BXxc.out HCG.out TR.out rfl (by decide)
      replace Rxc : Hid (wr.ownsRow Nxc 3 1 (.slice rxc nxc cxc) nxc (I64 A1.cl)) := own_chg Rxc.out HCG.out (by omega)
      replace BXxw : Hid (BX wr xw #[.bool A1.ok, .slice rxw nxw cxw, .int .i64 A1.wh, .int .i64 A1.st] 33) := BX.chg BXxw.out HCG.out TR.out rfl (by decide)
      replace Rxw : Hid (wr.ownsRow Nxw 3 1 (.slice rxw nxw cxw) nxw (I64 A1.cl)) := own_chg Rxw.out HCG.out (by omega)
      replace BXxs : Hid (BX wr xs #[.bool A2.ok, .slice rxs nxs cxs, .int .i64 A2.wh, .int .i64 A2.st] 33) := BX.chg BXxs.out HCG.out TR.out rfl (by decide)
      replace Rxs : Hid (wr.ownsRow Nxs 3 1 (.slice rxs nxs cxs) nxs (I64 A2.cl)) := own_chg Rxs.out HCG.out (by omega)
      replace PLT : Hid (PL wr NB (some ⟨gz, 0, none⟩) n (n + 2) l3 MS3) := PL.chg PLT.out HCG.out htbN
      replace HTOT : Hid (Below B w wr) := HTOT.out.trans (HCG.out.below hswH (by simp; omega))
      have h97 := HRW.out
      rw [show tx.drop tn = [] by rw [HTL.out]; simp, List.nil_append] at h97
      replace TR : Hid (wr.ownsRow B 3 1 (.slice (some ⟨tb, 0, none⟩) (tn + 2) (tn + 2)) (tn + 2) (I64 (List.replicate tn 97 ++ [71, 72]))) := h97
      have HT97 : Hid (tn = (List.replicate tn (97 : Int)).length) := by show tn = _; simp
      clear HCG HRW h97 hswH
      have hswr : B ≤ wr.heap.size := by have := HTOT.out.size; have := HBE.out; omega
      have HC := (run11 (c := n + 2) (tc := tn + 2) (s := s) (k := k) (a := a) (anch := (!anch)) PLT.out.pi (row_text HT97.out TR.out (by omega))).mono fun e w' h => h.fw
      obtain ⟨A3, hA3⟩ : ∃ A3, A3 = ans l3 (List.replicate tn 97) s k a (!anch) := ⟨_, rfl⟩
      have HAA3 := hid hA3
      have lenA3 : A3.cl.length ≤ 1002 := by rw [hA3]; exact ans_len
      clear hA3
      rw [← HAA3.out] at HC
      obtain ⟨Nxn, hNxn⟩ : ∃ Nxn, Nxn = wr.heap.size := ⟨_, rfl⟩
      have HNxn := hid hNxn
      have hlexn : B ≤ Nxn := by omega
      have htbxn : tb < Nxn := by have := (TR.out.lt tb rfl).2; omega
      clear hNxn
      obtain ⟨g0, g1, g2⟩ := three_cells BXxq.out
      obtain ⟨e0, e1, e2⟩ := three_cells B2.out
      go_upto_region 27 with (go_at_call 11; (with_reducible refine HC.mono ?_); rintro e wI ⟨rxn, nxn, cxn, rfl, hnn, hro, hb⟩; have Rxn := hid hro; have HB := hid hb; clear hnn hro hb HC e0 e1 e2 g0 g1 g2)
      obtain ⟨UI, hUI⟩ : ∃ UI, UI = wI.alloc (.cells #[.bool A3.ok, .slice rxn nxn cxn, .int .i64 A3.wh, .int .i64 A3.st] 33) := ⟨_, rfl⟩
      obtain ⟨xn, hxn⟩ : ∃ xn, xn = wI.heap.size := ⟨_, rfl⟩
      rw [← hUI, ← hxn]
      have hbb : Below wI.heap.size wI UI := by rw [hUI]; exact Joins.below_alloc1 wI _
      have BXxn : Hid (BX UI xn #[.bool A3.ok, .slice rxn nxn cxn, .int .i64 A3.wh, .int .i64 A3.st] 33) := by show BX _ _ _ _; rw [hUI, hxn]; exact BX.new wI _ _
      have HBV : Hid (Below wr.heap.size wr UI) := HB.out.trans (Joins.below_le hbb HB.out.size)
      have HBB := hid hbb
      clear hUI hxn hbb
      replace B0 : Hid (BX UI x0 #[.slice ad n c, .int .i64 s, .int .i64 k] 27) := BX.kept B0.out HBV.out
      replace B1 : Hid (BX UI x1 #[.slice ad2 n2 c2, .int .i64 s2, .int .i64 k2] 27) := BX.kept B1.out HBV.out
      replace B2 : Hid (BX UI x2 #[.slice tad tn tc, .int .i64 a, .bool anch] 30) := BX.kept B2.out HBV.out
      replace TR : Hid (UI.ownsRow B 3 1 (.slice (some ⟨tb, 0, none⟩) (tn + 2) (tn + 2)) (tn + 2) (I64 (List.replicate tn 97 ++ [71, 72]))) := own_b TR.out HBV.out
      replace BXxq : Hid (BX UI xq #[.slice (some ⟨gz, 0, none⟩) n (n + 2), .int .i64 s, .int .i64 k] 27) := BX.kept BXxq.out HBV.out
      replace BXxa : Hid (BX UI xa #[.bool A1.ok, .slice rxa nxa cxa, .int .i64 A1.wh, .int .i64 A1.st] 33) := BX.kept BXxa.out HBV.out
      replace Rxa : Hid (UI.ownsRow Nxa 3 1 (.slice rxa nxa cxa) nxa (I64 A1.cl)) := own_b Rxa.out HBV.out
      replace BXxb : Hid (BX UI xb #[.bool A2.ok, .slice rxb nxb cxb, .int .i64 A2.wh, .int .i64 A2.st] 33) := BX.kept BXxb.out HBV.out
      replace Rxb : Hid (UI.ownsRow Nxb 3 1 (.slice rxb nxb cxb) nxb (I64 A2.cl)) := own_b Rxb.out HBV.out
      replace SZC : Hid (Txc ≤ UI.heap.size) := Nat.le_trans SZC.out (HBV.out).size
      replace BXxc : Hid (BX UI xc #[.bool A1.ok, .slice rxc nxc cxc, .int .i64 A1.wh, .int .i64 A1.st] 33) := BX.kept BXxc.out HBV.out
      replace Rxc : Hid (UI.ownsRow Nxc 3 1 (.slice rxc nxc cxc) nxc (I64 A1.cl)) := own_b Rxc.out HBV.out
      replace BXxw : Hid (BX UI xw #[.bool A1.ok, .slice rxw nxw cxw, .int .i64 A1.wh, .int .i64 A1.st] 33) := BX.kept BXxw.out HBV.out
      replace Rxw : Hid (UI.ownsRow Nxw 3 1 (.slice rxw nxw cxw) nxw (I64 A1.cl)) := own_b Rxw.out HBV.out
      replace BXxs : Hid (BX UI xs #[.bool A2.ok, .slice rxs nxs cxs, .int .i64 A2.wh, .int .i64 A2.st] 33) := BX.kept BXxs.out HBV.out
      replace Rxs : Hid (UI.ownsRow Nxs 3 1 (.slice rxs nxs cxs) nxs (I64 A2.cl)) := own_b Rxs.out HBV.out
      replace PLT : Hid (PL UI NB (some ⟨gz, 0, none⟩) n (n + 2) l3 MS3) := PL.below PLT.out HBV.out
      replace HTOT : Hid (Below B w UI) := HTOT.out.trans (Joins.below_le HBV.out hswr)
      replace Rxn : Hid (UI.ownsRow Nxn 3 1 (.slice rxn nxn cxn) nxn (I64 A3.cl)) := by show World.ownsRow _ _ _ _ _ _ _; rw [HNxn.out]; exact own_b Rxn.out HBB.out
      clear HB HBB HBV hswr
      have SZI : Hid (Txc ≤ UI.heap.size) := SZC.out
      have hsUI : B ≤ UI.heap.size := by have := HTOT.out.size; have := HBE.out; omega
      have HC := (run10 (c := n + 2) (tc := tn + 2) (s := s) (k := k) (a := a) (anch := (!anch)) PLT.out.pi (row_text HT97.out TR.out (by omega))).mono fun e w' h => h.fw
      rw [← HAA3.out] at HC
      obtain ⟨Nxd, hNxd⟩ : ∃ Nxd, Nxd = UI.heap.size := ⟨_, rfl⟩
      have HNxd := hid hNxd
      have hlexd : B ≤ Nxd := by omega
      have htbxd : tb < Nxd := by have := (TR.out.lt tb rfl).2; omega
      clear hNxd
      obtain ⟨g0, g1, g2⟩ := three_cells BXxq.out
      obtain ⟨e0, e1, e2⟩ := three_cells B2.out
      go_upto_region 28 with (go_at_call 10; (with_reducible refine HC.mono ?_); rintro e wJ ⟨rxd, nxd, cxd, rfl, hnn, hro, hb⟩; have Rxd := hid hro; have HB := hid hb; clear hnn hro hb HC e0 e1 e2 g0 g1 g2)
      obtain ⟨UJ, hUJ⟩ : ∃ UJ, UJ = wJ.alloc (.cells #[.bool A3.ok, .slice rxd nxd cxd, .int .i64 A3.wh, .int .i64 A3.st] 33) := ⟨_, rfl⟩
      obtain ⟨xd, hxd⟩ : ∃ xd, xd = wJ.heap.size := ⟨_, rfl⟩
      rw [← hUJ, ← hxd]
      have hbb : Below wJ.heap.size wJ UJ := by rw [hUJ]; exact Joins.below_alloc1 wJ _
      have BXxd : Hid (BX UJ xd #[.bool A3.ok, .slice rxd nxd cxd, .int .i64 A3.wh, .int .i64 A3.st] 33) := by show BX _ _ _ _; rw [hUJ, hxd]; exact BX.new wJ _ _
      have HBV : Hid (Below UI.heap.size UI UJ) := HB.out.trans (Joins.below_le hbb HB.out.size)
      have HBB := hid hbb
      clear hUJ hxd hbb
      replace B0 : Hid (BX UJ x0 #[.slice ad n c, .int .i64 s, .int .i64 k] 27) := BX.kept B0.out HBV.out
      replace B1 : Hid (BX UJ x1 #[.slice ad2 n2 c2, .int .i64 s2, .int .i64 k2] 27) := BX.kept B1.out HBV.out
      replace B2 : Hid (BX UJ x2 #[.slice tad tn tc, .int .i64 a, .bool anch] 30) := BX.kept B2.out HBV.out
      replace TR : Hid (UJ.ownsRow B 3 1 (.slice (some ⟨tb, 0, none⟩) (tn + 2) (tn + 2)) (tn + 2) (I64 (List.replicate tn 97 ++ [71, 72]))) := own_b TR.out HBV.out
      replace BXxq : Hid (BX UJ xq #[.slice (some ⟨gz, 0, none⟩) n (n + 2), .int .i64 s, .int .i64 k] 27) := BX.kept BXxq.out HBV.out
      replace BXxa : Hid (BX UJ xa #[.bool A1.ok, .slice rxa nxa cxa, .int .i64 A1.wh, .int .i64 A1.st] 33) := BX.kept BXxa.out HBV.out
      replace Rxa : Hid (UJ.ownsRow Nxa 3 1 (.slice rxa nxa cxa) nxa (I64 A1.cl)) := own_b Rxa.out HBV.out
      replace BXxb : Hid (BX UJ xb #[.bool A2.ok, .slice rxb nxb cxb, .int .i64 A2.wh, .int .i64 A2.st] 33) := BX.kept BXxb.out HBV.out
      replace Rxb : Hid (UJ.ownsRow Nxb 3 1 (.slice rxb nxb cxb) nxb (I64 A2.cl)) := own_b Rxb.out HBV.out
      replace SZC : Hid (Txc ≤ UJ.heap.size) := Nat.le_trans SZC.out (HBV.out).size
      replace BXxc : Hid (BX UJ xc #[.bool A1.ok, .slice rxc nxc cxc, .int .i64 A1.wh, .int .i64 A1.st] 33) := BX.kept BXxc.out HBV.out
      replace Rxc : Hid (UJ.ownsRow Nxc 3 1 (.slice rxc nxc cxc) nxc (I64 A1.cl)) := own_b Rxc.out HBV.out
      replace BXxw : Hid (BX UJ xw #[.bool A1.ok, .slice rxw nxw cxw, .int .i64 A1.wh, .int .i64 A1.st] 33) := BX.kept BXxw.out HBV.out
      replace Rxw : Hid (UJ.ownsRow Nxw 3 1 (.slice rxw nxw cxw) nxw (I64 A1.cl)) := own_b Rxw.out HBV.out
      replace BXxs : Hid (BX UJ xs #[.bool A2.ok, .slice rxs nxs cxs, .int .i64 A2.wh, .int .i64 A2.st] 33) := BX.kept BXxs.out HBV.out
      replace Rxs : Hid (UJ.ownsRow Nxs 3 1 (.slice rxs nxs cxs) nxs (I64 A2.cl)) := own_b Rxs.out HBV.out
      replace PLT : Hid (PL UJ NB (some ⟨gz, 0, none⟩) n (n + 2) l3 MS3) := PL.below PLT.out HBV.out
      replace BXxn : Hid (BX UJ xn #[.bool A3.ok, .slice rxn nxn cxn, .int .i64 A3.wh, .int .i64 A3.st] 33) := BX.kept BXxn.out HBV.out
      replace Rxn : Hid (UJ.ownsRow Nxn 3 1 (.slice rxn nxn cxn) nxn (I64 A3.cl)) := own_b Rxn.out HBV.out
      replace HTOT : Hid (Below B w UJ) := HTOT.out.trans (Joins.below_le HBV.out hsUI)
      replace Rxd : Hid (UJ.ownsRow Nxd 3 1 (.slice rxd nxd cxd) nxd (I64 A3.cl)) := by show World.ownsRow _ _ _ _ _ _ _; rw [HNxd.out]; exact own_b Rxd.out HBB.out
      clear HB HBB HBV hsUI
      have hsUJ : B ≤ UJ.heap.size := by have := HTOT.out.size; have := HBE.out; omega
      have HC := same15' Rxd.out Rxn.out lenA3
      obtain ⟨g0, g1, g2, g3⟩ := four_cells BXxd.out
      obtain ⟨e0, e1, e2, e3⟩ := four_cells BXxn.out
      go_upto_region 29 with (go_at_call 15; (with_reducible refine HC.mono ?_); rintro e wK ⟨rfl, hb⟩; have HB := hid hb; clear hb HC g0 g1 g2 g3 e0 e1 e2 e3)
      replace B0 : Hid (BX wK x0 #[.slice ad n c, .int .i64 s, .int .i64 k] 27) := BX.kept B0.out HB.out
      replace B1 : Hid (BX wK x1 #[.slice ad2 n2 c2, .int .i64 s2, .int .i64 k2] 27) := BX.kept B1.out HB.out
      replace B2 : Hid (BX wK x2 #[.slice tad tn tc, .int .i64 a, .bool anch] 30) := BX.kept B2.out HB.out
      replace TR : Hid (wK.ownsRow B 3 1 (.slice (some ⟨tb, 0, none⟩) (tn + 2) (tn + 2)) (tn + 2) (I64 (List.replicate tn 97 ++ [71, 72]))) := own_b TR.out HB.out
      replace BXxq : Hid (BX wK xq #[.slice (some ⟨gz, 0, none⟩) n (n + 2), .int .i64 s, .int .i64 k] 27) := BX.kept BXxq.out HB.out
      replace BXxa : Hid (BX wK xa #[.bool A1.ok, .slice rxa nxa cxa, .int .i64 A1.wh, .int .i64 A1.st] 33) := BX.kept BXxa.out HB.out
      replace Rxa : Hid (wK.ownsRow Nxa 3 1 (.slice rxa nxa cxa) nxa (I64 A1.cl)) := own_b Rxa.out HB.out
      replace BXxb : Hid (BX wK xb #[.bool A2.ok, .slice rxb nxb cxb, .int .i64 A2.wh, .int .i64 A2.st] 33) := BX.kept BXxb.out HB.out
      replace Rxb : Hid (wK.ownsRow Nxb 3 1 (.slice rxb nxb cxb) nxb (I64 A2.cl)) := own_b Rxb.out HB.out
      replace SZC : Hid (Txc ≤ wK.heap.size) := Nat.le_trans SZC.out (HB.out).size
      replace BXxc : Hid (BX wK xc #[.bool A1.ok, .slice rxc nxc cxc, .int .i64 A1.wh, .int .i64 A1.st] 33) := BX.kept BXxc.out HB.out
      replace Rxc : Hid (wK.ownsRow Nxc 3 1 (.slice rxc nxc cxc) nxc (I64 A1.cl)) := own_b Rxc.out HB.out
      replace BXxw : Hid (BX wK xw #[.bool A1.ok, .slice rxw nxw cxw, .int .i64 A1.wh, .int .i64 A1.st] 33) := BX.kept BXxw.out HB.out
      replace Rxw : Hid (wK.ownsRow Nxw 3 1 (.slice rxw nxw cxw) nxw (I64 A1.cl)) := own_b Rxw.out HB.out
      replace BXxs : Hid (BX wK xs #[.bool A2.ok, .slice rxs nxs cxs, .int .i64 A2.wh, .int .i64 A2.st] 33) := BX.kept BXxs.out HB.out
      replace Rxs : Hid (wK.ownsRow Nxs 3 1 (.slice rxs nxs cxs) nxs (I64 A2.cl)) := own_b Rxs.out HB.out
      replace PLT : Hid (PL wK NB (some ⟨gz, 0, none⟩) n (n + 2) l3 MS3) := PL.below PLT.out HB.out
      replace BXxn : Hid (BX wK xn #[.bool A3.ok, .slice rxn nxn cxn, .int .i64 A3.wh, .int .i64 A3.st] 33) := BX.kept BXxn.out HB.out
      replace Rxn : Hid (wK.ownsRow Nxn 3 1 (.slice rxn nxn cxn) nxn (I64 A3.cl)) := own_b Rxn.out HB.out
      replace BXxd : Hid (BX wK xd #[.bool A3.ok, .slice rxd nxd cxd, .int .i64 A3.wh, .int .i64 A3.st] 33) := BX.kept BXxd.out HB.out
      replace Rxd : Hid (wK.ownsRow Nxd 3 1 (.slice rxd nxd cxd) nxd (I64 A3.cl)) := own_b Rxd.out HB.out
      replace HTOT : Hid (Below B w wK) := HTOT.out.trans (Joins.below_le HB.out hsUJ)
      clear HB hsUJ
      have hswK : B ≤ wK.heap.size := by have := HTOT.out.size; have := HBE.out; omega
      obtain ⟨UL, hUL⟩ : ∃ UL, UL = wK.alloc (.cells #[.slice rxa nxa cxa, .slice rxb nxb cxb, .slice rxc nxc cxc, .slice rxd nxd cxd] 28) := ⟨_, rfl⟩
      have hbb : Below wK.heap.size wK UL := by rw [hUL]; exact Joins.below_alloc1 wK _
      obtain ⟨g, hg⟩ : ∃ g, g = wK.heap.size := ⟨_, rfl⟩
      have hgx : BX UL g #[.slice rxa nxa cxa, .slice rxb nxb cxb, .slice rxc nxc cxc, .slice rxd nxd cxd] 28 := by rw [hUL, hg]; exact BX.new wK _ _
      have HC := owned_four hgx (Nat.le_trans hswK hbb.size) hlexa (by have := HTxa.out; have := HNxb.out; omega) (by have := HTxb.out; have := HNxc.out; omega) (by have := SZI.out; have := HNxd.out; omega) Lxa.out Lxb.out Lxc.out NTxa NTxb NTxc (own_b Rxa.out hbb) (own_b Rxb.out hbb) (own_b Rxc.out hbb) (own_b Rxd.out hbb) ⟨by have := own_len Rxa.out; omega, by have := own_len Rxb.out; omega, by have := own_len Rxc.out; omega, by have := own_len Rxd.out; omega⟩
      obtain ⟨p0, p1, p2, p3⟩ := four_cells BXxa.out
      obtain ⟨q0, q1, q2, q3⟩ := four_cells BXxb.out
      obtain ⟨s0, s1, s2, s3⟩ := four_cells BXxc.out
      obtain ⟨t0, t1, t2, t3⟩ := four_cells BXxd.out
      have HTK := hid (HTOT.out.trans (Joins.below_le hbb hswK))
      have HUL := hid hUL
      have HGE := hid hg
      have HCC := hid HC
      clear hUL hg hbb hgx HC
      have c3 : (A3.co == A3.co) = true := by simp
      have HC2 : Calls Try.prog 17 #[.slice (some ⟨wK.heap.size, 0, none⟩) 4 4] (wK.alloc (.cells #[.slice rxa nxa cxa, .slice rxb nxb cxb, .slice rxc nxc cxc, .slice rxd nxd cxd] 28)) fun e w' => e = .returned (.bool true) ∧ Below B (wK.alloc (.cells #[.slice rxa nxa cxa, .slice rxb nxb cxb, .slice rxc nxc cxc, .slice rxd nxd cxd] 28)) w' := by rw [← HUL.out, ← HGE.out]; exact HCC.out
      go_wp2_with (go_at_call 17; (with_reducible refine HC2.mono ?_); rintro e wZ ⟨rfl, hb⟩; have HBZ := hid hb; clear hb HC2)
      all_goals go_ret
      all_goals refine ⟨rfl, ?_⟩
      all_goals rw [← HBE.out]
      all_goals refine HTK.out.trans ?_
      all_goals rw [HUL.out]
      all_goals exact HBZ.out
end Go.Proofs.Ytaoagcnbdfklnaa
namespace Go.Proofs.Ytaoagcnbdfklnaa
open Go.ChangeShapes Go.WideShapes Go.ChangeAt Go.RowKit
set_option linter.unusedVariables false
set_option linter.unusedSimpArgs false
set_option maxRecDepth 100000 in
theorem runsLifted (os : Os) (started : os.Started) (H : Type) (enc : TypeId × Value → H) :
    ReturnsInHanded {} Try.checked os 4 .any (Rows.pikeRunsSpec.pre6 enc Try.prog Try.f4 Rows.pikeRunsRow.domain false) (Rows.pikeRunsSpec.post enc Try.prog Try.f4 false true false false) := by
  refine returnsInHanded_of_change_sized (C := Try.checked) ownB started (by kernel_rfl) Try.func4
    (ChangeSpec.witness6 (enc := enc) (C := Try.checked) false ⟨#[], #[.agg #[.slice none 0 0, .int .i64 0, .int .i64 0], .agg #[.slice none 0 0, .int .i64 0, .int .i64 0], .agg #[.slice none 0 0, .int .i64 0, .bool false]], []⟩ 8 (by kernel_rfl) (by kernel_rfl) (by kernel_rfl) (by kernel_rfl)) ?_
  intro W base args ds gs before hval0 hW hcnd0 hsz0 hholds
  have hval : ∀ (j : Nat) t v, Try.f4.params[j]? = some t → args[j]? = some v → Value.okWide Try.prog W .any base t v := hval0
  have hW' := hW
  obtain ⟨p, q, hA0, hV, rfl, hfz, hnd⟩ := hW
  have hA : DataW.TrodAll enc Try.prog W 0 (fun _ => true) true Try.f4.params.toList args.toList ds p := hA0
  have hsz : ∀ n ∈ DataW.weightsEach Try.prog (Try.f4.params.toList ++ Rows.pikeRunsSpec.plain.varTypes Try.prog) (ds ++ gs), n ≤ reachBytes := fun n hn => by simpa using List.all_eq_true.1 hsz0 n hn
  rw [Try.params4] at hA hval hsz
  obtain ⟨v0, vs0, d0, ds0, p0, q0, hargs, rfl, rfl, h0, r0⟩ := trodAll_cons hA
  obtain ⟨v1, vs1, d1, ds1, p1, q1, rfl, rfl, rfl, h1, r1⟩ := trodAll_cons r0
  obtain ⟨v2, vs2, d2, ds2, p2, q2, rfl, rfl, rfl, h2, r2⟩ := trodAll_cons r1
  obtain ⟨rfl, rfl, rfl⟩ := trodAll_nil r2
  obtain rfl : args = #[v0, v1, v2] := by cases args; simp_all
  obtain ⟨rfl, rfl⟩ := trodVars_none hV
  have hlt0 : ∀ x ∈ p0, x.block < W.heap.size := fun x hx => by have := hW'.lt x (by simp [hx]); simpa using this
  have hlt1 : ∀ x ∈ p1, x.block < W.heap.size := fun x hx => by have := hW'.lt x (by simp [hx]); simpa using this
  have hlt2 : ∀ x ∈ p2, x.block < W.heap.size := fun x hx => by have := hW'.lt x (by simp [hx]); simpa using this
  obtain ⟨ad, n, c, s, k, l, rfl, _, _, hn, hP⟩ := prog_arg (hval 0 27 v0 rfl rfl) h0 (fun n hn => hsz n (DataW.weights_mem_each (j := 0) (by simp) (by simp) n hn))
  obtain ⟨ad2, n2, c2, s2, k2, l2, rfl, _, _, _, hP2⟩ := prog_arg (hval 1 27 v1 rfl rfl) h1 (fun n hn => hsz n (DataW.weights_mem_each (j := 1) (by simp) (by simp) n hn))
  obtain ⟨tad, tn, tc, a, anch, tx, rfl, hT, htn⟩ := asked_arg (hval 2 30 v2 rfl rfl) h2 (fun n hn => hsz n (DataW.weights_mem_each (j := 2) (by simp) (by simp) n hn))
  clear hA0 hval0
  refine (runs4 hP hP2 hT hn htn).mono fun e W' ⟨he, hb⟩ => ?_
  subst he
  exact ⟨_, rfl, _, _, _, [], p0 ++ (p1 ++ (p2 ++ [])), [], hW', trodAll_cons_mk (shut_bool Try.underlying4 _) trodAll_mk0, trodAll_cons_mk (Below.trod laidOut (by kernel_rfl) (of_decide_eq_true (by kernel_rfl)) h0 hb hlt0) (trodAll_cons_mk (Below.trod laidOut (by kernel_rfl) (of_decide_eq_true (by kernel_rfl)) h1 hb hlt1) (trodAll_cons_mk (Below.trod laidOut (by kernel_rfl) (of_decide_eq_true (by kernel_rfl)) h2 hb hlt2) trodAll_mk0)), rfl, hb.frame _, fun h => by cases h⟩
theorem pikeRuns_holds : Rows.PikeRunsSaid :=
  OpenClaim.holds_of_wide 4 Try.f4 rfl rfl rfl rfl rfl rfl rfl ⟨rfl, rfl, rfl, rfl, rfl⟩ rfl rfl rfl rfl rfl (by kernel_rfl) Try.func4 (by kernel_rfl)
    (of_decide_eq_true (by kernel_rfl)) (by unfold Func.isWrapper; first | (rw [if_pos (by decide +kernel)]; kernel_rfl) | (rw [if_neg (by decide +kernel)]; exact ⟨rfl, rfl⟩))
    (fun os started H enc _ => runsLifted os started H enc)
end Go.Proofs.Ytaoagcnbdfklnaa
