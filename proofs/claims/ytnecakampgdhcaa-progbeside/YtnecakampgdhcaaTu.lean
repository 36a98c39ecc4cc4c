/- HELPERS: a program that was lent, with other things in the same lists. -/
import Derived.Test.YtnecakampgdhcaaKp
import Derived.Deep.MidRow
namespace Go.Proofs.Ytnecakampgdhcaa
open Go.RowKit
set_option linter.unusedVariables false
set_option linter.unusedSimpArgs false
abbrev I6 : Iv := ⟨6, 0, 0, 0, none, 0, 0⟩
abbrev J6 : In := ⟨6, 0, 0, 0, []⟩
def JO (w : World) (base : Nat) (z : Value) (N : Iv) (I : In) : Prop := LO w base z N I ∨ (N = I6 ∧ I = J6)
theorem LO.kept {w w' : World} {base : Nat} {z : Value} {N : Iv} {I : In} (h : LO w base z N I) (hk : ∀ b, N.rv.ownBlock = some b → w'.heap[b]? = w.heap[b]?) : LO w' base z N I :=
  ⟨h.op, h.x, h.y, h.a, h.len, h.sm, row_kept h.rr (fun b hb => hk b ((ob_len _ _ _ _ _).trans hb)), h.ne⟩
structure TV (w : World) (base : Nat) (ad : Option Addr) (n c : Nat) (l : List In) (MS : List Iv) : Prop where
  len : n = l.length
  lms : MS.length = n
  row : w.ownsRow base 51 5 (.slice ad (n + 2) c) (n + 2) ((MS ++ [mkI (-77), mkI (-78)]).flatMap Iv.cs)
  lo : ∀ j (hj : j < l.length), JO w base (.slice ad (n + 2) c) (MS.getD j default) l[j]
  pw : ∀ j j' b, j < n → j' < n → j ≠ j' → (MS.getD j default).rv.ownBlock = some b → (MS.getD j' default).rv.ownBlock ≠ some b
theorem PL.tv {w : World} {base n c : Nat} {ad : Option Addr} {l : List In} {MS : List Iv} (h : PL w base ad n c l MS) : TV w base ad n c l MS := ⟨h.len, h.lms, h.row, fun j hj => .inl (h.lo j hj), h.pw⟩
theorem TV.below {w w' : World} {base n c : Nat} {ad : Option Addr} {l : List In} {MS : List Iv} (h : TV w base ad n c l MS) (hb : Below w.heap.size w w') : TV w' base ad n c l MS :=
  ⟨h.len, h.lms, row_kept h.row (fun b hb' => hb.block b (h.row.lt b hb').2), fun j hj => (h.lo j hj).imp (fun hO => hO.kept (fun b hb' => hb.block b (hO.rr.lt b ((ob_len _ _ _ _ _).trans hb')).2)) id, h.pw⟩
theorem TV.at5 {w : World} {base n c gz : Nat} {l : List In} {MS : List Iv} (h : TV w base (some ⟨gz, 0, none⟩) n c l MS) (i : Nat) (hi : i < n) : I5 w gz 0 i (MS.getD i default) := by
  have hjl : i < MS.length := by have := h.lms; omega
  have hg : MS.getD i default = MS[i] := by simp [List.getD_eq_getElem?_getD, List.getElem?_eq_getElem hjl]
  have f : ∀ q, q < 5 → w.cell? ⟨gz, i * 5 + q, none⟩ = (Iv.cs MS[i])[q]? := fun q hq => by
    rw [h.row.cellAt (i * 5 + q) (by omega), flat5 (MS ++ [mkI (-77), mkI (-78)]) i q (by simp; omega) hq, List.getElem_append_left hjl]
  have f0 := f 0 (by omega)
  rw [Nat.add_zero] at f0
  rw [hg]
  unfold I5
  rw [Nat.zero_add]
  exact ⟨f0, f 1 (by omega), f 2 (by omega), f 3 (by omega), f 4 (by omega)⟩
theorem LO.im {w : World} {base : Nat} {z : Value} {N : Iv} {I : In} (hO : LO w base z N I) : IM w w.heap.size N I := by
  refine ⟨hO.op, hO.x, hO.y, hO.a, hO.len, hO.sm, ?_⟩
  obtain ⟨g, e, _, _⟩ := hO.blk
  have hrr := hO.rr
  rw [e] at hrr
  refine ⟨_, _, by rw [hO.len], ?_⟩
  right
  refine ⟨g, 0, e, (hrr.lt g rfl).2, fun k hk => ?_, fun k hk => ?_⟩
  · rw [Nat.zero_add, hrr.cellAt (k * 2) (by omega), (O2_at (I.R ++ M2) k (by simp; omega)).1, List.getElem_append_left hk]
    simp [List.getD_eq_getElem?_getD, List.getElem?_eq_getElem hk]
  · rw [Nat.zero_add, hrr.cellAt (k * 2 + 1) (by omega), (O2_at (I.R ++ M2) k (by simp; omega)).2, List.getElem_append_left hk]
    simp [List.getD_eq_getElem?_getD, List.getElem?_eq_getElem hk]
theorem TV.pi {w : World} {base n c gz : Nat} {l : List In} {MS : List Iv} (h : TV w base (some ⟨gz, 0, none⟩) n c l MS) : PI w w.heap.size (some ⟨gz, 0, none⟩) n l := by
  refine ⟨h.len, fun hp => ⟨gz, 0, fun j => MS.getD j default, rfl, (h.row.lt gz rfl).2, fun i hi => ⟨h.at5 i (by have := h.len; omega), ?_⟩⟩⟩
  rcases h.lo i hi with hO | ⟨e1, e2⟩
  · exact hO.im
  · show IM w w.heap.size (MS.getD i default) l[i]
    rw [e1, e2]
    exact ⟨rfl, rfl, rfl, rfl, rfl, by decide, ⟨none, 0, rfl, .inl rfl⟩⟩
theorem O2_set : ∀ (L : List (Int × Int)) (i : Nat) (x y : Int), ((O2 L).set (i * 2) (.int .i64 x)).set (i * 2 + 1) (.int .i64 y) = O2 (L.set i (x, y)) := by
  intro L
  induction L with
  | nil => intro i x y; simp [O2]
  | cons a L ih =>
    intro i x y
    cases i with
    | zero => simp [O2]
    | succ i =>
      have h := ih i x y
      have e : O2 (a :: L) = .int .i64 a.1 :: .int .i64 a.2 :: O2 L := by simp [O2]
      have e2 : O2 ((a :: L).set (i + 1) (x, y)) = .int .i64 a.1 :: .int .i64 a.2 :: O2 (L.set i (x, y)) := by simp [O2]
      rw [e, e2, ← h, show (i + 1) * 2 = i * 2 + 1 + 1 by omega]
      simp
theorem flat5_set : ∀ (L : List Iv) (i : Nat) (M : Iv), i < L.length → (L.flatMap Iv.cs).take (i * 5) ++ Iv.cs M ++ (L.flatMap Iv.cs).drop (i * 5 + (Iv.cs M).length) = (L.set i M).flatMap Iv.cs := by
  intro L
  induction L with
  | nil => intro i M h; simp at h
  | cons a L ih =>
    intro i M h
    cases i with
    | zero => simp [List.flatMap_cons]
    | succ i =>
      have h1 := ih i M (by simpa using h)
      rw [List.set_cons_succ, List.flatMap_cons, List.flatMap_cons, ← h1]
      rw [show (i + 1) * 5 = (Iv.cs a).length + i * 5 by simp; omega, List.take_length_add_append, show (Iv.cs a).length + i * 5 + (Iv.cs M).length = (Iv.cs a).length + (i * 5 + (Iv.cs M).length) by omega, List.drop_length_add_append]
      simp
/-- one pair of an instruction's ranges is written -/
theorem TV.setR {w : World} {base n c gz g r3 : Nat} {l : List In} {MS : List Iv} {op x y a : Int} {r2 : Nat} (h : TV w base (some ⟨gz, 0, none⟩) n c l MS) (i : Nat) (hi : i < n) (hN : MS.getD i default = ⟨op, x, y, a, some ⟨g, 0, none⟩, r2, r3⟩) (k : Nat) (hk : k < r2) (p q : Int) :
    ∃ l', TV ((w.setCell ⟨g, k * 2, none⟩ (.int .i64 p)).setCell ⟨g, k * 2 + 1, none⟩ (.int .i64 q)) base (some ⟨gz, 0, none⟩) n c l' MS := by
  have hl := h.len
  have hil : i < l.length := by omega
  rcases h.lo i hil with hO | ⟨e1, _⟩
  rotate_left
  · rw [hN] at e1
    cases e1
  rw [hN] at hO
  have hne : gz ≠ g := fun e => hO.ne g rfl (by rw [e]; rfl)
  have hkeep : ∀ b, b ≠ g → ((w.setCell ⟨g, k * 2, none⟩ (.int .i64 p)).setCell ⟨g, k * 2 + 1, none⟩ (.int .i64 q)).heap[b]? = w.heap[b]? := fun b hb => (Below.heap_setCell _ _ _ _ hb).trans (Below.heap_setCell _ _ _ _ hb)
  have hlen : r2 = l[i].R.length := hO.len
  refine ⟨l.set i { l[i] with R := l[i].R.set k (p, q) }, by simpa using hl, h.lms, row_kept h.row (fun b hb => hkeep b (by cases hb; exact hne)), fun j hj => ?_, h.pw⟩
  have hjl : j < l.length := by simpa using hj
  by_cases e : i = j
  · subst e
    left
    rw [hN, List.getElem_set_self]
    refine ⟨hO.op, hO.x, hO.y, hO.a, by simpa using hlen, hO.sm, ?_, hO.ne⟩
    have h1 := row_setC (row_setC hO.rr (k * 2) (.int .i64 p)) (k * 2 + 1) (.int .i64 q)
    rw [O2_set, List.set_append_left _ _ (by omega)] at h1
    simpa using h1
  · rw [List.getElem_set_ne e]
    refine (h.lo j hjl).imp (fun hOj => hOj.kept (fun b hb => hkeep b (fun eb => ?_))) id
    subst eb
    exact h.pw j i b (by omega) hi (fun e' => e e'.symm) hb (by rw [hN]; rfl)
/-- one instruction is written -/
theorem TV.setI {w : World} {base n c gz : Nat} {l : List In} {MS : List Iv} (h : TV w base (some ⟨gz, 0, none⟩) n c l MS) (i : Nat) (hi : i < n) :
    TV (w.setCells gz (i * 5) (Iv.cs I6)) base (some ⟨gz, 0, none⟩) n c (l.set i J6) (MS.set i I6) := by
  have hl := h.len
  have hm := h.lms
  have hset := row_setCells (Iv.cs I6) (i * 5) w _ h.row (by rw [flat5_len]; simp; omega)
  rw [flat5_set _ i I6 (by simp; omega), List.set_append_left _ _ (by omega)] at hset
  have hkeep : ∀ b, b ≠ gz → (w.setCells gz (i * 5) (Iv.cs I6)).heap[b]? = w.heap[b]? := fun b hb => setCells_old gz _ _ _ b hb
  have hget : ∀ j, (MS.set i I6).getD j default = if j = i then I6 else MS.getD j default := fun j => by
    by_cases e : j = i
    · subst e; rw [if_pos rfl]; simp [List.getD_eq_getElem?_getD, show j < MS.length by omega]
    · rw [if_neg e]; simp [List.getD_eq_getElem?_getD, List.getElem?_set_ne (fun e' => e e'.symm)]
  refine ⟨by simpa using hl, by simpa using hm, hset, fun j hj => ?_, fun j j' b hj hj' hne h1 h2 => ?_⟩
  · have hjl : j < l.length := by simpa using hj
    rw [hget]
    by_cases e : i = j
    · subst e
      rw [if_pos rfl, List.getElem_set_self]
      exact .inr ⟨rfl, rfl⟩
    · rw [if_neg (fun e' => e e'.symm), List.getElem_set_ne e]
      exact (h.lo j hjl).imp (fun hOj => hOj.kept (fun b hb => hkeep b (fun eb => hOj.ne b hb (by rw [eb]; rfl)))) id
  · rw [hget] at h1 h2
    by_cases e : j = i
    · rw [if_pos e] at h1; cases h1
    · by_cases e' : j' = i
      · rw [if_pos e'] at h2; cases h2
      · rw [if_neg e] at h1
        rw [if_neg e'] at h2
        exact h.pw j j' b hj hj' hne h1 h2
theorem size49 : (Try.prog.info? 49).map (·.size) = some 2 := by kernel_rfl
theorem size51 : (Try.prog.info? 51).map (·.size) = some 5 := by kernel_rfl
theorem store49 {ops : Array Oper} {rest : List Oper} {op : Oper} {a : Act} {w : World} {Q : Exit → Act → World → Prop} (hgd : op.guard = none) (x y : Operand) (ho : op.op = .store 49 x y)
    (b i : Nat) (p q : Int) (hx : a.eval x = .pointer (some ⟨b, i * 2, none⟩)) (hy : a.eval y = .agg #[.int .i64 p, .int .i64 q]) (ht : w.there b (i * 2) 2)
    (h : wpList Try.prog ops Q rest (a.put op.dst undef) ((w.setCell ⟨b, i * 2, none⟩ (.int .i64 p)).setCell ⟨b, i * 2 + 1, none⟩ (.int .i64 q))) : wpList Try.prog ops Q (op :: rest) a w :=
  wpList_store_mid hgd 49 x y ho b (i * 2) #[.int .i64 p, .int .i64 q] hx hy ht size49 (by simp [Value.oneCell']) h
theorem store51 {ops : Array Oper} {rest : List Oper} {op : Oper} {a : Act} {w : World} {Q : Exit → Act → World → Prop} (hgd : op.guard = none) (x y : Operand) (ho : op.op = .store 51 x y)
    (b i : Nat) (hx : a.eval x = .pointer (some ⟨b, i * 5, none⟩)) (hy : a.eval y = I6.v) (ht : w.there b (i * 5) 5)
    (h : wpList Try.prog ops Q rest (a.put op.dst undef) (w.setCells b (i * 5) (Iv.cs I6))) : wpList Try.prog ops Q (op :: rest) a w :=
  wpList_store_mid hgd 51 x y ho b (i * 5) #[.int .i64 6, .int .i64 0, .int .i64 0, .int .i64 0, .slice none 0 0] hx hy ht size51 (by simp [Value.oneCell']) h
end Go.Proofs.Ytnecakampgdhcaa
