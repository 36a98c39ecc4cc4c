/- HELPERS: trees whose lists are their own; a row of nodes turned about; the mirrors of a row. -/
import Derived.Test.YtdidopgenhpakaaFr
import Derived.Test.YtdidopgenhpakaaMi
namespace Go.Proofs.Ytdidopgenhpakaa
open Go.RowKit
set_option linter.unusedVariables false
set_option linter.unusedSimpArgs false
/-- the cells of ranges -/
abbrev O2 (R : List (Int × Int)) : List Value := R.flatMap fun x => [.int .i64 x.1, .int .i64 x.2]
theorem O2_len (R : List (Int × Int)) : (O2 R).length = R.length * 2 := by
  induction R with
  | nil => rfl
  | cons x R ih => simp only [O2, List.flatMap_cons, List.length_append, List.length_cons, List.length_nil] at ih ⊢; omega
theorem O2_at : ∀ (R : List (Int × Int)) (i : Nat) (hi : i < R.length), (O2 R)[i * 2]? = some (.int .i64 R[i].1) ∧ (O2 R)[i * 2 + 1]? = some (.int .i64 R[i].2) := by
  intro R
  induction R with
  | nil => intro i hi; simp at hi
  | cons x R ih =>
    intro i hi
    cases i with
    | zero => simp [O2]
    | succ i =>
      have := ih i (by simpa using hi)
      have hf : O2 (x :: R) = [.int .i64 x.1, .int .i64 x.2] ++ O2 R := by simp [O2]
      rw [hf, show (i + 1) * 2 = i * 2 + 2 by omega, List.getElem?_append_right (by simp), show i * 2 + 2 + 1 = i * 2 + 1 + 2 by omega, List.getElem?_append_right (by simp)]
      simpa using this
theorem O2_one (R : List (Int × Int)) : ∀ u ∈ O2 R, u.oneCell' = true := by
  intro u hu
  simp only [O2, List.mem_flatMap] at hu
  obtain ⟨x, _, hx⟩ := hu
  simp at hx
  rcases hx with rfl | rfl <;> rfl
/-- the block of a list -/
abbrev Nv.rb (N : Nv) : Option Nat := (Value.slice N.r1 N.r2 N.r3).ownBlock
abbrev Nv.sb (N : Nv) : Option Nat := (Value.slice N.s1 N.s2 N.s3).ownBlock
/-- a tree whose lists lie in blocks of their own, each in one by itself: A -/
inductive TO (w : World) : Nv → Tn → (Nat → Prop) → Prop
  | mk {N : Nv} {R : List (Int × Int)} {ts : List Tn} {ND : Nat → Nv} {AS : Nat → Nat → Prop} (ok : N.ok) (hRk : ∀ x ∈ R, I64ok x.1 ∧ I64ok x.2)
      (rr : w.ownsRow 0 63 2 (.slice N.r1 N.r2 N.r3) R.length (O2 R)) (sr : w.ownsRow 0 25 9 (.slice N.s1 N.s2 N.s3) ts.length (((List.range ts.length).map ND).flatMap Nv.cs))
      (hk : ∀ i (hi : i < ts.length), TO w (ND i) ts[i] (AS i))
      (d1 : ∀ i j b, i < ts.length → j < ts.length → i ≠ j → AS i b → ¬ AS j b)
      (d2 : ∀ b, N.rb = some b → N.sb ≠ some b)
      (d3 : ∀ i b, i < ts.length → AS i b → N.rb ≠ some b ∧ N.sb ≠ some b) :
      TO w N (.mk N.k R N.a2 ts N.a4 N.a5 N.a6 N.a7 N.a8) (fun b => N.rb = some b ∨ N.sb = some b ∨ ∃ i, i < ts.length ∧ AS i b)
theorem TO.kept {w w' : World} {N : Nv} {t : Tn} {A : Nat → Prop} (h : TO w N t A) (hk : ∀ b, A b → w'.heap[b]? = w.heap[b]?) : TO w' N t A := by
  induction h with
  | mk ok hRk rr sr hkk d1 d2 d3 ih =>
    exact .mk ok hRk (row_kept rr fun b hb => hk b (.inl hb)) (row_kept sr fun b hb => hk b (.inr (.inl hb))) (fun i hi => ih i hi fun b hb => hk b (.inr (.inr ⟨i, hi, hb⟩))) d1 d2 d3
theorem TO.low {w : World} {N : Nv} {t : Tn} {A : Nat → Prop} (h : TO w N t A) : ∀ b, A b → b < w.heap.size := by
  induction h with
  | mk ok hRk rr sr hkk d1 d2 d3 ih =>
    rintro b (h | h | ⟨i, hi, h⟩)
    · exact (rr.lt b h).2
    · exact (sr.lt b h).2
    · exact ih i hi b h
theorem TO.ok {w : World} {N : Nv} {t : Tn} {A : Nat → Prop} (h : TO w N t A) : N.ok := by cases h; assumption
theorem row_len {w : World} {base e size n : Nat} {a : Option Addr} {l c : Nat} {xs : List Value} (h : w.ownsRow base e size (.slice a l c) n xs) : l = n := by
  rcases h.2 with ⟨e, h0⟩ | ⟨g, cap, cur, e, _⟩
  · simp only [Value.slice.injEq] at e; omega
  · simp only [Value.slice.injEq] at e; omega
theorem row_nine {w : World} {base n : Nat} {a : Option Addr} {l c : Nat} {MS : List Nv} (h : w.ownsRow base 25 9 (.slice a l c) n (MS.flatMap Nv.cs)) (hn : n = MS.length) (hp : 0 < n) : ∃ b, a = some ⟨b, 0, none⟩ ∧ (Value.slice a l c).ownBlock = some b ∧ ∀ i (hi : i < MS.length), N9 w b 0 i MS[i] := by
  rcases h.2 with ⟨e, h0⟩ | ⟨b, cap, cur, e, _⟩
  · omega
  · rw [e] at h
    simp only [Value.slice.injEq] at e
    refine ⟨b, e.1, by rw [e.1]; rfl, fun i hi => ?_⟩
    have c : ∀ k, k < 9 → w.cell? ⟨b, 0 + i * 9 + k, none⟩ = (Nv.cs MS[i])[k]? := fun k hk => by
      rw [Nat.zero_add, h.cellAt (i * 9 + k) (by omega), flat9 MS i k hi hk]
    exact ⟨c 0 (by omega), c 1 (by omega), c 2 (by omega), c 3 (by omega), c 4 (by omega), c 5 (by omega), c 6 (by omega), c 7 (by omega), c 8 (by omega)⟩
theorem TO.tp {w : World} {N : Nv} {t : Tn} {A : Nat → Prop} (h : TO w N t A) : TP w A N t := by
  induction h with
  | @mk N R ts ND AS ok hRk rr sr hkk d1 d2 d3 ih =>
    refine .mk (ND := ND) ok (row_len rr) (fun hn => ?_) hRk (row_len sr) (fun hp => ?_) (fun i hi => (ih i hi).kept (fun _ _ => rfl) fun b hb => .inr (.inr ⟨i, hi, hb⟩))
    · rcases rr.2 with ⟨e, h0⟩ | ⟨b, cap, cur, e, _⟩
      · exact absurd (List.length_eq_zero_iff.1 h0) hn
      · have hrow := rr
        rw [e] at hrow
        have e' := e
        simp only [Value.slice.injEq] at e
        refine ⟨b, 0, e.1, .inl (by show (Value.slice N.r1 N.r2 N.r3).ownBlock = some b; rw [e']; rfl), fun i hi => ?_⟩
        have := O2_at R i hi
        rw [Nat.zero_add, hrow.cellAt (i * 2) (by omega), hrow.cellAt (i * 2 + 1) (by omega)]
        exact this
    · obtain ⟨b, e1, e2, h9⟩ := row_nine sr (by simp) hp
      refine ⟨b, 0, e1, .inr (.inl e2), fun i hi => ?_⟩
      have := h9 i (by simpa using hi)
      simpa using this
theorem TO.ti {w : World} {N : Nv} {t : Tn} {A : Nat → Prop} (h : TO w N t A) : TI w w.heap.size N t := h.tp.ti h.low
theorem store25 {ops : Array Oper} {rest : List Oper} {op : Oper} {a : Act} {w : World} {Q : Exit → Act → World → Prop} (hgd : op.guard = none) (x y : Operand) (ho : op.op = .store 25 x y)
    (b i : Nat) (M : Nv) (hx : a.eval x = .pointer (some ⟨b, i * 9, none⟩)) (hy : a.eval y = M.v) (ht : w.there b (i * 9) 9)
    (h : wpList Try.prog ops Q rest (a.put op.dst undef) (w.setCells b (i * 9) (Nv.cs M))) : wpList Try.prog ops Q (op :: rest) a w :=
  wpList_store_mid hgd 25 x y ho b (i * 9) #[.int .i64 M.k, .slice M.r1 M.r2 M.r3, .int .i64 M.a2, .slice M.s1 M.s2 M.s3, .int .i64 M.a4, .int .i64 M.a5, .bool M.a6, .int .i64 M.a7, .string M.a8] hx hy ht size25 (one9a M) h
end Go.Proofs.Ytdidopgenhpakaa
