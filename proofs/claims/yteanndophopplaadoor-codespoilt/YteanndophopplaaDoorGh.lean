/- HELPERS: the row of instructions that is filled. -/
import Derived.Test.YteanndophopplaaDoorGg
namespace Go.Proofs.YteanndophopplaaDoor
open Go.RowKit
set_option linter.unusedVariables false
set_option linter.unusedSimpArgs false
theorem flat5_set : ∀ (L : List Iv) (i : Nat) (M : Iv), i < L.length → (L.flatMap Iv.cs).take (i * 5) ++ Iv.cs M ++ (L.flatMap Iv.cs).drop (i * 5 + (Iv.cs M).length) = (L.set i M).flatMap Iv.cs := by
  intro L
  induction L with
  | nil => intro i M h; simp at h
  | cons a L ih =>
    intro i M h
    cases i with
    | zero => simp [List.flatMap_cons]
    | succ i =>
      have h1 := ih i M (by simpa using h)
      rw [List.set_cons_succ, List.flatMap_cons, List.flatMap_cons, ← h1]
      rw [show (i + 1) * 5 = (Iv.cs a).length + i * 5 by simp; omega, List.take_length_add_append, show (Iv.cs a).length + i * 5 + (Iv.cs M).length = (Iv.cs a).length + (i * 5 + (Iv.cs M).length) by omega, List.drop_length_add_append]
      simp
theorem size5 : (Tryd.prog.info? 49).map (·.size) = some 5 := by kernel_rfl
theorem step_store5 {ops : Array Oper} {o : Oper} {a : Act} {w : World} {K : Act → World → Prop} {Q : Exit → Act → World → Prop} {E : Prop} (hg : o.guard = none) (x y : Operand) (hop : o.op = .store 49 x y) (b i : Nat) (M : Iv) (hx : a.eval x = .pointer (some ⟨b, i * 5, none⟩)) (hy : a.eval y = M.v) (ht : w.there b (i * 5) 5)
    (hK : K (a.put o.dst undef) (w.setCells b (i * 5) (Iv.cs M))) : if Region.wanted o (yielded ops a.tmps) = true then Oper.wp Tryd.prog o a w K Q else E := by
  have hw : Region.wanted o (yielded ops a.tmps) = true := by simp [Region.wanted, hg]
  rw [if_pos hw]
  exact wp_store_mid 49 x y hop b (i * 5) #[.int .i64 M.op, .int .i64 M.x, .int .i64 M.y, .int .i64 M.a, .slice M.r1 M.r2 M.r3] hx hy ht size5 (by simp [Value.oneCell']) hK
theorem getRS_len {α : Type} {C : Codec α} {L : Nat} {l u : List α} {R : List (Int × Int)} (h : getRS C L l = some (R, u)) : R.length ≤ L := by
  unfold getRS at h
  split at h
  · simp at h
  split at h
  · simp at h
  rename_i hL
  rw [getR_len C _ _ _ _ h]; omega
theorem getF_len {α : Type} {C : Codec α} {L op : Nat} {l u : List α} {I : In} (h : getF C L op l = some (I, u)) : I.R.length ≤ L := by
  by_cases ho : op < 1 ∨ 7 < op
  · rw [getF_no ho] at h; cases h
  · obtain rfl | rfl | rfl | rfl | rfl | rfl | rfl : op = 1 ∨ op = 2 ∨ op = 3 ∨ op = 4 ∨ op = 5 ∨ op = 6 ∨ op = 7 := by omega
    · rw [getF_1] at h
      split at h
      · simp at h
      split at h
      · simp at h
      rename_i h2
      simp at h
      rw [← h.1]
      exact getRS_len h2
    · rw [getF_2] at h
      split at h
      · simp at h
      split at h
      · simp at h
      simp at h
      rw [← h.1]; simp
    · rw [getF_3] at h
      split at h
      · simp at h
      split at h
      · simp at h
      simp at h
      rw [← h.1]; simp
    · rw [getF_4] at h
      split at h
      · simp at h
      split at h
      · simp at h
      simp at h
      rw [← h.1]; simp
    · rw [getF_5] at h
      split at h
      · simp at h
      simp at h
      rw [← h.1]; simp
    · rw [getF_6] at h
      simp at h
      rw [← h.1]; simp
    · rw [getF_7] at h
      split at h
      · simp at h
      simp at h
      rw [← h.1]; simp
abbrev rowv (g n : Nat) : Value := .slice (some ⟨g, 0, none⟩) n n
/-- so many instructions are in their places, so many are to come -/
structure LI (N g n : Nat) (w : World) (MS : List Iv) (A : List In) (k : Nat) : Prop where
  len : MS.length = A.length
  tot : A.length + k = n
  row : w.ownsRow N 49 5 (rowv g n) n ((MS ++ List.replicate k (mkI 0)).flatMap Iv.cs)
  io : ∀ j (h : j < MS.length) (h' : j < A.length), IOw w N (rowv g n) MS[j] A[j]
  apart : ∀ i j (h : i < MS.length) (h' : j < MS.length), i ≠ j → ∀ b, MS[i].rv.ownBlock = some b → MS[j].rv.ownBlock ≠ some b
theorem IOw.kept {w w' : World} {base : Nat} {z : Value} {M : Iv} {I : In} (h : IOw w base z M I) (hk : ∀ b, M.rv.ownBlock = some b → w'.heap[b]? = w.heap[b]?) : IOw w' base z M I :=
  ⟨h.op, h.x, h.y, h.a, h.len, h.sm, row_kept h.rr hk, h.ne⟩
theorem LI.mo {N rb g n k : Nat} {w w' : World} {MS : List Iv} {A : List In} (h : LI N g n w MS A k) (hr : rb < N) (hm : Mo w w' rb) : LI N g n w' MS A k :=
  ⟨h.len, h.tot, row_kept h.row (fun b e => by
      have := h.row.lt b e
      exact hm.block b this.2 (by omega)),
   fun j hj hj' => (h.io j hj hj').kept (fun b e => by
      have := (h.io j hj hj').rr.lt b e
      exact hm.block b this.2 (by omega)), h.apart⟩
theorem LI.there {N g n k : Nat} {w : World} {MS : List Iv} {A : List In} (h : LI N g n w MS A (k + 1)) : w.there g (A.length * 5) 5 := row_there h.row (by have := h.tot; omega)
/-- the next one is put into its place -/
theorem LI.next {N rb g n k : Nat} {w1 w2 : World} {MS : List Iv} {A : List In} {M : Iv} {I : In} (h : LI N g n w1 MS A (k + 1)) (hr : rb < N) (h2 : Mo w1 w2 rb) (o0 : M.op = I.op) (o1 : M.x = I.x) (o2 : M.y = I.y) (o3 : M.a = I.a) (o4 : M.r2 = I.R.length) (o5 : w2.ownsRow w1.heap.size 51 2 M.rv I.R.length (O2 I.R)) (o6 : I.R.length ≤ 5000) :
    LI N g n (w2.setCells g (A.length * 5) (Iv.cs M)) (MS ++ [M]) (A ++ [I]) k := by
  have hb := h.row.lt g rfl
  have h' := h.mo hr h2
  have hlen : ((MS ++ List.replicate (k + 1) (mkI 0)).flatMap Iv.cs).length = (A.length + (k + 1)) * 5 := by rw [flat5_len, List.length_append, List.length_replicate, h.len]
  have hrow := row_setCells (Iv.cs M) (A.length * 5) w2 _ h'.row (by rw [hlen]; simp; omega)
  rw [flat5_set _ _ _ (by rw [List.length_append, List.length_replicate, h.len]; omega)] at hrow
  have eset : (MS ++ List.replicate (k + 1) (mkI 0)).set A.length M = (MS ++ [M]) ++ List.replicate k (mkI 0) := by
    rw [← h.len, List.set_append_right _ _ (Nat.le_refl _), Nat.sub_self, List.replicate_succ, List.set_cons_zero]
    simp
  rw [eset] at hrow
  have hgM : M.rv.ownBlock ≠ some g := fun e => by have := (o5.lt g e).1; omega
  have hN : N ≤ w1.heap.size := by have := hb.1; omega
  refine ⟨by simp [h.len], by have := h.tot; simp; omega, hrow, fun j hj hj' => ?_, fun i j hi hj hne b e1 e2 => ?_⟩
  · by_cases e : j < MS.length
    · rw [List.getElem_append_left e, List.getElem_append_left (by rw [← h.len]; exact e)]
      have a := h'.io j e (by rw [← h.len]; exact e)
      exact a.kept (fun b hb' => setCells_old g _ _ _ b (fun e => a.ne b hb' (by rw [e]; rfl)))
    · have ej : j = MS.length := by simp at hj; omega
      subst ej
      have e1 : (MS ++ [M])[MS.length] = M := by simp
      have e2 : (A ++ [I])[MS.length]'hj' = I := by
        have : MS.length = A.length := h.len
        simp [this]
      rw [e1, e2]
      refine ⟨o0, o1, o2, o3, o4, by omega, own_wide (row_kept o5 (fun b hb' => setCells_old g _ _ _ b (fun e => hgM (by rw [← e]; exact hb')))) hN, fun b hb' e => hgM ?_⟩
      simp [Value.ownBlock] at e
      rw [e]; exact hb'
  · by_cases ei : i < MS.length
    · rw [List.getElem_append_left ei] at e1
      by_cases ej : j < MS.length
      · rw [List.getElem_append_left ej] at e2
        exact h.apart i j ei ej hne b e1 e2
      · have : j = MS.length := by simp at hj; omega
        subst this
        have e3 : (MS ++ [M])[MS.length] = M := by simp
        rw [e3] at e2
        have a := ((h.io i ei (by rw [← h.len]; exact ei)).rr.lt b e1).2
        have c := (o5.lt b e2).1
        omega
    · have : i = MS.length := by simp at hi; omega
      subst this
      have e3 : (MS ++ [M])[MS.length] = M := by simp
      rw [e3] at e1
      have ej : j < MS.length := by simp at hj; omega
      rw [List.getElem_append_left ej] at e2
      have a := ((h.io j ej (by rw [← h.len]; exact ej)).rr.lt b e2).2
      have c := (o5.lt b e1).1
      omega
theorem LI.po {N g n base : Nat} {w : World} {MS : List Iv} {A : List In} (h : LI N g n w MS A 0) (hb : base ≤ N) : PO w base (rowv g n) A MS := by
  have hn : A.length = n := by have := h.tot; omega
  have hr := h.row
  rw [List.replicate_zero, List.append_nil] at hr
  refine ⟨h.len, by rw [hn]; exact own_wide hr hb, fun j hj hj' => ?_, h.apart⟩
  have a := h.io j hj hj'
  exact ⟨a.op, a.x, a.y, a.a, a.len, a.sm, own_wide a.rr hb, a.ne⟩
theorem LI.start {N n : Nat} {w : World} (hN : N ≤ w.heap.size) (hn : n ≤ maxLen) : LI N w.heap.size n (w.alloc (.cells (madeCells Z5.cells (n * 5)) 49)) [] [] n :=
  ⟨rfl, by simp, made_rowI n N w hN hn, fun j hj => by simp at hj, fun i j hi => by simp at hi⟩
theorem step_callG2 {P : Program} {ops : Array Oper} {o : Oper} {a : Act} {w : World} {K : Act → World → Prop} {Q : Exit → Act → World → Prop} {E : Prop} (hw : Region.wanted o (yielded ops a.tmps) = true) (f : FuncId) (x y : Operand) (t u : TypeId)
    (hop : o.op = Op.call { callee := Callee.value (.func f), args := #[x, y], argTypes := #[t, u] }) (hen : ∀ args w, (callFunc f args).run P w = .ok (.enter f args) w)
    (hc : Calls P f #[a.eval x, a.eval y] w fun e w' => (∃ v, e = .returned v ∧ K (a.put o.dst v) w') ∨ (∃ ch, e = .panicked ch ∧ Q (.panic ch) a w')) :
    if Region.wanted o (yielded ops a.tmps) = true then Oper.wp P o a w K Q else E := by
  rw [if_pos hw]
  have h2 := hen #[a.eval x, a.eval y] w
  unfold Oper.wp
  have ev : a.eval (.func f) = .func (.func f) #[] #[] := rfl
  simp [execOp, hop, resolve, invoke, ev, Deferred.ofValue, h2, Result.andThen]
  show Calls P f #[a.eval x, a.eval y] w _
  refine hc.mono fun e w' h => ?_
  rcases h with ⟨v, rfl, hk⟩ | ⟨ch, rfl, hq⟩
  · exact hk
  · exact hq
theorem step_callP {P : Program} {ops : Array Oper} {o : Oper} {a : Act} {w : World} {K : Act → World → Prop} {Q : Exit → Act → World → Prop} {E : Prop} (hw : Region.wanted o (yielded ops a.tmps) = true) (f : FuncId) (x : Operand) (t : TypeId)
    (hop : o.op = Op.call { callee := Callee.value (.func f), args := #[x], argTypes := #[t] }) (hen : ∀ args w, (callFunc f args).run P w = .ok (.enter f args) w)
    (hc : Calls P f #[a.eval x] w fun e w' => (∃ v, e = .returned v ∧ K (a.put o.dst v) w') ∨ (∃ ch, e = .panicked ch ∧ Q (.panic ch) a w')) :
    if Region.wanted o (yielded ops a.tmps) = true then Oper.wp P o a w K Q else E := by
  rw [if_pos hw]
  have h2 := hen #[a.eval x] w
  unfold Oper.wp
  have ev : a.eval (.func f) = .func (.func f) #[] #[] := rfl
  simp [execOp, hop, resolve, invoke, ev, Deferred.ofValue, h2, Result.andThen]
  show Calls P f #[a.eval x] w _
  refine hc.mono fun e w' h => ?_
  rcases h with ⟨v, rfl, hk⟩ | ⟨ch, rfl, hq⟩
  · exact hk
  · exact hq
end Go.Proofs.YteanndophopplaaDoor
