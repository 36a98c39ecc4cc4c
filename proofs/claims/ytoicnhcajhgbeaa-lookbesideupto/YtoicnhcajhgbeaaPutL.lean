/- HELPERS: append of a text onto a row of the call's own; where what holds is the same. -/
import Derived.Test.YtoicnhcajhgbeaaOwn
import Derived.Laws.AppendOwnNone
namespace Go.Proofs.Ytoicnhcajhgbeaa
open Go.RowKit Go.Lk
set_option linter.unusedVariables false
set_option linter.unusedSimpArgs false
theorem wpList_append_text {ops : Array Oper} {rest : List Oper} {o : Oper} {a : Act} {w : World} {Q : Exit → Act → World → Prop} (hgd : o.guard = none) (s x : Operand)
    (ho : o.op = .call { callee := .builtin .append, args := #[s, x], argTypes := #[22, 22] }) (base : Nat) (v : Value) (n : Nat) (xs : List Int) (hs : a.eval s = v) (hown : w.ownsRow base 3 1 v n (I64 xs))
    (ad : Option Addr) (m c N : Nat) (l : List Int) (hx : a.eval x = .slice ad m c) (hT : TextAt N w ad m l) (hnil : ad = none → c = 0) (hb : n + m ≤ 17592186044416) (hbase : base ≤ w.heap.size) (w0 : World) (hB : Below base w0 w)
    (h : ∀ v' w', Hid (w'.ownsRow base 3 1 v' (n + m) (I64 (xs ++ l))) → Below base w0 w' → wpList Try.prog ops Q rest (a.put o.dst v') w') : wpList Try.prog ops Q (o :: rest) a w := by
  obtain ⟨i0, hi, hz0, hz1, hz2⟩ := info_parts info3
  obtain ⟨hl, hm, hc⟩ := hT
  cases ad with
  | none =>
    have hm0 : m = 0 := by
      rcases hc with h0 | ⟨b, off, h0, _⟩
      · exact h0
      · cases h0
    have hl0 : l = [] := List.eq_nil_of_length_eq_zero (by omega)
    have hc0 := hnil rfl
    subst hm0 hl0 hc0
    refine wpList_append_own_none hgd s x 22 ho base 3 i0 1 Try.underlying22 hi v n _ hs hown hx ?_
    refine h v w ?_ hB
    rw [List.append_nil]
    exact hown
  | some ad =>
    have hcell : ∀ j u, (I64 l)[j]? = some u → w.cell? (ad.add j) = some u := by
      intro j u hj
      have hjl : j < l.length := by
        have := (List.getElem?_eq_some_iff.1 hj).1
        simpa using this
      rcases hc with h0 | ⟨b, off, h0, hbN, hc⟩
      · omega
      · simp only [Option.some.injEq] at h0
        subst h0
        have e : (⟨b, off, none⟩ : Addr).add j = ⟨b, off + j, none⟩ := by unfold Addr.add; split <;> simp_all
        rw [e, hc j (by omega), ← hj]
        simp [hjl]
    refine wpList_append_own w hgd s x 22 ho base 3 i0 (.int .i64 0) 1 8 Try.underlying22 hi hz0 hz1 hz2 rfl (by decide) v n _ hs hown ad m c (I64 l) hx (by simp; omega) hcell (one_cell_ints l) (by unfold maxLen; omega) (by omega) hbase ?_
    intro v' w' ho' hg' _
    refine h v' w' ?_ (hB.trans (below_app0 hown hbase hg'))
    show w'.ownsRow base 3 1 v' (n + m) (I64 (xs ++ l))
    rw [show I64 (xs ++ l) = I64 xs ++ I64 l from List.map_append]
    exact ho'
/-- what holds hangs on nothing but whether the place is the first or the last, and on the two runes beside it -/
theorem at_same (l l' : List Int) (p p' : Nat) (hp : p ≤ l.length) (hp' : p' ≤ l'.length) (hb : p = 0 ↔ p' = 0) (he : p = l.length ↔ p' = l'.length)
    (ha : 0 < p → l.getD (p - 1) 0 = l'.getD (p' - 1) 0) (hh : p < l.length → l.getD p 0 = l'.getD p' 0) : atP l p = atP l' p' := by
  have e1 : begB p = begB p' := by unfold begB; congr 1; simp only [eq_iff_iff]; exact hb
  have e2 : endB l p = endB l' p' := by unfold endB; congr 1; simp only [eq_iff_iff]; exact he
  have e3 : blB l p = blB l' p' := by
    unfold blB
    by_cases h0 : p = 0
    · simp [h0, hb.1 h0]
    · have h1 : ¬ p' = 0 := fun h => h0 (hb.2 h)
      simp only [h0, h1, decide_false, Bool.false_or]
      rw [ha (by omega)]
  have e4 : elB l p = elB l' p' := by
    unfold elB
    by_cases h0 : p = l.length
    · have h1 := he.1 h0
      simp only [h0, h1, decide_true, Bool.true_or]
    · have h1 : ¬ p' = l'.length := fun h => h0 (he.2 h)
      simp only [h0, h1, decide_false, Bool.false_or]
      rw [hh (by omega)]
  have e5 : waB l p = waB l' p' := by
    unfold waB
    by_cases h0 : p = 0
    · simp [h0, hb.1 h0]
    · have h1 : ¬ p' = 0 := fun h => h0 (hb.2 h)
      rw [ha (by omega)]
      congr 2
      simp only [eq_iff_iff]; omega
  have e6 : wbB l p = wbB l' p' := by
    unfold wbB
    by_cases h0 : p = l.length
    · have h1 := he.1 h0
      have h2 : ¬ p < l.length := by omega
      have h3 : ¬ p' < l'.length := by omega
      simp [h2, h3]
    · have h1 : ¬ p' = l'.length := fun h => h0 (he.2 h)
      rw [hh (by omega)]
      congr 2
      simp only [eq_iff_iff]; omega
  unfold atP edgeB
  rw [e1, e2, e3, e4, e5, e6]
theorem getD_left (l m : List Int) (k : Nat) (h : k < l.length) : (l ++ m).getD k 0 = l.getD k 0 := by
  simp [List.getD_eq_getElem?_getD, List.getElem?_append_left h]
theorem getD_right (l m : List Int) (k j : Nat) (h : j = l.length + k) : (l ++ m).getD j 0 = m.getD k 0 := by
  subst h
  simp [List.getD_eq_getElem?_getD, List.getElem?_append_right]
theorem at_behind (l m : List Int) (p : Nat) (hp : p < l.length) : atP l p = atP (l ++ m) p :=
  at_same l (l ++ m) p p (by omega) (by simp; omega) Iff.rfl (by simp; omega) (fun h => (getD_left l m (p - 1) (by omega)).symm) (fun h => (getD_left l m p h).symm)
theorem at_ahead (l m : List Int) (p : Nat) (h0 : 0 < p) (hp : p ≤ l.length) : atP l p = atP (m ++ l) (p + m.length) :=
  at_same l (m ++ l) p (p + m.length) hp (by simp; omega) (by omega) (by simp; omega) (fun h => (getD_right m l (p - 1) _ (by omega)).symm) (fun h => (getD_right m l p _ (by omega)).symm)
theorem atN_of (l : List Int) (p : Nat) (hp : p ≤ l.length) : atN l (p : Int) = atP l p := by
  unfold atN
  rw [if_neg (by omega)]
  rfl
end Go.Proofs.Ytoicnhcajhgbeaa
