/- HELPERS: the law's list of edges: what its ways share. -/
import Derived.Test.YtjglehklfdhgaabDoorOneL
import Derived.Lib.SmallJoins
namespace Go.Proofs.YtjglehklfdhgaabDoor
open Go.Shelf Go.RowKit Go.Lib Go.Sort Go.Mx
set_option linter.unusedVariables false
set_option linter.unusedSimpArgs false
/-- append onto a row that the call owns, as one step of a region that draws -/
theorem step_append_own {P : Program} {ops : Array Oper} {o : Oper} {a : Act} {w : World} {K : Act → World → Prop} {Q : Exit → Act → World → Prop} {E : Prop}
    (hg : o.guard = none) (s x : Operand) (t : TypeId) (hop : o.op = Op.call { callee := Callee.builtin Builtin.append, args := #[s, x], argTypes := #[t, t] })
    (base : Nat) (e : TypeId) (i : TypeInfo) (z : Value) (size bytes : Nat) (h1 : P.underlying t = some (.slice e)) (h2 : P.info? e = some i) (h3 : i.zero = some z) (h4 : i.size = size) (h5 : i.bytes = bytes) (h6 : z.cells.size = size) (h7 : 0 < size)
    (v : Value) (n : Nat) (xs : List Value) (hs : a.eval s = v) (hown : w.ownsRow base e size v n xs)
    (ad : Addr) (m c : Nat) (news : List Value) (hx : a.eval x = .slice (some ad) m c) (hn : news.length = m * size) (hc : ∀ j u, news[j]? = some u → w.cell? (ad.add j) = some u) (h1c : ∀ u ∈ news, u.oneCell' = true)
    (b1 : n + m ≤ maxLen) (b2 : (n + m) * bytes ≤ 140737488355328) (hb : base ≤ w.heap.size)
    (hK : ∀ v' w', w'.ownsRow base e size v' (n + m) (xs ++ news) → w.grownBy w' v.ownBlock → K (a.put o.dst v') w') :
    if Region.wanted o (yielded ops a.tmps) = true then Oper.wp P o a w K Q else E := by
  have hw : Region.wanted o (yielded ops a.tmps) = true := by simp [Region.wanted, hg]
  rw [if_pos hw]
  obtain ⟨v', w', hrun, r1, r2, _⟩ := run_append_own (P := P) w base t o.type e i z size bytes h1 h2 h3 h4 h5 h6 h7 v n xs hown ad m c news hn hc h1c b1 b2 hb
  unfold Oper.wp
  simp [execOp, hop, resolve, invoke, builtin, hs, hx, hrun, Result.andThen]
  exact hK v' w' r1 r2
theorem below_app {w w1 : World} {base size n : Nat} {e : TypeId} {v : Value} {xs : List Value} {o : Obj} (hown : w.ownsRow base e size v n xs) (hb : base ≤ w.heap.size) (hg : (w.alloc o).drew.grownBy w1 v.ownBlock) : Below base w w1 :=
  (((Below.refl _ _).alloc hb _).drew).grown hg (by simp; omega) (fun k hk => (hown.lt k hk).1)
def IntsAt (N : Nat) (w : World) (v : Value) (R : List Int) : Prop := ∃ ad cap, v = .slice ad R.length cap ∧ (R.length = 0 ∨ ∃ b off, ad = some ⟨b, off, none⟩ ∧ b < N ∧ ∀ k, k < R.length → w.cell? ⟨b, off + k, none⟩ = some (.int .i64 (R.getD k 0)))
theorem news_four (w : World) (a b c d : Value) (t : TypeId) (g : Nat) (hg : g = w.heap.size) : ∀ (j : Nat) (u : Value), [a, b, c, d][j]? = some u → (w.alloc (.cells #[a, b, c, d] t)).cell? ((⟨g, 0, none⟩ : Addr).add j) = some u := by
  intro j u h
  match j, h with
  | 0, h => simp at h; subst h; exact (World.cell?_alloc_at _ t g 0 hg).trans rfl
  | 1, h => simp at h; subst h; exact (World.cell?_alloc_at _ t g 1 hg).trans rfl
  | 2, h => simp at h; subst h; exact (World.cell?_alloc_at _ t g 2 hg).trans rfl
  | 3, h => simp at h; subst h; exact (World.cell?_alloc_at _ t g 3 hg).trans rfl
theorem below_app1 {w w1 : World} {base size n : Nat} {e : TypeId} {v : Value} {xs : List Value} {o : Obj} (hown : w.ownsRow base e size v n xs) (hb : base ≤ w.heap.size) (hg : (w.alloc o).grownBy w1 v.ownBlock) : Below base w w1 :=
  ((Below.refl _ _).alloc hb _).grown hg (by simp; omega) (fun k h => (hown.lt k h).1)
theorem below_app0 {w w1 : World} {base size n : Nat} {e : TypeId} {v : Value} {xs : List Value} (hown : w.ownsRow base e size v n xs) (hb : base ≤ w.heap.size) (hg : w.grownBy w1 v.ownBlock) : Below base w w1 :=
  (Below.refl _ _).grown hg (by omega) (fun k h => (hown.lt k h).1)
theorem one_cell_ints (l : List Int) : ∀ u : Value, u ∈ I64 l → u.oneCell' = true := by
  intro u hu
  simp only [List.mem_map] at hu
  obtain ⟨x, _, rfl⟩ := hu
  rfl
theorem wpList_append_text {ops : Array Oper} {rest : List Oper} {o : Oper} {a : Act} {w : World} {Q : Exit → Act → World → Prop} (hgd : o.guard = none) (s x : Operand)
    (ho : o.op = .call { callee := .builtin .append, args := #[s, x], argTypes := #[23, 23] }) (base : Nat) (v : Value) (n : Nat) (xs : List Int) (hs : a.eval s = v) (hown : w.ownsRow base 3 1 v n (I64 xs))
    (ad : Option Addr) (m c N : Nat) (l : List Int) (hx : a.eval x = .slice ad m c) (hT : IntsAt N w (.slice ad m c) l) (hl : m = l.length) (hnil : ad = none → c = 0) (hb : n + m ≤ 17592186044416) (hbase : base ≤ w.heap.size) (w0 : World) (hB : Below base w0 w)
    (h : ∀ v' w', Hid (w'.ownsRow base 3 1 v' (n + m) (I64 (xs ++ l))) → Below base w0 w' → wpList Tryd.prog ops Q rest (a.put o.dst v') w') : wpList Tryd.prog ops Q (o :: rest) a w := by
  obtain ⟨i0, hi, hz0, hz1, hz2⟩ := info_parts info3
  obtain ⟨ad', cap', he, hc⟩ := hT
  simp only [Value.slice.injEq] at he
  obtain ⟨rfl, -, rfl⟩ := he
  cases ad with
  | none =>
    have hm0 : l.length = 0 := by
      rcases hc with h0 | ⟨b, off, h0, _⟩
      · exact h0
      · cases h0
    have hl0 : l = [] := List.eq_nil_of_length_eq_zero hm0
    have hc0 := hnil rfl
    have hm1 : m = 0 := by omega
    subst hl0 hc0 hm1
    refine wpList_append_own_none hgd s x 23 ho base 3 i0 1 Tryd.underlying23 hi v n _ hs hown hx ?_
    refine h v w ?_ hB
    rw [List.append_nil]
    exact hown
  | some ad =>
    have hcell : ∀ j u, (I64 l)[j]? = some u → w.cell? (ad.add j) = some u := by
      intro j u hj
      have hjl : j < l.length := by
        have := (List.getElem?_eq_some_iff.1 hj).1
        simpa using this
      rcases hc with h0 | ⟨b, off, h0, hbN, hc⟩
      · omega
      · simp only [Option.some.injEq] at h0
        subst h0
        have e : (⟨b, off, none⟩ : Addr).add j = ⟨b, off + j, none⟩ := by unfold Addr.add; split <;> simp_all
        rw [e, hc j (by omega), ← hj]
        simp [hjl]
    refine wpList_append_own w hgd s x 23 ho base 3 i0 (.int .i64 0) 1 8 Tryd.underlying23 hi hz0 hz1 hz2 rfl (by decide) v n _ hs hown ad m c (I64 l) hx (by simp; omega) hcell (one_cell_ints l) (by unfold maxLen; omega) (by omega) hbase ?_
    intro v' w' ho' hg' _
    refine h v' w' ?_ (hB.trans (below_app0 hown hbase hg'))
    show w'.ownsRow base 3 1 v' (n + m) (I64 (xs ++ l))
    rw [show I64 (xs ++ l) = I64 xs ++ I64 l from List.map_append]
    exact ho'
end Go.Proofs.YtjglehklfdhgaabDoor
