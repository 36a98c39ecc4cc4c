/- HELPERS: steps of a region that draws its order; what RunesOne asks of classes. -/
import Derived.Test.YtjglehklfdhgaabDoorSameR
namespace Go.Proofs.YtjglehklfdhgaabDoor
open Go.Shelf Go.RowKit Go.Lib Go.Sort Go.Mx
set_option linter.unusedVariables false
set_option linter.unusedSimpArgs false
theorem two_of_fl (L : List (Int × Int)) : ∀ u ∈ fl L, u.oneCell' = true := by
  intro u hu
  simp only [fl, List.mem_flatMap] at hu
  obtain ⟨x, _, hx⟩ := hu
  simp only [encR, List.mem_cons, List.not_mem_nil, or_false] at hx
  rcases hx with rfl | rfl <;> rfl
/-- append of a list of ranges onto a row that the call owns, as one step of a region that draws -/
theorem step_append_row {ops : Array Oper} {o : Oper} {a : Act} {w : World} {K : Act → World → Prop} {Q : Exit → Act → World → Prop} {E : Prop} (hg : o.guard = none) (s x : Operand)
    (hop : o.op = Op.call { callee := Callee.builtin Builtin.append, args := #[s, x], argTypes := #[22, 22] }) (base : Nat) (v : Value) (n : Nat) (L : List (Int × Int)) (hs : a.eval s = v) (hown : w.ownsRow base 44 2 v n (fl L))
    (ad : Option Addr) (m c N : Nat) (B : List (Int × Int)) (hx : a.eval x = .slice ad m c) (hB : RowAt N w (.slice ad m c) B) (hnil : ad = none → c = 0) (hm : m = B.length) (hb : n + m ≤ 4000000) (hbase : base ≤ w.heap.size) (w0 : World) (hBe : Below base w0 w)
    (hK : ∀ v' w', Hid (w'.ownsRow base 44 2 v' (n + m) (fl (L ++ B))) → Below base w0 w' → K (a.put o.dst v') w') :
    if Region.wanted o (yielded ops a.tmps) = true then Oper.wp Tryd.prog o a w K Q else E := by
  have hw : Region.wanted o (yielded ops a.tmps) = true := by simp [Region.wanted, hg]
  rw [if_pos hw]
  obtain ⟨i0, hi, hz0, hz1, hz2⟩ := info_parts info57
  obtain ⟨ad', cap', he, hc⟩ := hB
  simp only [Value.slice.injEq] at he
  obtain ⟨rfl, -, rfl⟩ := he
  cases ad with
  | none =>
    have hm0 : B.length = 0 := by
      rcases hc with h0 | ⟨b, off, h0, _⟩
      · exact h0
      · cases h0
    have hB0 : B = [] := List.eq_nil_of_length_eq_zero hm0
    have hc0 := hnil rfl
    have hm1 : m = 0 := by omega
    subst hB0 hc0 hm1
    have hrun := run_append_owned_none (P := Tryd.prog) (w := w) base 22 o.type 44 i0 2 Tryd.underlying22 hi v n _ hown
    unfold Oper.wp
    simp [execOp, hop, resolve, invoke, builtin, hs, hx, hrun, Result.andThen]
    refine hK v w ?_ hBe
    rw [List.append_nil]
    exact hown
  | some ad =>
    have hcell : ∀ j u, (fl B)[j]? = some u → w.cell? (ad.add j) = some u := by
      intro j u hj
      have hjl : j < B.length * 2 := by
        have := (List.getElem?_eq_some_iff.1 hj).1
        rwa [fl_len] at this
      rcases hc with h0 | ⟨b, off, h0, hbN, hc0, hc1⟩
      · omega
      · simp only [Option.some.injEq] at h0
        subst h0
        have e : (⟨b, off, none⟩ : Addr).add j = ⟨b, off + j, none⟩ := by unfold Addr.add; split <;> simp_all
        have h2 := fl_getD B (j / 2) (by omega)
        rw [e]
        rcases Nat.mod_two_eq_zero_or_one j with hj2 | hj2
        · have ej : j = j / 2 * 2 := by omega
          rw [ej] at hj ⊢
          rw [h2.1] at hj
          exact (hc0 (j / 2) (by omega)).trans hj
        · have ej : j = j / 2 * 2 + 1 := by omega
          rw [ej] at hj ⊢
          rw [h2.2] at hj
          exact (hc1 (j / 2) (by omega)).trans hj
    obtain ⟨v', w', hrun, r1, r2, _⟩ := run_append_own (P := Tryd.prog) w base 22 o.type 44 i0 _ 2 16 Tryd.underlying22 hi hz0 hz1 hz2 rfl (by decide) v n _ hown ad m c (fl B) (by rw [fl_len]; omega) hcell (two_of_fl B) (by unfold maxLen; omega) (by omega) hbase
    unfold Oper.wp
    simp [execOp, hop, resolve, invoke, builtin, hs, hx, hrun, Result.andThen]
    refine hK v' w' ?_ (hBe.trans ((Below.refl _ _).grown r2 hbase (fun k h => (hown.lt k h).1)))
    show w'.ownsRow base 44 2 v' (n + m) (fl (L ++ B))
    rw [fl_append]
    exact r1
/-- a call of a Go function, as one step of a region that draws -/
theorem step_call {P : Program} {ops : Array Oper} {o : Oper} {a : Act} {w : World} {K : Act → World → Prop} {Q : Exit → Act → World → Prop} {E : Prop} (hg : o.guard = none) (f : FuncId) (x : Operand) (t : TypeId)
    (hop : o.op = Op.call { callee := Callee.value (.func f), args := #[x], argTypes := #[t] }) (hen : ∀ args w, (callFunc f args).run P w = .ok (.enter f args) w)
    (hc : Calls P f #[a.eval x] w fun e w' => ∃ v, e = .returned v ∧ K (a.put o.dst v) w') :
    if Region.wanted o (yielded ops a.tmps) = true then Oper.wp P o a w K Q else E := by
  have hw : Region.wanted o (yielded ops a.tmps) = true := by simp [Region.wanted, hg]
  rw [if_pos hw]
  have h2 := hen #[a.eval x] w
  unfold Oper.wp
  have ev : a.eval (.func f) = .func (.func f) #[] #[] := rfl
  simp [execOp, hop, resolve, invoke, ev, Deferred.ofValue, h2, Result.andThen]
  show Calls P f #[a.eval x] w _
  refine hc.mono fun e w' h => ?_
  obtain ⟨v, rfl, hk⟩ := h
  exact hk
def wholeL : List (Int × Int) := [(0, 55295), (57344, 1114111)]
theorem whole_has (r : Int) : hasB wholeL r = dom r := by
  unfold wholeL
  rw [hasB_cons, hasB_cons, hasB_nil, Bool.or_false]
  unfold inG dom
  rw [Bool.eq_iff_iff]
  simp
  omega
theorem whole_right : rightFrom 0 wholeL = true := by decide +kernel
/-- an answer that is a class of n ranges -/
def GivesN (w w' : World) (e : Ending) (n : Nat) (C : List (Int × Int)) : Prop :=
  ∃ ad cap, e = .returned (.tuple #[.slice ad n cap, .int .i64 0]) ∧ RowAt w'.heap.size w' (.slice ad n cap) C ∧ Below w.heap.size w w'
theorem Gives.n {w w' : World} {e : Ending} {C : List (Int × Int)} (h : Gives w w' e C) {n : Nat} (hn : n = C.length) : GivesN w w' e n C := by
  subst hn; exact h
/-- what the walk keeps: the box of the argument, the classes, what was there -/
structure St (w0 : World) (g : Nat) (vA vB : Value) (S : List (Value × List (Int × Int))) (w : World) : Prop where
  b0 : w.cell? ⟨g, 0, none⟩ = some vA
  b1 : w.cell? ⟨g, 1, none⟩ = some vB
  bg : g < w.heap.size
  all : All w S
  bel : Below w0.heap.size w0 w
theorem St.next {w0 : World} {g : Nat} {vA vB : Value} {S : List (Value × List (Int × Int))} {w w' : World} (h : St w0 g vA vB S w) (hb : Below w.heap.size w w') : St w0 g vA vB S w' :=
  ⟨(hb.cell (p := ⟨g, 0, none⟩) h.bg).trans h.b0, (hb.cell (p := ⟨g, 1, none⟩) h.bg).trans h.b1, Nat.lt_of_lt_of_le h.bg hb.size, h.all.next hb, h.bel.trans (hb.mono h.bel.size)⟩
theorem St.add {w0 : World} {g : Nat} {vA vB : Value} {S : List (Value × List (Int × Int))} {w : World} (h : St w0 g vA vB S w) {v : Value} {C : List (Int × Int)} (hc : RowAt w.heap.size w v C) : St w0 g vA vB ((v, C) :: S) w :=
  ⟨h.b0, h.b1, h.bg, h.all.add hc, h.bel⟩
theorem St.drewN {w0 : World} {g : Nat} {vA vB : Value} {S : List (Value × List (Int × Int))} {w : World} (h : St w0 g vA vB S w) (q : Nat) : St w0 g vA vB S (w.drewN q) := h.next (below_drewN (Below.refl _ _) q)
theorem St.get {w0 : World} {g : Nat} {vA vB : Value} {S : List (Value × List (Int × Int))} {w : World} (h : St w0 g vA vB S w) (k : Nat) {v : Value} {C : List (Int × Int)} (hk : S[k]? = some (v, C)) : RowAt w.heap.size w v C :=
  h.all (v, C) (List.mem_of_getElem? hk)
theorem St.new (w0 : World) (vA vB vR : Value) (LA LB : List (Int × Int)) (hA : RowAt w0.heap.size w0 vA LA) (hB : RowAt w0.heap.size w0 vB LB) : St w0 w0.heap.size vA vB [(vA, LA), (vB, LB)] (w0.alloc (.cells #[vA, vB, vR] 25)) := by
  have hb : Below w0.heap.size w0 (w0.alloc (.cells #[vA, vB, vR] 25)) := (Below.refl _ _).alloc (Nat.le_refl _) _
  refine ⟨?_, ?_, by simp, ?_, hb⟩
  · rw [World.cell?_alloc_at _ _ _ _ rfl]; rfl
  · rw [World.cell?_alloc_at _ _ _ _ rfl]; rfl
  · intro x hx
    simp only [List.mem_cons, List.not_mem_nil, or_false] at hx
    rcases hx with rfl | rfl
    · exact hA.next hb
    · exact hB.next hb
theorem norm_bad (L : List (Int × Int)) (ad : Option Addr) (n cap : Nat) (w : World) (hn : n = L.length) (hS : n ≤ 2199023255552) (hl : RowAt w.heap.size w (.slice ad n cap) L)
    (hb : ¬ ∃ C, L.all okR = true ∧ rightFrom 0 C = true ∧ C.length ≤ 5000 ∧ ∀ r, hasB C r = (dom r && hasB L r)) :
    Calls Tryd.prog 6 #[.slice ad n cap] w fun e w' => ∃ c : Int, 1 ≤ c ∧ e = .returned (.tuple #[.slice none 0 0, .int .i64 c]) ∧ Below w.heap.size w w' := by
  refine (normS L ad n cap w hn hS hl).mono fun e w' h => ?_
  rcases h with ⟨C, h1, h2, h3, h4, h5⟩ | h
  · exact absurd ⟨C, h1, h3, h4, h5⟩ hb
  · exact h
theorem enters6 : ∀ args w, (callFunc 6 args).run Tryd.prog w = .ok (.enter 6 args) w := enters_of Tryd.func6 (by kernel_rfl) rfl
end Go.Proofs.YtjglehklfdhgaabDoor
