/- HELPERS: Simplify and Size, of any tree. -/
import Derived.Test.YtnecakampgdhcaaMF
/- HELPERS: a row of built trees that grows through a box. -/
namespace Go.Proofs.Ytnecakampgdhcaa
open Go.RowKit
set_option linter.unusedVariables false
set_option linter.unusedSimpArgs false
theorem step_call1 {P : Program} {ops : Array Oper} {o : Oper} {a : Act} {w : World} {K : Act → World → Prop} {Q : Exit → Act → World → Prop} {E : Prop} (hg : o.guard = none) (f : FuncId) (x : Operand) (t : TypeId)
    (hop : o.op = Op.call { callee := Callee.value (.func f), args := #[x], argTypes := #[t] }) (hen : ∀ args w, (callFunc f args).run P w = .ok (.enter f args) w)
    (hc : Calls P f #[a.eval x] w fun e w' => ∃ v, e = .returned v ∧ K (a.put o.dst v) w') :
    if Region.wanted o (yielded ops a.tmps) = true then Oper.wp P o a w K Q else E := by
  have hw : Region.wanted o (yielded ops a.tmps) = true := by simp [Region.wanted, hg]
  rw [if_pos hw]
  have h2 := hen #[a.eval x] w
  unfold Oper.wp
  have ev : a.eval (.func f) = .func (.func f) #[] #[] := rfl
  simp [execOp, hop, resolve, invoke, ev, Deferred.ofValue, h2, Result.andThen]
  show Calls P f #[a.eval x] w _
  refine hc.mono fun e w' h => ?_
  obtain ⟨v, rfl, hk⟩ := h
  exact hk
theorem step_store25 {ops : Array Oper} {o : Oper} {a : Act} {w : World} {K : Act → World → Prop} {Q : Exit → Act → World → Prop} {E : Prop} (hg : o.guard = none) (x y : Operand) (hop : o.op = .store 39 x y) (b q : Nat) (M : Nv) (hx : a.eval x = .pointer (some ⟨b, q, none⟩)) (hy : a.eval y = M.v) (ht : w.there b q 9)
    (hK : K (a.put o.dst undef) (w.setCells b q (Nv.cs M))) : if Region.wanted o (yielded ops a.tmps) = true then Oper.wp Try.prog o a w K Q else E := by
  have hw : Region.wanted o (yielded ops a.tmps) = true := by simp [Region.wanted, hg]
  rw [if_pos hw]
  exact wp_store_mid 39 x y hop b q #[.int .i64 M.k, .slice M.r1 M.r2 M.r3, .int .i64 M.a2, .slice M.s1 M.s2 M.s3, .int .i64 M.a4, .int .i64 M.a5, .bool M.a6, .int .i64 M.a7, .string M.a8] hx hy ht size25 (one9a M) hK
theorem enter_of {P : Program} {f : FuncId} {fn : Func} {c : Code} (hf : P.funcs[f]? = some fn) (hname : (fn.name == "runtime.NumGoroutine") = false) (hb : fn.body = some c) : ∀ (args : Array Value) (w : World), (callFunc f args).run P w = .ok (.enter f args) w := by
  intro args w
  have h1 : fn.name ≠ "runtime.NumGoroutine" := by simpa using hname
  simp [callFunc, hf, h1, hb]
theorem en32 : ∀ (args : Array Value) (w : World), (callFunc 47 args).run Try.prog w = .ok (.enter 47 args) w := enter_of Try.func47 (by kernel_rfl) rfl
theorem en49 : ∀ (args : Array Value) (w : World), (callFunc 74 args).run Try.prog w = .ok (.enter 74 args) w := enter_of Try.func74 (by kernel_rfl) rfl
theorem en63 : ∀ (args : Array Value) (w : World), (callFunc 88 args).run Try.prog w = .ok (.enter 88 args) w := enter_of Try.func88 (by kernel_rfl) rfl
theorem en67 : ∀ (args : Array Value) (w : World), (callFunc 92 args).run Try.prog w = .ok (.enter 92 args) w := enter_of Try.func92 (by kernel_rfl) rfl
theorem en68 : ∀ (args : Array Value) (w : World), (callFunc 93 args).run Try.prog w = .ok (.enter 93 args) w := enter_of Try.func93 (by kernel_rfl) rfl
theorem en95 : ∀ (args : Array Value) (w : World), (callFunc 108 args).run Try.prog w = .ok (.enter 108 args) w := enter_of Try.func108 (by kernel_rfl) rfl
/-- the last cells of a row are written anew -/
theorem row_last {w : World} {base e s g n cap : Nat} {xs ys zs : List Value} (h : w.ownsRow base e s (.slice (some ⟨g, 0, none⟩) n cap) n (xs ++ ys)) (hl : zs.length = ys.length) : (w.setCells g xs.length zs).ownsRow base e s (.slice (some ⟨g, 0, none⟩) n cap) n (xs ++ zs) := by
  have hlen := h.1
  have hrow := h
  rcases h.2 with ⟨h, _⟩ | ⟨g', cap', cur, he, hb, hgg, h1, h2, h3, h4⟩
  · cases h
  · simp only [Value.slice.injEq, Option.some.injEq, Addr.mk.injEq] at he
    obtain ⟨⟨rfl, _⟩, _, rfl⟩ := he
    have hsz : n * s ≤ cur.size := by rw [h3]; exact Nat.mul_le_mul_right _ h1
    simp only [List.length_append] at hlen
    obtain ⟨cur', g1, g2⟩ := block_setCells zs xs.length w cur hgg
    have hex : ∀ i, i < zs.length → (w.cell? ⟨g, xs.length + i, none⟩).isSome = true := fun i hi => by
      rw [Joins.cell_of_block hgg, Array.getElem?_eq_getElem (by omega)]; rfl
    refine ⟨by simp only [List.length_append]; omega, .inr ⟨g, cap, cur', rfl, hb, g1, h1, h2, by omega, ?_⟩⟩
    apply List.ext_getElem?
    intro j
    by_cases hj : j < n * s
    · rw [List.getElem?_take_of_lt hj, Array.getElem?_toList, ← Joins.cell_of_block g1 j]
      by_cases hjx : j < xs.length
      · rw [World.cell?_setCells_out g zs xs.length w ⟨g, j, none⟩ (fun _ _ => by simp only; omega), List.getElem?_append_left hjx, hrow.cellAt j (by omega), List.getElem?_append_left hjx]
      · obtain ⟨i, rfl⟩ : ∃ i, j = xs.length + i := ⟨j - xs.length, by omega⟩
        rw [World.cell?_setCells_in g zs xs.length w hex i (by omega), List.getElem?_append_right (by omega), show xs.length + i - xs.length = i by omega, List.getElem?_eq_getElem (by omega)]
    · rw [List.getElem?_eq_none (by simp; omega), List.getElem?_eq_none (by simp; omega)]
theorem row_thereG {w : World} {base e s g n cap : Nat} {xs : List Value} (h : w.ownsRow base e s (.slice (some ⟨g, 0, none⟩) n cap) n xs) {q m : Nat} (hq : q + m ≤ n * s) : w.there g q m := fun j hj => by
  rcases h.2 with ⟨h, _⟩ | ⟨g', cap', cur, he, hb, hgg, h1, h2, h3, h4⟩
  · cases h
  · simp only [Value.slice.injEq, Option.some.injEq, Addr.mk.injEq] at he
    obtain ⟨⟨rfl, _⟩, _, rfl⟩ := he
    have hsz : n * s ≤ cur.size := by rw [h3]; exact Nat.mul_le_mul_right _ h1
    refine ⟨?_, Joins.unfrozen_of_block hgg _⟩
    rw [Joins.cell_of_block hgg, Array.getElem?_eq_getElem (by omega)]
    rfl
/-- a row of trees of one's own, in a box -/
structure RO (x : Nat) (w : World) (b : Nat) (uv : Value) (MS : List Nv) (us : List Tn) (AS : Nat → Nat → Prop) : Prop where
  box : Bx w b 37 uv
  xb : x ≤ b
  row : w.ownsRow x 39 9 uv MS.length (MS.flatMap Nv.cs)
  out : uv.ownBlock ≠ some b
  len : MS.length = us.length
  tos : ∀ j (h : j < us.length) (h' : j < MS.length), TO w MS[j] us[j] (AS j)
  low : ∀ j c, j < us.length → AS j c → x ≤ c ∧ c ≠ b ∧ uv.ownBlock ≠ some c
  apart : ∀ i j c, i < us.length → j < us.length → i ≠ j → AS i c → ¬ AS j c
def ROv (x : Nat) (w : World) (b : Nat) (uv : Value) (us : List Tn) : Prop := ∃ MS AS, RO x w b uv MS us AS
/-- the blocks that such a row may write to -/
abbrev FB (b : Nat) (uv : Value) : List Nat := b :: uv.ownBlock.toList
/-- what comes behind the others -/
abbrev EPost (x b : Nat) (W : World) (uv : Value) (us : List Tn) : Ending → World → Prop := fun e w' => e = .returned (.tuple #[]) ∧ ∃ uv', ROv x w' b uv' us ∧ Chg W w' (FB b uv) (FB b uv')
theorem ROv.below {x : Nat} {w w' : World} {b : Nat} {uv uv' : Value} {us : List Tn} (h : ROv x w b uv us) (hc : Chg w w' (FB b uv) (FB b uv')) (hx : x ≤ w.heap.size) : Below x w w' := by
  obtain ⟨MS, AS, h⟩ := h
  refine ⟨hc.os, hc.tape, hc.output, hc.size, fun c hk => hc.block c (by omega) fun hm => ?_⟩
  simp only [FB, List.mem_cons, Option.mem_toList] at hm
  rcases hm with rfl | hm
  · have := h.xb; omega
  · have := (h.row.lt c hm).1; omega
theorem ROv.kept {x : Nat} {w w' : World} {b : Nat} {uv : Value} {us : List Tn} (h : ROv x w b uv us) (hb : Below w.heap.size w w') : ROv x w' b uv us := by
  obtain ⟨MS, AS, h⟩ := h
  have hl := h.len
  exact ⟨MS, AS, (hb.block b (Array.getElem?_eq_some_iff.1 h.box).1).trans h.box, h.xb, row_kept h.row fun c hc => hb.block c (h.row.lt c hc).2, h.out, h.len, fun j hj hj' => (h.tos j hj hj').kept fun c hc => hb.block c ((h.tos j hj hj').low c hc), h.low, h.apart⟩
theorem RO.next {x : Nat} {w : World} {b : Nat} {uv : Value} {MS : List Nv} {us : List Tn} {AS : Nat → Nat → Prop} (h : RO x w b uv MS us AS) {W2 w5 U : World} {v5 : Value} {M : Nv} {s : Tn} {AA : Nat → Prop} (hW : Below w.heap.size w W2) (hM : TO W2 M s AA) (hAA : ∀ c, AA c → w.heap.size ≤ c) (hm : Moved W2 w5 uv v5)
    (u1 : Bx U b 37 v5) (u2 : U.ownsRow x 39 9 v5 (MS.length + 1) (MS.flatMap Nv.cs ++ Nv.cs M)) (u3 : ∀ c, c ≠ b → v5.ownBlock ≠ some c → U.heap[c]? = w5.heap[c]?) (hxw : x ≤ w.heap.size) : RO x U b v5 (MS ++ [M]) (us ++ [s]) (fun j c => if j = us.length then AA c else AS j c) := by
  have hbl : b < w.heap.size := (Array.getElem?_eq_some_iff.1 h.box).1
  have hl := h.len
  have hub : ∀ c, uv.ownBlock = some c → c < w.heap.size := fun c hc => (h.row.lt c hc).2
  have hs := hW.size
  have hlow : ∀ j c, j < us.length → AS j c → c < w.heap.size := fun j c hj hc => (h.tos j hj (by omega)).low c hc
  have hv : ∀ c, c < W2.heap.size → uv.ownBlock ≠ some c → v5.ownBlock ≠ some c := fun c hc hn e => by
    rcases hm with ⟨h0, _⟩ | ⟨h0, _⟩
    · rw [h0] at e; exact hn e
    · rw [h0] at e; simp at e; omega
  have hnA : ∀ c, AA c → uv.ownBlock ≠ some c := fun c hc e => by have := hub c e; have := hAA c hc; omega
  have hnb : ∀ c, AA c → c ≠ b := fun c hc e => by have := hAA c hc; omega
  have keep : ∀ c, c < W2.heap.size → c ≠ b → uv.ownBlock ≠ some c → U.heap[c]? = W2.heap[c]? := fun c h1 h2 h3 => (u3 c h2 (hv c h1 h3)).trans (moved_old' hm h1 h3)
  refine ⟨u1, h.xb, ?_, hv b (by omega) h.out, by simp [hl], fun j hj hj' => ?_, fun j c hj hc => ?_, fun i j c hi hj hne h1 h2 => ?_⟩
  · rw [List.length_append, List.flatMap_append]
    simpa using u2
  · by_cases hjl : j < us.length
    · rw [List.getElem_append_left (by omega), List.getElem_append_left hjl]
      have hne : j ≠ us.length := by omega
      simp only [if_neg hne]
      exact (h.tos j hjl (by omega)).kept fun c hc => (keep c (by have := hlow j c hjl hc; omega) (h.low j c hjl hc).2.1 (h.low j c hjl hc).2.2).trans (hW.block c (hlow j c hjl hc))
    · simp only [List.length_append, List.length_cons, List.length_nil] at hj hj'
      have e : j = us.length := by omega
      subst e
      rw [List.getElem_append_right (by omega), List.getElem_append_right (Nat.le_refl _)]
      simp only [Nat.sub_self, hl, List.getElem_cons_zero, if_pos]
      exact hM.kept fun c hc => keep c (hM.low c hc) (hnb c hc) (hnA c hc)
  · by_cases e : j = us.length
    · simp only [if_pos e] at hc
      exact ⟨by have := hAA c hc; omega, hnb c hc, hv c (hM.low c hc) (hnA c hc)⟩
    · simp only [if_neg e] at hc
      have hjl : j < us.length := by simp at hj; omega
      have := h.low j c hjl hc
      exact ⟨this.1, this.2.1, hv c (by have := hlow j c hjl hc; omega) this.2.2⟩
  · simp only [List.length_append, List.length_cons, List.length_nil] at hi hj
    by_cases ei : i = us.length
    · simp only [if_pos ei] at h1
      have ej : j ≠ us.length := by omega
      simp only [if_neg ej] at h2
      have := hAA c h1
      have := hlow j c (by omega) h2
      omega
    · simp only [if_neg ei] at h1
      by_cases ej : j = us.length
      · simp only [if_pos ej] at h2
        have := hAA c h2
        have := hlow i c (by omega) h1
        omega
      · simp only [if_neg ej] at h2
        exact h.apart i j c (by omega) (by omega) hne h1 h2
end Go.Proofs.Ytnecakampgdhcaa
/- HELPERS: one more tree is built and put behind the others. -/
namespace Go.Proofs.Ytnecakampgdhcaa
open Go.RowKit
set_option linter.unusedVariables false
set_option linter.unusedSimpArgs false
abbrev Zn : Nv := ⟨0, none, 0, 0, 0, none, 0, 0, 0, 0, false, 0, ⟨#[]⟩⟩
abbrev litO : Obj := .cells #[.int .i64 0, .slice none 0 0, .int .i64 0, .slice none 0 0, .int .i64 0, .int .i64 0, .bool false, .int .i64 0, .string ⟨#[]⟩] 39
theorem lit_cellsZ {W : World} {p : Nat} (h : W.heap[p]? = some litO) : ∀ j u, (Nv.cs Zn)[j]? = some u → W.cell? ((⟨p, 0, none⟩ : Addr).add j) = some u := fun j u hj => by
  rw [Addr.add_mid, Nat.zero_add, Joins.cell_of_block h j]
  simpa using hj
/-- what building a form does -/
def BP (s : Tn) (g : Nat) (W : World) : Prop := Calls Try.prog 47 #[pt g] W fun e w' => ∃ M AA, e = .returned (Nv.v M) ∧ TO w' M s AA ∧ (∀ c, AA c → W.heap.size ≤ c) ∧ Below W.heap.size W w'
theorem row_some {w : World} {base e s n : Nat} {v : Value} {xs : List Value} (h : w.ownsRow base e s v (n + 1) xs) : ∃ g c, v = .slice (some ⟨g, 0, none⟩) (n + 1) c := by
  rcases h.2 with ⟨_, h0⟩ | ⟨g, cap, cur, h1, _⟩
  · omega
  · exact ⟨g, cap, h1⟩
theorem moved_ne {w w' : World} {v : Value} {g n c b : Nat} (h : Moved w w' v (.slice (some ⟨g, 0, none⟩) n c)) (hb : b < w.heap.size) (hn : v.ownBlock ≠ some b) : g ≠ b := fun e => by
  subst e
  rcases h with ⟨h0, _⟩ | ⟨h0, _⟩
  · exact hn (h0.symm.trans rfl)
  · have : some g = some w.heap.size := h0
    simp at this
    omega
theorem last9 {x g5 n c5 : Nat} {w5 : World} {xs : List Value} (ho : w5.ownsRow x 39 9 (.slice (some ⟨g5, 0, none⟩) (n + 1) c5) (n + 1) (xs ++ Nv.cs Zn)) (hxs : xs.length = n * 9) :
    (w5.cell? ⟨g5, n * 9, none⟩ = some (.int .i64 0) ∧ w5.cell? ⟨g5, n * 9 + 1, none⟩ = some (.slice none 0 0) ∧ w5.cell? ⟨g5, n * 9 + 2, none⟩ = some (.int .i64 0) ∧ w5.cell? ⟨g5, n * 9 + 3, none⟩ = some (.slice none 0 0) ∧ w5.cell? ⟨g5, n * 9 + 4, none⟩ = some (.int .i64 0) ∧ w5.cell? ⟨g5, n * 9 + 5, none⟩ = some (.int .i64 0) ∧ w5.cell? ⟨g5, n * 9 + 6, none⟩ = some (.bool false) ∧ w5.cell? ⟨g5, n * 9 + 7, none⟩ = some (.int .i64 0) ∧ w5.cell? ⟨g5, n * 9 + 8, none⟩ = some (.string ⟨#[]⟩)) ∧ (w5.frozen? ⟨g5, n * 9, none⟩ = false ∧ w5.frozen? ⟨g5, n * 9 + 1, none⟩ = false ∧ w5.frozen? ⟨g5, n * 9 + 2, none⟩ = false ∧ w5.frozen? ⟨g5, n * 9 + 3, none⟩ = false ∧ w5.frozen? ⟨g5, n * 9 + 4, none⟩ = false ∧ w5.frozen? ⟨g5, n * 9 + 5, none⟩ = false ∧ w5.frozen? ⟨g5, n * 9 + 6, none⟩ = false ∧ w5.frozen? ⟨g5, n * 9 + 7, none⟩ = false ∧ w5.frozen? ⟨g5, n * 9 + 8, none⟩ = false) := by
  have hc : ∀ j, j < 9 → w5.cell? ⟨g5, n * 9 + j, none⟩ = (Nv.cs Zn)[j]? := fun j hj => by
    rw [ho.cellAt (n * 9 + j) (by omega), List.getElem?_append_right (by omega), hxs, show n * 9 + j - n * 9 = j by omega]
  have hf : ∀ j, w5.frozen? ⟨g5, j, none⟩ = false := fun j => by
    rcases ho.2 with ⟨h, _⟩ | ⟨g', cap', cur, he, hb, hgg, h1, h2, h3, h4⟩
    · cases h
    · simp only [Value.slice.injEq, Option.some.injEq, Addr.mk.injEq] at he
      obtain ⟨⟨rfl, _⟩, _, rfl⟩ := he
      exact Joins.unfrozen_of_block hgg _
  exact ⟨⟨hc 0 (by omega), hc 1 (by omega), hc 2 (by omega), hc 3 (by omega), hc 4 (by omega), hc 5 (by omega), hc 6 (by omega), hc 7 (by omega), hc 8 (by omega)⟩, ⟨hf _, hf _, hf _, hf _, hf _, hf _, hf _, hf _, hf _⟩⟩
abbrev set9 (W : World) (g q : Nat) (M : Nv) : World := (((((((((W.setCell ⟨g, q, none⟩ (.int .i64 M.k)).setCell ⟨g, q + 1, none⟩ (.slice M.r1 M.r2 M.r3)).setCell ⟨g, q + 2, none⟩ (.int .i64 M.a2)).setCell ⟨g, q + 3, none⟩ (.slice M.s1 M.s2 M.s3)).setCell ⟨g, q + 4, none⟩ (.int .i64 M.a4)).setCell ⟨g, q + 5, none⟩ (.int .i64 M.a5)).setCell ⟨g, q + 6, none⟩ (.bool M.a6)).setCell ⟨g, q + 7, none⟩ (.int .i64 M.a7)).setCell ⟨g, q + 8, none⟩ (.string M.a8))
theorem set9_eq (W : World) (g q : Nat) (M : Nv) : set9 W g q M = W.setCells g q (Nv.cs M) := rfl
/-- what the end of the region leaves -/
def FinU (x b g5 n c5 : Nat) (w5 U : World) (xs : List Value) (M : Nv) : Prop := Bx U b 37 (.slice (some ⟨g5, 0, none⟩) (n + 1) c5) ∧ U.ownsRow x 39 9 (.slice (some ⟨g5, 0, none⟩) (n + 1) c5) (n + 1) (xs ++ Nv.cs M) ∧ (∀ c, c ≠ b → c ≠ g5 → U.heap[c]? = w5.heap[c]?) ∧ ∀ B0 W0, Below B0 W0 w5 → B0 ≤ b → B0 ≤ g5 → Below B0 W0 U
theorem ro_tail {x b g5 n c5 : Nat} {w5 : World} {xs : List Value} {uv : Value} (ho : w5.ownsRow x 39 9 (.slice (some ⟨g5, 0, none⟩) (n + 1) c5) (n + 1) (xs ++ Nv.cs Zn)) (hb : Bx w5 b 37 uv) (hne : g5 ≠ b) (hxs : xs.length = n * 9) (M : Nv) :
    (w5.setCell ⟨b, 0, none⟩ (.slice (some ⟨g5, 0, none⟩) (n + 1) c5)).ownsRow x 39 9 (.slice (some ⟨g5, 0, none⟩) (n + 1) c5) (n + 1) (xs ++ Nv.cs Zn) ∧ (set9 w5 g5 (n * 9) M).cell? ⟨b, 0, none⟩ = some uv ∧ (set9 w5 g5 (n * 9) M).frozen? ⟨b, 0, none⟩ = false ∧
      FinU x b g5 n c5 w5 (set9 (w5.setCell ⟨b, 0, none⟩ (.slice (some ⟨g5, 0, none⟩) (n + 1) c5)) g5 (n * 9) M) xs M ∧ FinU x b g5 n c5 w5 ((set9 w5 g5 (n * 9) M).setCell ⟨b, 0, none⟩ (.slice (some ⟨g5, 0, none⟩) (n + 1) c5)) xs M := by
  rw [set9_eq, set9_eq]
  have hob : (Value.slice (some ⟨g5, 0, none⟩) (n + 1) c5).ownBlock ≠ some b := fun e => by simp [Value.ownBlock] at e; exact hne e
  have ho1 : (w5.setCell ⟨b, 0, none⟩ (.slice (some ⟨g5, 0, none⟩) (n + 1) c5)).ownsRow x 39 9 (.slice (some ⟨g5, 0, none⟩) (n + 1) c5) (n + 1) (xs ++ Nv.cs Zn) := row_kept ho fun c hc => Below.heap_setCell _ _ _ _ (fun e => hob (by simp only at e; rw [e] at hc; exact hc))
  have hb2 : Bx (w5.setCells g5 (n * 9) (Nv.cs M)) b 37 uv := (setCells_old g5 _ _ _ b (fun e => hne e.symm)).trans hb
  have e9 : (Nv.cs M).length = (Nv.cs Zn).length := rfl
  refine ⟨ho1, bx0 hb2, Joins.unfrozen_of_block hb2 0, ⟨?_, ?_, fun c h1 h2 => ?_, fun B0 W0 h h1 h2 => ?_⟩, ⟨?_, ?_, fun c h1 h2 => ?_, fun B0 W0 h h1 h2 => ?_⟩⟩
  · exact (setCells_old g5 _ _ _ b (fun e => hne e.symm)).trans (Joins.block_setCell (i := 0) hb _)
  · rw [← hxs]; exact row_last ho1 e9
  · exact (setCells_old g5 _ _ _ c h2).trans (Below.heap_setCell _ _ _ _ h1)
  · exact Below.setCells h2 _ _ _ _ (h.setCell (by exact h1) _)
  · exact Joins.block_setCell (i := 0) hb2 _
  · refine row_kept ?_ fun c hc => Below.heap_setCell _ _ _ _ (fun e => hob (by simp only at e; rw [e] at hc; exact hc))
    rw [← hxs]; exact row_last ho e9
  · exact (Below.heap_setCell _ _ _ _ h1).trans (setCells_old g5 _ _ _ c h2)
  · exact (Below.setCells h2 _ _ _ _ h).setCell (by exact h1) _
theorem do_fin {x b n g5 c5 uc : Nat} {w Wa w5 U : World} {ua : Option Addr} {us : List Tn} {MS : List Nv} {AS : Nat → Nat → Prop} {M : Nv} {s : Tn} {AA : Nat → Prop} (hn : n = MS.length) (h : RO x w b (.slice ua MS.length uc) MS us AS) (hx : x ≤ w.heap.size) (hW : Below w.heap.size w Wa) (hM : TO Wa M s AA) (hAA : ∀ c, AA c → w.heap.size ≤ c)
    (hm : Moved Wa w5 (.slice ua n uc) (.slice (some ⟨g5, 0, none⟩) (n + 1) c5)) (hU : FinU x b g5 n c5 w5 U (MS.flatMap Nv.cs) M) : ∃ uv', ROv x U b uv' (us ++ [s]) ∧ Chg w U (FB b (.slice ua MS.length uc)) (FB b uv') := by
  subst hn
  obtain ⟨u1, u2, u3, u4⟩ := hU
  have hv : ∀ k, (Value.slice ua MS.length uc).ownBlock = some k → x ≤ k := fun k hk => (h.row.lt k hk).1
  have hb5 := moved_below (hW.mono hx) (Nat.le_trans hx hW.size) hv hm
  have hg5 : x ≤ g5 := (u2.lt g5 rfl).1
  have hB := u4 _ _ hb5.1 h.xb hg5
  have hg : (Value.slice ua MS.length uc).ownBlock = some g5 ∨ Wa.heap.size ≤ g5 := by
    rcases hm with ⟨h0, _⟩ | ⟨h0, _⟩
    · left; rw [← h0]; rfl
    · right
      have : some g5 = some Wa.heap.size := h0
      simp at this
      omega
  refine ⟨_, ⟨MS ++ [M], _, h.next hW hM hAA hm u1 u2 (fun c h1 h2 => u3 c h1 (fun e => h2 (by rw [e]; rfl))) hx⟩, hB.os, hB.tape, hB.output, hB.size, fun k hk hn => ?_, fun k hk => ?_⟩
  · simp only [FB, List.mem_cons, Option.mem_toList, not_or] at hn
    have hs := hW.size
    refine (u3 k hn.1 (fun e => ?_)).trans ((moved_old' hm (by omega) hn.2).trans (hW.block k hk))
    rcases hg with hg | hg
    · exact hn.2 (by rw [e]; exact hg)
    · omega
  · simp only [FB, List.mem_cons, Option.mem_toList] at hk ⊢
    rcases hk with hk | hk
    · exact .inl (.inl hk)
    · have e : g5 = k := by have : some g5 = some k := hk; simpa using this
      rcases hg with hg | hg
      · exact .inl (.inr (by rw [← e]; exact hg))
      · right; have := hW.size; omega
set_option maxRecDepth 100000 in
set_option maxHeartbeats 8000000 in
theorem do49 {x b : Nat} {w : World} {uv : Value} {us : List Tn} (hR : ROv x w b uv us) (hx : x ≤ w.heap.size) (g : Nat) (s : Tn) (HP : ∀ W', Below w.heap.size w W' → BP s g W') (hn : us.length < 200000) :
    Calls Try.prog 74 #[pt g, pt b] w (EPost x b w uv (us ++ [s])) := by
  obtain ⟨MS, AS, h⟩ := hR
  obtain ⟨i0, hi0, hz0, hz1, hz2⟩ := info_parts info25
  obtain ⟨ua, uc, rfl, hnc, hcm⟩ := row_shape h.row
  have hbl : b < w.heap.size := (Array.getElem?_eq_some_iff.1 h.box).1
  have HROW : Hid (∀ W', Below w.heap.size w W' → W'.ownsRow x 39 9 (.slice ua MS.length uc) MS.length (MS.flatMap Nv.cs)) := fun W' hb => row_kept h.row fun c hc => hb.block c (h.row.lt c hc).2
  have hl := h.len
  obtain ⟨n, hnn⟩ : ∃ n, n = MS.length := ⟨_, rfl⟩
  rw [← hnn] at HROW hl
  have c0 := bx0 h.box
  rw [← hnn] at c0
  have HH := hid h
  have HPP := hid HP
  have HNN := hid hnn
  have HD := hid (below_drew w)
  have HLB : Hid (Below w.heap.size w (w.alloc litO).drew) := (Joins.below_alloc1 w _).trans (Joins.below_le (below_drew _) (by simp))
  have HLN : Hid ((w.alloc litO).drew.heap[w.heap.size]? = some litO) := heap_alloc_new w _
  have HBX : Hid (Bx w b 37 (.slice ua n uc)) := by rw [hnn]; exact h.box
  have HOB : Hid ((Value.slice ua n uc).ownBlock ≠ some b) := by rw [hnn]; exact h.out
  have HLS : Hid ((w.alloc litO).drew.heap.size = w.heap.size + 1) := by show (w.alloc litO).heap.size = _; simp
  have hn2 : n < 200000 := by omega
  have HL := hid hl
  have c0a : (w.alloc litO).cell? ⟨b, 0, none⟩ = some (.slice ua n uc) := bx0 ((heap_alloc_old w litO hbl).trans HBX.out)
  clear h HP hnn hnc hcm hl hn
  go_enter Try.func74, Try.ntmps74
  go_region_law (first | (refine step_call1 rfl 47 (.tmp 4) 81 rfl en32 ?_; refine (HPP.out _ (by first | exact HD.out | exact HLB.out)).mono ?_; rintro e w2 ⟨M, AA, rfl, hM, hAA, hb2⟩; refine ⟨_, rfl, ?_⟩; have hbb2 : Bx w2 b 37 (.slice ua n uc) := ((hb2.block b (by first | exact hbl | exact Nat.lt_of_lt_of_le hbl HLB.out.size)).trans (by first | exact HBX.out | exact (HLB.out.block b hbl).trans HBX.out)); have c2 := bx0 hbb2; have c2a := bx0 ((heap_alloc_old w2 litO (Array.getElem?_eq_some_iff.1 hbb2).1).trans hbb2); clear hbb2; have HM := hid hM; have HAW : Hid (∀ c, AA c → w.heap.size ≤ c) := (fun c hc => Nat.le_trans (by first | exact Nat.le_refl _ | exact HLB.out.size) (hAA c hc)); have HB2 := hid hb2; clear hM hAA hb2) | (refine step_append_moveN rfl (.tmp 3) (.tmp 7) 37 rfl x 39 i0 Z9 9 112 Try.underlying37 hi0 hz0 hz1 hz2 rfl (by decide) (.slice ua n uc) n (MS.flatMap Nv.cs) rfl (HROW.out _ (HD.out.trans (Joins.below_le (HB2.out.trans (Joins.below_le (Joins.below_alloc1 w2 _) HB2.out.size)) HD.out.size))) ⟨w2.heap.size, 0, none⟩ 1 1 (Nv.cs Zn) rfl rfl (by decide) (lit_cellsZ (heap_alloc_new w2 _)) (one9 _) (by unfold maxLen; omega) (by omega) (Nat.le_trans hx (Nat.le_trans HB2.out.size (by simp))) ?_; intro v5 w5 ho5 hm5; obtain ⟨g5, c5, rfl⟩ := row_some ho5; have hb5 : Bx w5 b 37 (.slice ua n uc) := (moved_old' hm5 (Nat.lt_of_lt_of_le hbl (HD.out.trans (Joins.below_le (HB2.out.trans (Joins.below_le (Joins.below_alloc1 w2 litO) HB2.out.size)) HD.out.size)).size) HOB.out).trans (((HD.out.trans (Joins.below_le (HB2.out.trans (Joins.below_le (Joins.below_alloc1 w2 litO) HB2.out.size)) HD.out.size)).block b hbl).trans HBX.out); have hne5 : g5 ≠ b := moved_ne hm5 (Nat.lt_of_lt_of_le hbl (HD.out.trans (Joins.below_le (HB2.out.trans (Joins.below_le (Joins.below_alloc1 w2 litO) HB2.out.size)) HD.out.size)).size) HOB.out; have HWB := hid (HD.out.trans (Joins.below_le (HB2.out.trans (Joins.below_le (Joins.below_alloc1 w2 litO) HB2.out.size)) HD.out.size)); have HTM : Hid (TO (w2.alloc litO) M s AA) := HM.out.kept (fun c hc => heap_alloc_old w2 litO (HM.out.low c hc)); have hnl : (n : Int) < (n : Int) + 1 := (by omega); obtain ⟨y1, y3, y4, y5, y6⟩ := ro_tail ho5 hb5 hne5 (by rw [flat9_len, HNN.out]) M; obtain ⟨⟨p0, p1, p2, p3, p4, p5, p6, p7, p8⟩, ⟨r0, r1, r2, r3, r4, r5, r6, r7, r8⟩⟩ := last9 ho5 (by rw [flat9_len, HNN.out]); obtain ⟨⟨s0, s1, s2, s3, s4, s5, s6, s7, s8⟩, ⟨t0, t1, t2, t3, t4, t5, t6, t7, t8⟩⟩ := last9 y1 (by rw [flat9_len, HNN.out]); have cb5 := bx0 hb5; have f5 := Joins.unfrozen_of_block hb5 0; have Y5 := hid y5; have Y6 := hid y6; have HM5 := hid hm5; have HO5 := hid ho5; clear y1 y5 y6 hm5 ho5 hb5) | (refine step_append_moveN rfl (.tmp 3) (.tmp 7) 37 rfl x 39 i0 Z9 9 112 Try.underlying37 hi0 hz0 hz1 hz2 rfl (by decide) (.slice ua n uc) n (MS.flatMap Nv.cs) rfl (HROW.out _ (HLB.out.trans (Joins.below_le HB2.out HLB.out.size))) ⟨w.heap.size, 0, none⟩ 1 1 (Nv.cs Zn) rfl rfl (by decide) (lit_cellsZ ((HB2.out.block w.heap.size (by rw [HLS.out]; omega)).trans HLN.out)) (one9 _) (by unfold maxLen; omega) (by omega) (Nat.le_trans hx (Nat.le_trans HLB.out.size HB2.out.size)) ?_; intro v5 w5 ho5 hm5; obtain ⟨g5, c5, rfl⟩ := row_some ho5; have hb5 : Bx w5 b 37 (.slice ua n uc) := (moved_old' hm5 (Nat.lt_of_lt_of_le hbl (HLB.out.trans (Joins.below_le HB2.out HLB.out.size)).size) HOB.out).trans (((HLB.out.trans (Joins.below_le HB2.out HLB.out.size)).block b hbl).trans HBX.out); have hne5 : g5 ≠ b := moved_ne hm5 (Nat.lt_of_lt_of_le hbl (HLB.out.trans (Joins.below_le HB2.out HLB.out.size)).size) HOB.out; have HWB := hid (HLB.out.trans (Joins.below_le HB2.out HLB.out.size)); have HTM := hid HM.out; have hnl : (n : Int) < (n : Int) + 1 := (by omega); obtain ⟨y1, y3, y4, y5, y6⟩ := ro_tail ho5 hb5 hne5 (by rw [flat9_len, HNN.out]) M; obtain ⟨⟨p0, p1, p2, p3, p4, p5, p6, p7, p8⟩, ⟨r0, r1, r2, r3, r4, r5, r6, r7, r8⟩⟩ := last9 ho5 (by rw [flat9_len, HNN.out]); obtain ⟨⟨s0, s1, s2, s3, s4, s5, s6, s7, s8⟩, ⟨t0, t1, t2, t3, t4, t5, t6, t7, t8⟩⟩ := last9 y1 (by rw [flat9_len, HNN.out]); have cb5 := bx0 hb5; have f5 := Joins.unfrozen_of_block hb5 0; have Y5 := hid y5; have Y6 := hid y6; have HM5 := hid hm5; have HO5 := hid ho5; clear y1 y5 y6 hm5 ho5 hb5))
  all_goals go_end0
  all_goals refine ⟨rfl, do_fin HNN.out HH.out hx HWB.out HTM.out HAW.out HM5.out ?_⟩
  all_goals first | with_reducible exact Y5.out | with_reducible exact Y6.out
end Go.Proofs.Ytnecakampgdhcaa
/- HELPERS: to go through what stands below a form. -/
namespace Go.Proofs.Ytnecakampgdhcaa
open Go.RowKit
set_option linter.unusedVariables false
set_option linter.unusedSimpArgs false
abbrev dv (b : Nat) : Value := .func (.func 74) #[] #[pt b]
/-- a form's walk puts its trees behind the others -/
def EQ (x : Nat) (l : List Tn) (ev : Value) (w0 : World) : Prop := ∀ W b uv us, x ≤ W.heap.size → (∀ c, c < x → W.heap[c]? = w0.heap[c]?) → ROv x W b uv us → us.length + l.length < 200000 →
  ∃ n ca, ev = .func (.func n) #[] ca ∧ (∀ args w, (callFunc n args).run Try.prog w = .ok (.enter n args) w) ∧ Calls Try.prog n (#[dv b] ++ ca) W (EPost x b W uv (us ++ l))
theorem leaf68 (v : Value) (w : World) : Calls Try.prog 93 #[v] w fun e w' => e = .returned (.tuple #[]) ∧ w' = w := by
  go_enter Try.func93, Try.ntmps93
  go_wp2
  all_goals go_end0
  all_goals exact ⟨rfl, rfl⟩
/-- building works for all trees below a size -/
def BPs (N : Nat) : Prop := ∀ (s : Tn) (W : World) (g : Nat) (A : Nat → Prop), s.nodes < N → FA W A g s → (∀ c, A c → c < W.heap.size) → BP s g W
theorem bp_below {N : Nat} (HP : BPs N) {s : Tn} {w : World} {g : Nat} {A : Nat → Prop} (hs : s.nodes < N) (hg : FA w A g s) (hA : ∀ c, A c → c < w.heap.size) : ∀ W', Below w.heap.size w W' → BP s g W' := fun W' hb =>
  HP s W' g A hs (hg.up hA hb (fun _ h => h)) (fun c hc => by have := hA c hc; have := hb.size; omega)
set_option maxRecDepth 100000 in
set_option maxHeartbeats 4000000 in
theorem over67 {x b bx g : Nat} {w : World} {uv : Value} {us : List Tn} {s : Tn} (hR : ROv x w b uv us) (hx : x ≤ w.heap.size) (hb : Bx w bx 81 (pt g)) (HP : ∀ W', Below w.heap.size w W' → BP s g W') (hn : us.length < 200000) :
    Calls Try.prog 92 #[dv b, pt bx] w (EPost x b w uv (us ++ [s])) := by
  have HC := do49 hR hx g s HP hn
  have c0 := bx0 hb
  clear hR HP hn hb
  go_enter Try.func92, Try.ntmps92
  go_wp2_with (first | (go_at_call 74; (with_reducible refine HC.mono ?_); rintro e w2 ⟨rfl, hr2⟩; have HR2 := hid hr2; clear hr2 HC))
  all_goals go_end0
  all_goals exact ⟨rfl, HR2.out⟩
set_option maxRecDepth 100000 in
set_option maxHeartbeats 4000000 in
theorem within64 {x b f : Nat} {k : Int} {w : World} {uv : Value} {us : List Tn} {t : Tn} {N0 : Nv} {ev : Value} (hR : ROv x w b uv us) (hx : x ≤ w.heap.size) (hc : FC w f N0 ev t) (hk : N0.k = t.kind) (HE : t.kind = k → EQ x t.subs ev w) (HP : t.kind ≠ k → ∀ W', Below w.heap.size w W' → BP t f W') (hn : us.length + (within k t).length < 200000) :
    Calls Try.prog 89 #[pt f, .int .i64 k, dv b] w (EPost x b w uv (us ++ within k t)) := by
  obtain ⟨c0, c9, c10, c11⟩ := hc.num
  rw [hk] at c0
  by_cases h : t.kind = k
  · have hw : within k t = t.subs := by unfold within; rw [if_pos h]
    rw [hw] at hn ⊢
    obtain ⟨n, ca, rfl, hen, HC⟩ := HE h w b uv us hx (fun _ _ => rfl) hR hn
    have bk : (t.kind == k) = true := by simpa using h
    obtain ⟨kd, hkd⟩ : ∃ kd, kd = t.kind := ⟨_, rfl⟩
    rw [← hkd] at c0 bk
    clear HE HP hR hn hc hk h hw hkd c10 c11
    go_enter Try.func89, Try.ntmps89
    go_wp2_with (first | (with_reducible refine HC.mono ?_; rintro e w2 ⟨rfl, hr2⟩; have HR2 := hid hr2; clear hr2 HC))
    all_goals first | go_end0 | (refine bodyPost_ret (v := .tuple #[]) rfl rfl ?_)
    all_goals exact ⟨rfl, HR2.out⟩
  · have hw : within k t = [t] := by unfold within; rw [if_neg h]
    rw [hw] at hn ⊢
    have HC := do49 hR hx f t (HP h) (by simp at hn; omega)
    have bk : (t.kind == k) = false := by simpa using h
    obtain ⟨kd, hkd⟩ : ∃ kd, kd = t.kind := ⟨_, rfl⟩
    rw [← hkd] at c0 bk
    clear HE HP hR hn hc hk h hw hkd c10 c11 c9
    go_enter Try.func89, Try.ntmps89
    go_wp2_with (first | (go_at_call 74; (with_reducible refine HC.mono ?_); rintro e w2 ⟨rfl, hr2⟩; have HR2 := hid hr2; clear hr2 HC))
    all_goals first | go_end0 | (refine bodyPost_ret (v := .tuple #[]) rfl rfl ?_)
    all_goals exact ⟨rfl, HR2.out⟩
end Go.Proofs.Ytnecakampgdhcaa
/- HELPERS: to go through a row of runs. -/
namespace Go.Proofs.Ytnecakampgdhcaa
open Go.RowKit
set_option linter.unusedVariables false
set_option linter.unusedSimpArgs false
theorem flat_rep_len (n : Nat) (l : List Tn) : (List.replicate n l).flatten.length = n * l.length := by simp
theorem rowS_part (k : Int) (l : List (Tn × Nat)) (i j : Nat) (hi : i < l.length) (hj : j ≤ l[i].2) : (rowS k (l.take i)).length + j * (within k l[i].1).length ≤ (rowS k l).length := by
  have h1 : rowS k l = rowS k (l.take (i + 1)) ++ rowS k (l.drop (i + 1)) := by rw [← rowS_append, List.take_append_drop]
  rw [h1, rowS_take k l i hi, List.length_append, List.length_append, flat_rep_len]
  have := Nat.mul_le_mul_right (within k l[i].1).length hj
  omega
theorem rep_succ (j : Nat) (l : List Tn) : (List.replicate (j + 1) l).flatten = (List.replicate j l).flatten ++ l := by
  rw [List.replicate_succ', List.flatten_append]; simp
set_option maxRecDepth 100000 in
set_option maxHeartbeats 8000000 in
theorem row63 {x b b1 b2 n c : Nat} {k : Int} {ad : Option Addr} {fs : Nat → Nat} {l : List (Tn × Nat)} {w : World} {uv : Value} {us : List Tn} (hR : ROv x w b uv us) (hx : x ≤ w.heap.size) (h1 : Bx w b1 111 (.slice ad n c)) (h2 : Bx w b2 3 (.int .i64 k)) (hb1 : b1 < x) (hb2 : b2 < x) (hn : n = l.length) (hv : RV w (fun c => c < x) ad fs l) (ht : ∀ y ∈ l, y.2 ≤ 1000) (hl : l.length ≤ 200000)
    (HW : Hid (∀ i (hi : i < l.length), ∀ W uv us, x ≤ W.heap.size → (∀ c, c < x → W.heap[c]? = w.heap[c]?) → ROv x W b uv us → us.length + (within k l[i].1).length < 200000 → Calls Try.prog 89 #[pt (fs i), .int .i64 k, dv b] W (EPost x b W uv (us ++ within k l[i].1)))) (hnl : us.length + (rowS k l).length < 200000) :
    Calls Try.prog 88 #[dv b, pt b1, pt b2] w (EPost x b w uv (us ++ rowS k l)) := by
  have c1 := bx0 h1
  have HR := hid hR
  have H1 := hid h1
  have H2 := hid h2
  have HN := hid hn
  have HV := hid hv
  have HT := hid ht
  have HNL := hid hnl
  have hn2 : n ≤ 200000 := by omega
  clear hR h1 h2 hn hv ht hnl hl
  go_enter Try.func88, Try.ntmps88
  go_wp2_with fail
  go_loopw [8] (fun y wq => ∃ i : Nat, y = .int .i64 (i : Int) ∧ i ≤ n ∧ Hid (∃ uv', ROv x wq b uv' (us ++ rowS k (l.take i)) ∧ Chg w wq (FB b uv) (FB b uv'))) (fun y _ => n - (intOf y).toNat)
  case atStart => exact ⟨0, rfl, by omega, ⟨uv, by simpa [rowS] using HR.out, Chg.refl _ _⟩⟩
  case round =>
    obtain ⟨i, rfl, hi, HI⟩ := hrel
    by_cases hil : i < n
    · have b1' : decide ((i : Int) < (n : Int)) = true := by simp; omega
      have b2' : (i : Int) < (n : Int) := by omega
      have ad1 : IntKind.i64.wrap ((i : Int) + 1) = (i : Int) + 1 := by simp [IntKind.wrap, IntKind.bits, IntKind.signed]; omega
      have hil' : i < l.length := by have := HN.out; omega
      obtain ⟨uv1, hR1, hC1⟩ := HI.out
      have hB1 := HR.out.below hC1 hx
      obtain ⟨bb, o, rfl, hbb, hcs⟩ := HV.out (by omega)
      obtain ⟨e0, e1⟩ := hcs i hil'
      have u0 := (cell_eq (hB1.block bb hbb) (o + i * 2)).trans e0
      have u1 := (cell_eq (hB1.block bb hbb) (o + i * 2 + 1)).trans e1
      have k2 := bx0 ((hB1.block b2 hb2).trans H2.out)
      have htm := HT.out _ (List.getElem_mem hil')
      have hps := fun j hj => rowS_part k l i j hil' hj
      have HWi := HW.out i hil'
      have hst := rowS_take k l i hil'
      obtain ⟨f, hf⟩ : ∃ f, f = fs i := ⟨_, rfl⟩
      obtain ⟨m, hm⟩ : ∃ m, m = l[i].2 := ⟨_, rfl⟩
      obtain ⟨wi, hwi⟩ : ∃ wi, wi = within k l[i].1 := ⟨_, rfl⟩
      rw [← hf] at u0 HWi
      rw [← hm] at u1 htm hps hst
      rw [← hwi] at hps HWi hst
      obtain ⟨hd, hhd⟩ : ∃ hd, hd = us ++ rowS k (l.take i) := ⟨_, rfl⟩
      have hlen : ∀ j, j ≤ m → hd.length + j * wi.length ≤ us.length + (rowS k l).length := fun j hj => by rw [hhd, List.length_append]; have := hps j hj; omega
      rw [← hhd] at hR1
      have hst' : us ++ rowS k (l.take (i + 1)) = hd ++ (List.replicate m wi).flatten := by rw [hst, hhd, List.append_assoc]
      have hxw : x ≤ wr.heap.size := by have := hC1.size; omega
      have hyb : b < wr.heap.size := by obtain ⟨MS, AS, h⟩ := hR1; exact (Array.getElem?_eq_some_iff.1 h.box).1
      have hyu : ∀ c, uv1.ownBlock = some c → c < wr.heap.size := fun c hc => by obtain ⟨MS, AS, h⟩ := hR1; exact (h.row.lt c hc).2
      have HR1 := hid hR1
      have HC1 := hid hC1
      have HWW := hid HWi
      have HLN := hid hlen
      have HST := hid hst'
      have HYU := hid hyu
      clear hR1 hC1 HWi hps hst hlen hst' hhd hf hm hwi hcs e0 e1 HI hB1 hyu
      go_upto_region 3 with fail
      obtain ⟨V, hV⟩ : ∃ V, V = wr.alloc (.cells #[pt f, .int .i64 (m : Int)] 119) := ⟨_, rfl⟩
      rw [← hV]
      obtain ⟨y, hy⟩ : ∃ y, y = wr.heap.size := ⟨_, rfl⟩
      rw [← hy]
      have hVb : Below wr.heap.size wr V := by rw [hV]; exact Joins.below_alloc1 wr _
      have hVy : V.heap[y]? = some (.cells #[pt f, .int .i64 (m : Int)] 119 (0, 0)) := by rw [hV, hy]; exact heap_alloc_new wr _
      have r0 : V.cell? ⟨y, 0, none⟩ = some (pt f) := Joins.cell_of_block hVy 0
      have r1 : V.cell? ⟨y, 1, none⟩ = some (.int .i64 (m : Int)) := Joins.cell_of_block hVy 1
      have hRV : ROv x V b uv1 hd := HR1.out.kept hVb
      have hCV : Chg w V (FB b uv) (FB b uv1) := by rw [hV]; exact HC1.out.alloc _
      have hyF : y ∉ FB b uv1 := by
        simp only [FB, List.mem_cons, Option.mem_toList, not_or]
        exact ⟨by omega, fun e => by have := HYU.out y e; omega⟩
      have HVY := hid hVy
      have HRV := hid hRV
      have HCV := hid hCV
      have HYF := hid hyF
      clear hV hy hVb hVy hRV hCV hyF HR1 HC1 HYU u0 u1 k2 hyb
      go_upto_region 4 with fail
      go_loopw [14] (fun yj wq => ∃ j : Nat, yj = .int .i64 (j : Int) ∧ j ≤ m ∧ Hid (∃ uv', ROv x wq b uv' (hd ++ (List.replicate j wi).flatten) ∧ Chg w wq (FB b uv) (FB b uv') ∧ y ∉ FB b uv') ∧ Hid (wq.heap[y]? = some (.cells #[pt f, .int .i64 (m : Int)] 119 (0, 0)))) (fun yj _ => m - (intOf yj).toNat)
      case atStart => exact ⟨0, rfl, by omega, ⟨uv1, by simpa using HRV.out, HCV.out, HYF.out⟩, HVY.out⟩
      case round =>
        obtain ⟨j, rfl, hj, HJ, HYB⟩ := hrel
        obtain ⟨uv2, hR2, hC2, hy2⟩ := HJ.out
        by_cases hjm : j < m
        · have d1 : decide ((j : Int) < (m : Int)) = true := by simp; omega
          have adj : IntKind.i64.wrap ((j : Int) + 1) = (j : Int) + 1 := by simp [IntKind.wrap, IntKind.bits, IntKind.signed]; omega
          have q0 := Joins.cell_of_block HYB.out 0
          have hB2 := HR.out.below hC2 hx
          have k2 := bx0 ((hB2.block b2 hb2).trans H2.out)
          have hl2 := HLN.out (j + 1) (by omega)
          have hnl := HNL.out
          have HC := HWW.out wr uv2 _ (by have := hC2.size; omega) (fun c hc => hB2.block c hc) hR2 (by rw [List.length_append, flat_rep_len]; have : (j + 1) * wi.length = j * wi.length + wi.length := Nat.succ_mul _ _; omega)
          have HC2 := hid hC2
          have HY2 := hid hy2
          have hyl := (Array.getElem?_eq_some_iff.1 HYB.out).1
          clear hR2 hC2 hy2 hB2 HJ hl2 hnl
          go_wp2_with (first | (go_at_call 89; (with_reducible refine HC.mono ?_); rintro e w3 ⟨rfl, uv3, hr3, hc3⟩; have HR3 := hid hr3; have HC3 := hid hc3; clear hr3 hc3 HC))
          refine ⟨⟨j + 1, by push_cast; rfl, by omega, ⟨uv3, ?_, HC2.out.trans HC3.out, fun hm => ?_⟩, ?_⟩, by simp [intOf]; omega⟩
          · rw [rep_succ, ← List.append_assoc]; exact HR3.out
          · rcases HC3.out.new y hm with h | h
            · exact HY2.out h
            · omega
          · exact (HC3.out.block y hyl HY2.out).trans HYB.out
        · have d1 : decide ((j : Int) < (m : Int)) = false := by simp; omega
          have hje : j = m := by omega
          have HRR := hid hR2
          have HCC := hid hC2
          clear hR2 hC2 hy2 HJ
          go_wp2
          refine ⟨⟨i + 1, by push_cast; rfl, by omega, ⟨uv2, ?_, HCC.out⟩⟩, by simp [intOf]; omega⟩
          rw [HST.out, ← hje]
          exact HRR.out
    · have b1' : decide ((i : Int) < (n : Int)) = false := by simp; omega
      obtain rfl : i = n := by omega
      go_wp2
      all_goals go_end0
      all_goals
        obtain ⟨uv1, hR1, hC1⟩ := HI.out
        refine ⟨rfl, uv1, ?_, hC1⟩
        rw [HN.out, List.take_length] at hR1
        exact hR1
end Go.Proofs.Ytnecakampgdhcaa
/- HELPERS: to go through an option; through any form. -/
namespace Go.Proofs.Ytnecakampgdhcaa
open Go.RowKit
set_option linter.unusedVariables false
set_option linter.unusedSimpArgs false
theorem chg_of_below {w w1 w2 : World} {F F' : List Nat} (hb : Below w.heap.size w w1) (hc : Chg w1 w2 F F') : Chg w w2 F F' :=
  ⟨hc.os.trans hb.os, hc.tape.trans hb.tape, hc.output.trans hb.output, Nat.le_trans hb.size hc.size, fun k hk hn => (hc.block k (Nat.lt_of_lt_of_le hk hb.size) hn).trans (hb.block k hk), fun k hk => by
    rcases hc.new k hk with h | h
    · exact .inl h
    · right; have := hb.size; omega⟩
set_option maxRecDepth 100000 in
set_option maxHeartbeats 8000000 in
theorem opt95 {N x b b1 b2 b3 g n : Nat} {lz : Bool} {y : Tn} {A : Nat → Prop} {w : World} {uv : Value} {us : List Tn} (HP : BPs N) (hR : ROv x w b uv us) (hx : x ≤ w.heap.size) (h1 : Bx w b1 81 (pt g)) (h2 : Bx w b2 3 (.int .i64 ((n + 2 : Nat) : Int))) (h3 : Bx w b3 4 (.bool lz)) (hb1 : b1 < x) (hb2 : b2 < x) (hb3 : b3 < x) (hn : n + 2 ≤ 1000) (hd : y.depth ≤ 1000000000) (hA : ∀ c, A c → c < w.heap.size) (hg : FA w A g y) (hN : (joinT [(y, 1), (optT y lz (n + 1), 1)]).nodes < N) (hus : us.length < 200000) :
    Calls Try.prog 108 #[dv b, pt b1, pt b2, pt b3] w (EPost x b w uv (us ++ [joinT [(y, 1), (optT y lz (n + 1), 1)]])) := by
  obtain ⟨q, hq⟩ : ∃ q, q = n + 2 := ⟨_, rfl⟩
  rw [← hq] at h2
  have hwq : IntKind.i64.wrap ((q : Int) - 1) = (q : Int) - 1 := by simp [IntKind.wrap, IntKind.bits, IntKind.signed]; omega
  have HC1 := opt65 A g y (n + 1) lz w.drew hA (hg.kept (fun _ _ => rfl) (fun _ h => h)) (by omega) hd
  rw [show ((n + 1 : Nat) : Int) = (q : Int) - 1 by omega] at HC1
  have hl1 := (Array.getElem?_eq_some_iff.1 h1).1
  have hl2 := (Array.getElem?_eq_some_iff.1 h2).1
  have hl3 := (Array.getElem?_eq_some_iff.1 h3).1
  have hdo := optT_dle y lz (n + 1)
  have hS : ∀ w3, Below x w w3 → w3.cell? ⟨b1, 0, none⟩ = some (pt g) ∧ w3.cell? ⟨b2, 0, none⟩ = some (.int .i64 (q : Int)) ∧ w3.cell? ⟨b3, 0, none⟩ = some (.bool lz) := fun w3 h => ⟨bx0 ((h.block b1 hb1).trans h1), bx0 ((h.block b2 hb2).trans h2), bx0 ((h.block b3 hb3).trans h3)⟩
  have HSS := hid hS
  have HD := hid (below_drew w)
  have HG := hid hg
  have HAA := hid hA
  have HR := hid hR
  have HPP := hid HP
  have HNN := hid hN
  clear hS hg hA hR HP hN h1 h2 h3 hq
  obtain ⟨s, hs⟩ : ∃ s, s = joinT [(y, 1), (optT y lz (n + 1), 1)] := ⟨_, rfl⟩
  rw [← hs] at HNN ⊢
  have HSJ := hid hs
  clear hs
  go_enter Try.func108, Try.ntmps108
  go_region_held2 (fun w3 => w3.cell? ⟨b1, 0, none⟩ = some (pt g) ∧ w3.cell? ⟨b2, 0, none⟩ = some (.int .i64 (q : Int)) ∧ w3.cell? ⟨b3, 0, none⟩ = some (.bool lz))
    (first | exact HSS.out _ (HD.out.mono hx) | exact HSS.out _ (HB2.out.mono hx) | (rw [← HV2.out]; exact HSS.out _ (HV2B.out.mono hx)) | exact HSS.out _ (HB4.out.mono hx) | exact HSS.out _ HRB5.out)
    (first | (go_at_call 90; (with_reducible refine HC1.mono ?_); rintro e w2 ⟨f2, rfl, hf2, hb2⟩; have hbb : Below w.heap.size w w2 := HD.out.trans (Joins.below_le hb2 HD.out.size); have HB2 := hid hbb; have hz12 : w.heap.size ≤ w2.heap.size := hbb.size; obtain ⟨V2, hV2⟩ : ∃ V2, V2 = w2.alloc (.cells #[pt g, .int .i64 1, pt f2, .int .i64 1] 119) := ⟨_, rfl⟩; have hV2n : V2.heap[w2.heap.size]? = some (.cells #[pt g, .int .i64 ((1 : Nat) : Int), pt f2, .int .i64 1] 119 (0, 0)) := (by rw [hV2]; exact heap_alloc_new w2 _); have hV2b : Below w2.heap.size w2 V2 := (by rw [hV2]; exact Joins.below_alloc1 w2 _); have hV2s : V2.heap.size = w2.heap.size + 1 := (by rw [hV2]; simp); have hb12 : Below w.heap.size w V2 := hbb.trans (Joins.below_le hV2b hz12); have HC2 := join_pair (A := New A w V2) hV2n (by omega) (New.low HAA.out (by omega)) (.inr ⟨by omega, by omega⟩) (HG.out.up HAA.out hb12 (fun b hb => .inl hb)) (hf2.up (New.low HAA.out hz12) hV2b (fun b hb => New.more (v := w) hb (Nat.le_refl _) (by omega))) (by omega) (by omega); rw [← HSJ.out] at HC2; have HV2B := hid hb12; have HV2 := hid hV2; have HV2S := hid hV2s; clear hV2 hV2n hV2b hV2s hb12 hf2 hb2 hbb HC1) | (go_at_call 68; rw [← HV2.out]; (with_reducible refine HC2.mono ?_); rintro e w4 ⟨f4, rfl, hf4, hb4⟩; have hbb : Below w.heap.size w w4 := HV2B.out.trans (Joins.below_le hb4 HV2B.out.size); have HC3 := do49 (HR.out.kept hbb) (Nat.le_trans hx hbb.size) f4 s (bp_below HPP.out HNN.out hf4 (New.low (New.low HAA.out (by have := HV2S.out; omega)) hb4.size)) hus; have HB4 := hid hbb; clear hf4 hb4 hbb HC2) | (go_at_call 74; (with_reducible refine HC3.mono ?_); rintro e w5 ⟨rfl, uv5, hr5, hc5⟩; have hcc := chg_of_below HB4.out hc5; have HRB5 := hid (show Below x w w5 from HR.out.below hcc hx); have HR5 := hid hr5; have HC5 := hid hcc; clear hr5 hc5 hcc HC3))
  all_goals go_end0
  all_goals exact ⟨rfl, uv5, HR5.out, HC5.out⟩
theorem EQ.at {x : Nat} {l : List Tn} {ev : Value} {w w' : World} (h : EQ x l ev w) (hk : ∀ c, c < x → w'.heap[c]? = w.heap[c]?) : EQ x l ev w' := fun W b uv us h1 h2 h3 h4 => h W b uv us h1 (fun c hc => (h2 c hc).trans (hk c hc)) h3 h4
theorem nodesL_flat_le (n : Nat) (l : List Tn) (h : 0 < n) : nodesL l ≤ nodesL (List.replicate n l).flatten := by
  rw [nodesL_rep]; exact Nat.le_mul_of_pos_left _ h
theorem rowS_nodes (k : Int) (l : List (Tn × Nat)) (i : Nat) (hi : i < l.length) (hp : 0 < l[i].2) : nodesL (within k l[i].1) ≤ nodesL (rowS k l) := by
  have h1 : rowS k l = rowS k (l.take (i + 1)) ++ rowS k (l.drop (i + 1)) := by rw [← rowS_append, List.take_append_drop]
  rw [h1, rowS_take k l i hi, nodesL_append, nodesL_append]
  have := nodesL_flat_le l[i].2 (within k l[i].1) hp
  omega
theorem rv_kept {w W : World} {A : Nat → Prop} {x : Nat} {ad : Option Addr} {fs : Nat → Nat} {l : List (Tn × Nat)} (h : RV w A ad fs l) (hA : ∀ c, A c → c < x) (hk : ∀ c, c < x → W.heap[c]? = w.heap[c]?) : RV W (fun c => c < x) ad fs l := h.kept (fun b hb => hk b (hA b hb)) hA
/-- any form's walk -/
theorem each_ok {N x : Nat} (HP : BPs N) {w : World} {A : Nat → Prop} {f : Nat} {t : Tn} (h : FA w A f t) (hA : ∀ c, A c → c < x) : t.nodes ≤ N → ∃ N0 ev, FC w f N0 ev t ∧ N0.k = t.kind ∧ EQ x t.subs ev w := by
  induction h with
  | @leaf f N' R hf hc ok hr hR hRk h5 =>
    intro hN
    refine ⟨_, _, hc, rfl, fun W b uv us h1 h2 h3 h4 => ⟨93, #[], rfl, en68, ?_⟩⟩
    refine (leaf68 (dv b) W).mono ?_
    rintro e w' ⟨rfl, rfl⟩
    exact ⟨rfl, uv, by simpa [Tn.subs] using h3, Chg.refl _ _⟩
  | @over f b' g k mn mx ix lz nm s hf hc ok hb hbB hs ih =>
    intro hN
    refine ⟨_, _, hc, rfl, fun W b uv us h1 h2 h3 h4 => ⟨92, #[pt b'], rfl, en67, ?_⟩⟩
    have hsN : s.nodes < N := by simp only [Tn.nodes, nodesL] at hN; omega
    exact over67 h3 h1 ((h2 b' (hA b' hbB)).trans hb) (bp_below HP hsN (hs.kept (fun c hc => h2 c (hA c hc)) (fun _ h => h)) (fun c hc => by have := hA c hc; omega)) (by simp [Tn.subs] at h4; omega)
  | @row f b1 b2 k ad c fs l hf hc hk h1 h2 hb1 hb2 hv ht hl hs ih =>
    intro hN
    refine ⟨_, _, hc, rfl, fun W b uv us g1 g2 g3 g4 => ⟨88, #[pt b1, pt b2], rfl, en63, ?_⟩⟩
    have hNl : 1 + nodesL (rowS k l) ≤ N := hN
    refine row63 g3 g1 ((g2 b1 (hA _ hb1)).trans h1) ((g2 b2 (hA _ hb2)).trans h2) (hA _ hb1) (hA _ hb2) rfl (rv_kept hv hA g2) (fun y hy => (ht y hy).2) hl ?_ g4
    intro i hi W' uv' us' e1 e2 e3 e4
    have hw := rowS_nodes k l i hi (ht _ (List.getElem_mem hi)).1
    rw [within_nodes] at hw
    have hpos := (l[i]).1.pos
    have hcw : ∀ c, c < x → W'.heap[c]? = w.heap[c]? := fun c hc => (e2 c hc).trans (g2 c hc)
    obtain ⟨N0, ev, q1, q2, q3⟩ := ih i hi (by split at hw <;> omega)
    have hfx : fs i < x := hA _ (hs i hi).cells.1
    refine within64 e3 e1 (q1.kept (hcw _ hfx)) q2 (fun _ => q3.at hcw) (fun hne => ?_) e4
    rw [if_neg hne] at hw
    exact bp_below HP (by omega) ((hs i hi).kept (fun c hc => hcw c (hA c hc)) (fun _ h => h)) (fun c hc => by have := hA c hc; omega)
  | @opt f b1 b2 b3 g n lz y hf hc h1 h2 h3 hb1 hb2 hb3 hn hd hs ih =>
    intro hN
    refine ⟨_, _, hc, (optT_kind _ _ _).symm, fun W b uv us g1 g2 g3 g4 => ⟨108, #[pt b1, pt b2, pt b3], rfl, en95, ?_⟩⟩
    rw [optT_step, loopT_nodes] at hN
    exact opt95 HP g3 g1 ((g2 _ (hA _ hb1)).trans h1) ((g2 _ (hA _ hb2)).trans h2) ((g2 _ (hA _ hb3)).trans h3) (hA _ hb1) (hA _ hb2) (hA _ hb3) hn hd (fun c hc => by have := hA c hc; omega) (hs.kept (fun c hc => g2 c (hA c hc)) (fun _ h => h)) (by omega) (by rw [optT_step] at g4; simp [Tn.subs] at g4; omega)
end Go.Proofs.Ytnecakampgdhcaa
/- HELPERS: a form is built. -/
namespace Go.Proofs.Ytnecakampgdhcaa
open Go.RowKit
set_option linter.unusedVariables false
set_option linter.unusedSimpArgs false
/-- the topmost node of a form -/
theorem FA.top {w : World} {A : Nat → Prop} {f : Nat} {t : Tn} (h : FA w A f t) : ∃ N0 ev R, FC w f N0 ev t ∧ N0.ok ∧ N0.r2 = R.length ∧ RP w A N0.r1 R ∧ (∀ x ∈ R, I64ok x.1 ∧ I64ok x.2) ∧ R.length ≤ 5000 ∧ t = .mk N0.k R N0.a2 t.subs N0.a4 N0.a5 N0.a6 N0.a7 N0.a8 := by
  have hnil : ∀ x ∈ ([] : List (Int × Int)), I64ok x.1 ∧ I64ok x.2 := fun x hx => by cases hx
  cases h with
  | @leaf _ N R hf hc ok hr hR hRk h5 => exact ⟨N, _, R, hc, ok, hr, hR, hRk, h5, rfl⟩
  | over hf hc ok hb hbB hs => exact ⟨_, _, [], hc, ok, rfl, fun h => absurd rfl h, hnil, by simp, rfl⟩
  | @row _ b1 b2 k ad c fs l hf hc hkk h1 h2 hb1 hb2 hv ht hl hs =>
    exact ⟨_, _, [], hc, ok_NO k 0 0 false 0 ⟨#[]⟩ (by rcases hkk with rfl | rfl <;> decide) (by decide) (by decide) (by decide) (Nat.zero_le _), rfl, fun h => absurd rfl h, hnil, by simp, rfl⟩
  | @opt _ b1 b2 b3 g n lz y hf hc h1 h2 h3 hb1 hb2 hb3 hn hd hs => exact ⟨_, _, [], hc, ok_NO 6 0 1 lz 0 ⟨#[]⟩ (by decide) (by decide) (by decide) (by decide) (Nat.zero_le _), rfl, fun h => absurd rfl h, hnil, by simp, rfl⟩
theorem FC.ev_eq {w : World} {f : Nat} {N N' : Nv} {ev ev' : Value} {t t' : Tn} (h : FC w f N ev t) (h' : FC w f N' ev' t') : ev = ev' := by
  have h1 := h.num.2.1
  have h2 := h'.num.2.1
  rw [h1] at h2
  simpa using h2
theorem row_base {w : World} {base base' e size n : Nat} {v : Value} {xs : List Value} (h : w.ownsRow base e size v n xs) (hb : base' ≤ base) : w.ownsRow base' e size v n xs := by
  refine ⟨h.1, ?_⟩
  rcases h.2 with hn | ⟨g, cap, cur, h1, h2, h3⟩
  · exact .inl hn
  · exact .inr ⟨g, cap, cur, h1, by omega, h3⟩
theorem subs_len (t : Tn) : t.subs.length < t.nodes := by rw [t.nodes_subs]; have := nodes_ge t.subs; omega
theorem RP.src {w : World} {A : Nat → Prop} {ad : Option Addr} {R : List (Int × Int)} (h : RP w A ad R) (hp : 0 < R.length) : ∃ b f, ad = some ⟨b, f, none⟩ ∧ ∀ j u, (O2 R)[j]? = some u → w.cell? ⟨b, f + j, none⟩ = some u := by
  obtain ⟨b, f, h1, _, h3⟩ := h (fun e => by rw [e] at hp; simp at hp)
  refine ⟨b, f, h1, fun j u hj => ?_⟩
  have hjl : j < R.length * 2 := by have := (List.getElem?_eq_some_iff.1 hj).1; rwa [O2_len] at this
  obtain ⟨i, r, hr, rfl⟩ : ∃ i r, r < 2 ∧ j = i * 2 + r := ⟨j / 2, j % 2, by omega, by omega⟩
  have hi : i < R.length := by omega
  have ho := O2_at R i hi
  have hc := h3 i hi
  have : r = 0 ∨ r = 1 := by omega
  rcases this with rfl | rfl
  · rw [Nat.add_zero] at hj ⊢
    rw [ho.1] at hj
    rw [hc.1]; exact hj
  · rw [ho.2] at hj
    rw [← Nat.add_assoc, hc.2]; exact hj
theorem nineSet1 (X : World) (b : Nat) {c0 c1 c2 c3 c4 c5 c6 c7 c8 : Value} {t : TypeId} (v0 v1 v2 v3 v4 v5 v6 v7 v8 : Value) (h : X.heap[b]? = some (.cells #[c0, c1, c2, c3, c4, c5, c6, c7, c8] t (0, 0))) : (((((((((X.setCell ⟨b, 0, none⟩ v0).setCell ⟨b, 1, none⟩ v1).setCell ⟨b, 2, none⟩ v2).setCell ⟨b, 3, none⟩ v3).setCell ⟨b, 4, none⟩ v4).setCell ⟨b, 5, none⟩ v5).setCell ⟨b, 6, none⟩ v6).setCell ⟨b, 7, none⟩ v7).setCell ⟨b, 8, none⟩ v8).heap[b]? = some (.cells #[v0, v1, v2, v3, v4, v5, v6, v7, v8] t (0, 0)) := by
  have h0 : (X.setCell ⟨b, 0, none⟩ v0).heap[b]? = some (.cells #[v0, c1, c2, c3, c4, c5, c6, c7, c8] t (0, 0)) := Joins.block_setCell (i := 0) h v0
  have h1 : ((X.setCell ⟨b, 0, none⟩ v0).setCell ⟨b, 1, none⟩ v1).heap[b]? = some (.cells #[v0, v1, c2, c3, c4, c5, c6, c7, c8] t (0, 0)) := Joins.block_setCell (i := 1) h0 v1
  have h2 : (((X.setCell ⟨b, 0, none⟩ v0).setCell ⟨b, 1, none⟩ v1).setCell ⟨b, 2, none⟩ v2).heap[b]? = some (.cells #[v0, v1, v2, c3, c4, c5, c6, c7, c8] t (0, 0)) := Joins.block_setCell (i := 2) h1 v2
  have h3 : ((((X.setCell ⟨b, 0, none⟩ v0).setCell ⟨b, 1, none⟩ v1).setCell ⟨b, 2, none⟩ v2).setCell ⟨b, 3, none⟩ v3).heap[b]? = some (.cells #[v0, v1, v2, v3, c4, c5, c6, c7, c8] t (0, 0)) := Joins.block_setCell (i := 3) h2 v3
  have h4 : (((((X.setCell ⟨b, 0, none⟩ v0).setCell ⟨b, 1, none⟩ v1).setCell ⟨b, 2, none⟩ v2).setCell ⟨b, 3, none⟩ v3).setCell ⟨b, 4, none⟩ v4).heap[b]? = some (.cells #[v0, v1, v2, v3, v4, c5, c6, c7, c8] t (0, 0)) := Joins.block_setCell (i := 4) h3 v4
  have h5 : ((((((X.setCell ⟨b, 0, none⟩ v0).setCell ⟨b, 1, none⟩ v1).setCell ⟨b, 2, none⟩ v2).setCell ⟨b, 3, none⟩ v3).setCell ⟨b, 4, none⟩ v4).setCell ⟨b, 5, none⟩ v5).heap[b]? = some (.cells #[v0, v1, v2, v3, v4, v5, c6, c7, c8] t (0, 0)) := Joins.block_setCell (i := 5) h4 v5
  have h6 : (((((((X.setCell ⟨b, 0, none⟩ v0).setCell ⟨b, 1, none⟩ v1).setCell ⟨b, 2, none⟩ v2).setCell ⟨b, 3, none⟩ v3).setCell ⟨b, 4, none⟩ v4).setCell ⟨b, 5, none⟩ v5).setCell ⟨b, 6, none⟩ v6).heap[b]? = some (.cells #[v0, v1, v2, v3, v4, v5, v6, c7, c8] t (0, 0)) := Joins.block_setCell (i := 6) h5 v6
  have h7 : ((((((((X.setCell ⟨b, 0, none⟩ v0).setCell ⟨b, 1, none⟩ v1).setCell ⟨b, 2, none⟩ v2).setCell ⟨b, 3, none⟩ v3).setCell ⟨b, 4, none⟩ v4).setCell ⟨b, 5, none⟩ v5).setCell ⟨b, 6, none⟩ v6).setCell ⟨b, 7, none⟩ v7).heap[b]? = some (.cells #[v0, v1, v2, v3, v4, v5, v6, v7, c8] t (0, 0)) := Joins.block_setCell (i := 7) h6 v7
  exact Joins.block_setCell (i := 8) h7 v8
theorem below_two (w : World) (o o' : Obj) : Below w.heap.size w ((w.alloc o).alloc o') := below_two' w o o'
set_option maxRecDepth 100000 in
set_option maxHeartbeats 8000000 in
theorem built32 {N : Nat} (HP : BPs N) (hN : N ≤ 200000) {w : World} {A : Nat → Prop} {f : Nat} {t : Tn} (h : FA w A f t) (hA : ∀ c, A c → c < w.heap.size) (ht : t.nodes ≤ N) : BP t f w := by
  unfold BP
  obtain ⟨N0, ev, R, hc, ok, hr, hR, hRk, h5, hte⟩ := h.top
  obtain ⟨i5, hi5, hz50, hz51, hz52⟩ := info_parts info53
  have hfl : f < w.heap.size := (Array.getElem?_eq_some_iff.1 hc).1
  obtain ⟨k, r1, r2, r3, a2, s1, s2, s3, a4, a5, a6, a7, a8⟩ := N0
  dsimp only at hr hR hte
  have k0 : w.cell? ⟨f, 0, none⟩ = some (.int .i64 k) := Joins.cell_of_block hc 0
  have k1 : w.cell? ⟨f, 1, none⟩ = some (.slice r1 r2 r3) := Joins.cell_of_block hc 1
  have k2 : w.cell? ⟨f, 2, none⟩ = some (.int .i64 a2) := Joins.cell_of_block hc 2
  have k3 : w.cell? ⟨f, 3, none⟩ = some (.slice s1 s2 s3) := Joins.cell_of_block hc 3
  have k4 : w.cell? ⟨f, 4, none⟩ = some (.int .i64 a4) := Joins.cell_of_block hc 4
  have k5 : w.cell? ⟨f, 5, none⟩ = some (.int .i64 a5) := Joins.cell_of_block hc 5
  have k6 : w.cell? ⟨f, 6, none⟩ = some (.bool a6) := Joins.cell_of_block hc 6
  have k7 : w.cell? ⟨f, 7, none⟩ = some (.int .i64 a7) := Joins.cell_of_block hc 7
  have k8 : w.cell? ⟨f, 8, none⟩ = some (.string a8) := Joins.cell_of_block hc 8
  have HF := hid h
  have HAA := hid hA
  have HCC := hid hc
  have HR := hid hR
  have HRL := hid hr
  have HOK := hid ok
  have HTE := hid hte
  have HHP := hid HP
  have HTN := hid ht
  have h52 : r2 ≤ 5000 := by omega
  clear h hA hc hR hr ok hte HP ht
  go_enter Try.func47, Try.ntmps47
  go_upto_region 2 with fail
  obtain ⟨U, hU⟩ : ∃ U, U = (w.alloc (.cells #[.int .i64 0, .slice none 0 0, .int .i64 0, .slice none 0 0, .int .i64 0, .int .i64 0, .bool false, .int .i64 0, .string ⟨#[]⟩] 39)).alloc (.cells #[.int .i64 k, .slice r1 r2 r3, .int .i64 a2, .slice s1 s2 s3, .int .i64 a4, .int .i64 a5, .bool a6, .int .i64 a7, .string a8] 39) := ⟨_, rfl⟩
  rw [← hU]
  have hbU : Below w.heap.size w U := by rw [hU]; exact below_two' w _ _
  have hY : BN U w.heap.size Zn := by rw [hU]; exact (heap_alloc_old _ _ (by simp)).trans (heap_alloc_new w _)
  have hX : BN U (w.heap.size + 1) ⟨k, r1, r2, r3, a2, s1, s2, s3, a4, a5, a6, a7, a8⟩ := by rw [hU]; exact two_new w _ _ _
  have hsU : U.heap.size = w.heap.size + 2 := by rw [hU]; simp
  obtain ⟨x, hx⟩ : ∃ x, x = w.heap.size + 1 := ⟨_, rfl⟩
  rw [← hx] at hX ⊢
  obtain ⟨y, hy⟩ : ∃ y, y = w.heap.size := ⟨_, rfl⟩
  rw [← hy] at hY hx hsU hfl ⊢
  have hFU : FC U f _ ev t := HCC.out.kept (hbU.block f (by omega))
  have g1 : U.cell? ⟨f, 1, none⟩ = some (.slice r1 r2 r3) := Joins.cell_of_block hFU 1
  have HSR : Hid (0 < r2 → ∃ b o, r1 = some ⟨b, o, none⟩ ∧ ∀ j u, (O2 R)[j]? = some u → U.cell? ⟨b, o + j, none⟩ = some u) := fun hp => RP.src (HR.out.kept (fun b hb => hbU.block b (HAA.out b hb)) (fun _ h => h)) (by have := HRL.out; omega)
  have HO2 : Hid ((O2 R).length = r2 * 2) := (O2_len R).trans (by rw [HRL.out])
  have HX := hid hX
  have HY := hid hY
  have HBU := hid hbU
  have HYE := hid hy
  have HXE := hid hx
  have HSU := hid hsU
  have hxU : x < U.heap.size := by omega
  have hyU : y < U.heap.size := by omega
  have hfy : f < y := hfl
  clear hU hbU hX hY hx hy hFU k0 k1 k2 k3 k4 k5 k6 k7 k8 hsU hfl
  go_upto_region 3 with (at_builtin; refine wpList_append_nil rfl (.const (.slice none 0 0)) (.tmp 13) 36 rfl 49 i5 (.agg #[.int .i64 0, .int .i64 0]) 2 16 Try.underlying36 hi5 hz50 hz51 hz52 rfl (by decide) rfl r1 r2 r3 (O2 R) rfl HO2.out HSR.out (O2_one _) (by unfold maxLen; omega) (by omega) ?_; intro v4 w4 ho4 hb4 hl4; obtain ⟨c1, c3, rfl, hc3⟩ := row_shape ho4.out; have HC3 := hid hc3; clear hc3; have hX4 := (hb4.out.block x hxU).trans HX.out; have f1 := Joins.unfrozen_of_block hX4 1; have HX4 := hid hX4; have j1 := Joins.cell_of_block hX4 1; clear hX4)
  obtain ⟨V, hV⟩ : ∃ V, V = w4.setCell ⟨x, 1, none⟩ (.slice c1 r2 c3) := ⟨_, rfl⟩
  rw [← hV]
  have hxy := HXE.out
  have hz4 : U.heap.size ≤ w4.heap.size := hb4.out.size
  have hzV : V.heap.size = w4.heap.size := by rw [hV]; simp [World.setCell]
  have hXV : BN V x ⟨k, c1, r2, c3, a2, s1, s2, s3, a4, a5, a6, a7, a8⟩ := by rw [hV]; exact Joins.block_setCell (i := 1) HX4.out _
  have hYV : BN V y Zn := by rw [hV]; exact (Below.heap_setCell _ _ _ _ (fun e => by simp only at e; omega)).trans ((hb4.out.block y (by omega)).trans HY.out)
  have hRV : V.ownsRow U.heap.size 49 2 (.slice c1 r2 c3) r2 (O2 R) := by rw [hV]; exact row_kept ho4.out fun c hc => Below.heap_setCell _ _ _ _ (fun e => by have := (ho4.out.lt c hc).1; simp only at e; omega)
  have hBV : Below y w V := by
    rw [hV]
    have h1 : Below y w w4 := by have := HBU.out; rw [← HYE.out] at this; exact this.trans (Joins.below_le hb4.out (by omega))
    exact h1.setCell (p := ⟨x, 1, none⟩) (by show y ≤ x; omega) _
  obtain ⟨V6, hV6⟩ : ∃ V6, V6 = V.alloc (.cells #[.slice none 0 0] 37) := ⟨_, rfl⟩
  obtain ⟨b, hb⟩ : ∃ b, b = V.heap.size := ⟨_, rfl⟩
  have hs6 : V6.heap.size = b + 1 := by rw [hV6, hb]; simp
  have ho6 : ∀ c, c < b → V6.heap[c]? = V.heap[c]? := fun c hc => by rw [hV6]; exact heap_alloc_old _ _ (by omega)
  have hX6 : BN V6 x ⟨k, c1, r2, c3, a2, s1, s2, s3, a4, a5, a6, a7, a8⟩ := (ho6 x (by omega)).trans hXV
  have hY6 : BN V6 y Zn := (ho6 y (by omega)).trans hYV
  have hv6 : Bx V6 b 37 (.slice none 0 0) := by rw [hV6, hb]; exact heap_alloc_new V _
  have hR6 : V6.ownsRow U.heap.size 49 2 (.slice c1 r2 c3) r2 (O2 R) := row_kept hRV fun c hc => ho6 c (by have := (hRV.lt c hc).2; omega)
  have hB6 : Below y w V6 := by rw [hV6]; exact hBV.alloc (by omega) _
  have hFA6 : FA V6 A f t := HF.out.kept (fun c hc => hB6.block c (by have := HAA.out c hc; have := HYE.out; omega)) (fun _ h => h)
  obtain ⟨N1, ev1, q1, q2, HEQ⟩ := each_ok (x := b) HHP.out hFA6 (fun c hc => by have := HAA.out c hc; have := HYE.out; omega) HTN.out
  have hev : ev1 = ev := q1.ev_eq (HCC.out.kept (hB6.block f hfy))
  subst hev
  have hRO : ROv b V6 b (.slice none 0 0) [] := ⟨[], fun _ _ => False, hv6, Nat.le_refl _, World.ownsRow_nil _ _ _ _, by simp [Value.ownBlock], rfl, fun j h => by simp at h, fun j c h => by simp at h, fun i j c h => by simp at h⟩
  obtain ⟨n, ca, hevn, hen, HC⟩ := HEQ V6 b (.slice none 0 0) [] (by omega) (fun _ _ => rfl) hRO (by have := subs_len t; have := HTN.out; simp; omega)
  have b9 : V6.cell? ⟨f, 9, none⟩ = some (.func (.func n) #[] ca) := by rw [← hevn]; exact Joins.cell_of_block q1 9
  have HX6 := hid hX6
  have HY6 := hid hY6
  have HR6 := hid hR6
  have HB6 := hid hB6
  have hxb : x < b := by omega
  have hyb : y < b := by omega
  have HV6 := hid hV6
  have HBE := hid hb
  have HS6 := hid hs6
  have HUB := hid (show U.heap.size ≤ b by omega)
  have HRB : Hid (∀ c, (Value.slice c1 r2 c3).ownBlock = some c → c < b) := fun c hc => by have := (hRV.lt c hc).2; omega
  clear hV hzV hXV hYV hRV hBV hV6 ho6 hX6 hY6 hv6 hR6 hB6 hFA6 q1 q2 HEQ hevn hRO hb hs6 f1 j1 g1 hxy
  go_upto_region 4 with fail
  rw [← HV6.out, ← HBE.out]
  go_upto_region 5 with (first | (with_reducible refine HC.mono ?_; rintro e w9 ⟨rfl, uv9, hr9, hc9⟩; have HR9 := hid hr9; have HC9 := hid hc9; clear hr9 hc9 HC))
  have hr9' := HR9.out
  rw [List.nil_append] at hr9'
  obtain ⟨MS, AS, hro⟩ := hr9'
  obtain ⟨ub, uc, rfl, huc⟩ := row_shape hro.row
  have hML := hro.len
  obtain ⟨m, hm⟩ : ∃ m, m = MS.length := ⟨_, rfl⟩
  have hbo : Bx w9 b 37 (.slice ub m uc) := by rw [hm]; exact hro.box
  have hk9 : ∀ c, c < b → w9.heap[c]? = V6.heap[c]? := fun c hc => HC9.out.block c (by have := HS6.out; omega) (by simp [FB, Value.ownBlock]; omega)
  have hX9 := (hk9 x hxb).trans HX6.out
  have hY9 := (hk9 y hyb).trans HY6.out
  have s0 := bx0 hbo
  have x3 := Joins.unfrozen_of_block hX9 3
  have y0 := Joins.unfrozen_of_block hY9 0
  have y1 := Joins.unfrozen_of_block hY9 1
  have y2 := Joins.unfrozen_of_block hY9 2
  have y3 := Joins.unfrozen_of_block hY9 3
  have y4 := Joins.unfrozen_of_block hY9 4
  have y5 := Joins.unfrozen_of_block hY9 5
  have y6 := Joins.unfrozen_of_block hY9 6
  have y7 := Joins.unfrozen_of_block hY9 7
  have y8 := Joins.unfrozen_of_block hY9 8
  obtain ⟨p0, p1, p2, p3, p4, p5, p6, p7, p8⟩ := nine' hX9
  obtain ⟨z0, z1, z2, z3, z4, z5, z6, z7, z8⟩ := nine' hY9
  have HX9 := hid hX9
  have HY9 := hid hY9
  have HRO := hid hro
  have HML := hid hML
  have HM := hid hm
  have HK9 := hid hk9
  have HUC := hid huc
  have hyx : y < x := by have := HXE.out; omega
  have hs9 : b + 1 ≤ w9.heap.size := by have := HC9.out.size; have := HS6.out; omega
  clear hro hML hbo hX9 hY9 hk9 hm HR9 huc
  go_wp2
  all_goals
    have hy3 : (w9.setCell ⟨x, 3, none⟩ (.slice ub m uc)).heap[y]? = some (.cells #[.int .i64 0, .slice none 0 0, .int .i64 0, .slice none 0 0, .int .i64 0, .int .i64 0, .bool false, .int .i64 0, .string ⟨#[]⟩] 39 (0, 0)) := (Below.heap_setCell _ _ _ _ (fun e => by simp only at e; omega)).trans HY9.out
    have hfin := nineSet1 _ y (.int .i64 k) (.slice c1 r2 c3) (.int .i64 a2) (.slice ub m uc) (.int .i64 a4) (.int .i64 a5) (.bool a6) (.int .i64 a7) (.string a8) hy3
    refine bodyPost_ret (results_cell_row rfl _ _ y 39 _ (0, 0) _ rfl hfin Try.underlying39 rfl (by kernel_rfl)) rfl ?_
    have hold : ∀ c, c ≠ x → c ≠ y → (set9 (w9.setCell ⟨x, 3, none⟩ (.slice ub m uc)) y 0 ⟨k, c1, r2, c3, a2, ub, m, uc, a4, a5, a6, a7, a8⟩).heap[c]? = w9.heap[c]? := fun c h1 h2 => by
      rw [set9_eq]
      exact (setCells_old y _ _ _ c h2).trans (Below.heap_setCell _ _ _ _ h1)
    have hBel : Below y w (set9 (w9.setCell ⟨x, 3, none⟩ (.slice ub m uc)) y 0 ⟨k, c1, r2, c3, a2, ub, m, uc, a4, a5, a6, a7, a8⟩) := by
      rw [set9_eq]
      have h9 : Below y w w9 := HB6.out.trans ⟨HC9.out.os, HC9.out.tape, HC9.out.output, HC9.out.size, fun c hc => HK9.out c (by omega)⟩
      exact Below.setCells (Nat.le_refl _) _ _ _ _ (h9.setCell (p := ⟨x, 3, none⟩) (by show y ≤ x; omega) _)
    have hfold : set9 (w9.setCell ⟨x, 3, none⟩ (.slice ub m uc)) y 0 ⟨k, c1, r2, c3, a2, ub, m, uc, a4, a5, a6, a7, a8⟩ = (((((((((w9.setCell ⟨x, 3, none⟩ (.slice ub m uc)).setCell ⟨y, 0, none⟩ (.int .i64 k)).setCell ⟨y, 1, none⟩ (.slice c1 r2 c3)).setCell ⟨y, 2, none⟩ (.int .i64 a2)).setCell ⟨y, 3, none⟩ (.slice ub m uc)).setCell ⟨y, 4, none⟩ (.int .i64 a4)).setCell ⟨y, 5, none⟩ (.int .i64 a5)).setCell ⟨y, 6, none⟩ (.bool a6)).setCell ⟨y, 7, none⟩ (.int .i64 a7)).setCell ⟨y, 8, none⟩ (.string a8) := rfl
    rw [hfold] at hold hBel
    generalize (((((((((w9.setCell ⟨x, 3, none⟩ (.slice ub m uc)).setCell ⟨y, 0, none⟩ (.int .i64 k)).setCell ⟨y, 1, none⟩ (.slice c1 r2 c3)).setCell ⟨y, 2, none⟩ (.int .i64 a2)).setCell ⟨y, 3, none⟩ (.slice ub m uc)).setCell ⟨y, 4, none⟩ (.int .i64 a4)).setCell ⟨y, 5, none⟩ (.int .i64 a5)).setCell ⟨y, 6, none⟩ (.bool a6)).setCell ⟨y, 7, none⟩ (.int .i64 a7)).setCell ⟨y, 8, none⟩ (.string a8) = Uf at hold hBel ⊢
    have hm := HM.out
    have hro := HRO.out
    rw [← hm] at hro
    have hye := HYE.out
    have hrr : Uf.ownsRow U.heap.size 49 2 (.slice c1 r2 c3) r2 (O2 R) := row_kept HR6.out fun c hc => by
      have h1 := HR6.out.lt c hc
      have := HSU.out
      by_cases hcb : c < b
      · exact (hold c (by omega) (by omega)).trans (HK9.out c hcb)
      · exfalso
        have := HRB.out c hc
        omega
    have hTOs : ∀ j (hj : j < t.subs.length), TO Uf (MS.getD j default) t.subs[j] (AS j) := fun j hj => by
      have hjm : j < MS.length := by have := HML.out; omega
      rw [List.getD_eq_getElem?_getD, List.getElem?_eq_getElem hjm]
      exact (hro.tos j hj hjm).kept fun c hc => hold c (by have := (hro.low j c hj hc).1; omega) (by have := (hro.low j c hj hc).1; omega)
    have hsr : Uf.ownsRow 0 39 9 (.slice ub m uc) t.subs.length (((List.range t.subs.length).map (fun j => MS.getD j default)).flatMap Nv.cs) := by
      have e : (List.range t.subs.length).map (fun j => MS.getD j default) = MS := by
        apply List.ext_getElem (by simp [HML.out])
        intro j h1 h2
        simp [List.getD_eq_getElem?_getD, List.getElem?_eq_getElem h2]
      rw [e, ← HML.out]
      have h9 : Uf.ownsRow b 39 9 (.slice ub m uc) MS.length (MS.flatMap Nv.cs) := row_kept hro.row fun c hc => hold c (by have := (hro.row.lt c hc).1; omega) (by have := (hro.row.lt c hc).1; omega)
      exact row_base h9 (Nat.zero_le _)
    refine ⟨⟨k, c1, r2, c3, a2, ub, m, uc, a4, a5, a6, a7, a8⟩, rfl, fun c => (Value.slice c1 r2 c3).ownBlock = some c ∨ (Value.slice ub m uc).ownBlock = some c ∨ ∃ i, i < t.subs.length ∧ AS i c, ?_, ?_, by rw [← hye]; exact hBel⟩
    · have hTO := TO.mk (w := Uf) (N := ⟨k, c1, r2, c3, a2, ub, m, uc, a4, a5, a6, a7, a8⟩) (ND := fun j => MS.getD j default) (AS := AS) ⟨HOK.out.k, HOK.out.a2, HOK.out.a4, HOK.out.a5, HOK.out.a7, HOK.out.a8, HC3.out, by rw [hm]; exact HUC.out⟩ hRk (by rw [← HRL.out]; exact row_base hrr (Nat.zero_le _)) hsr hTOs hro.apart (fun c hc hc2 => by
        have h1 := HRB.out c hc
        have h2 := (hro.row.lt c hc2).1
        omega) (fun j c hj hc => ⟨fun e => by
        have h1 := HRB.out c e
        have h2 := (hro.low j c hj hc).1
        omega, (hro.low j c hj hc).2.2⟩)
      dsimp only at hTO
      rw [← HTE.out] at hTO
      exact hTO
    · rintro c (hc | hc | ⟨j, hj, hc⟩)
      · have := (hrr.lt c hc).1; have := HSU.out; omega
      · have := (hro.row.lt c hc).1; omega
      · have := (hro.low j c hj hc).1; omega
theorem built_all : ∀ N, N ≤ 200001 → BPs N := by
  intro N
  induction N with
  | zero => intro _ s W g A hs; omega
  | succ N ih =>
    intro hN s W g A hs hg hA
    exact built32 (ih (by omega)) (by omega) hg hA (by omega)
end Go.Proofs.Ytnecakampgdhcaa
namespace Go.Proofs.Ytnecakampgdhcaa
open Go.RowKit
set_option linter.unusedVariables false
set_option linter.unusedSimpArgs false
theorem results_cell_tmp1 {P : Program} {fn : Func} {p u : Tmp} {ty : TypeId} (h : fn.results = #[.cell p ty, .tmp u]) (tmps : Array Value) (w : World) (g : Nat) (t : TypeId) (cs : Array Value) (fr : Nat × Nat) (d : TypeDesc)
    (hp : tmps.getD p undef = .pointer (some ⟨g, 0, none⟩)) (hg : w.heap[g]? = some (.cells cs t fr))
    (hu : P.underlying ty = some d) (hd : (match d with | .struct _ | .array _ _ => true | _ => false) = true) (hi : (P.info? ty).map (·.size) = some cs.size) :
    (results fn tmps).run P w = .ok (.tuple #[.agg cs, tmps.getD u undef]) w := by
  have hp' : tmps[p]?.getD undef = .pointer (some ⟨g, 0, none⟩) := by simpa using hp
  simp [results, h, hp', asAddr, run_loadVar_row w g t ty cs fr d hg hu hd hi]
/-- too great a form -/
def Tn.bigS (t : Tn) : Bool := decide (200000 < t.S.nodes) || decide (10000 < t.S.depth)
/-- what Simplify tells -/
def errS (t : Tn) : Int := if t.sound then (if t.bigS then 3 else 0) else 50
abbrev zeroT : Tn := .mk 0 [] 0 [] 0 0 false 0 ⟨#[]⟩
def simT (t : Tn) : Tn := if errS t = 0 then t.S else zeroT
def sizeT (t : Tn) : Nat := if t.sound then capN t.S.nodes else 0
theorem zn_ok : Zn.ok := ok_NO 0 0 0 false 0 ⟨#[]⟩ (by decide) (by decide) (by decide) (by decide) (Nat.zero_le _)
theorem to_zero (w : World) : TO w Zn zeroT (fun b => Zn.rb = some b ∨ Zn.sb = some b ∨ ∃ i, i < ([] : List Tn).length ∧ False) :=
  TO.mk (N := Zn) (R := []) (ts := []) (ND := fun _ => default) (AS := fun _ _ => False) zn_ok (fun x hx => by cases hx) (World.ownsRow_nil _ _ _ _) (World.ownsRow_nil _ _ _ _) (fun i hi => by simp at hi) (fun i j b hi => by simp at hi) (fun b hb => by cases hb) (fun i b hi => by simp at hi)
theorem tail_nine {w3 : World} {y : Nat} (M : Nv) (hY : BN w3 y Zn) : (set9 w3 y 0 M).heap[y]? = some (.cells #[.int .i64 M.k, .slice M.r1 M.r2 M.r3, .int .i64 M.a2, .slice M.s1 M.s2 M.s3, .int .i64 M.a4, .int .i64 M.a5, .bool M.a6, .int .i64 M.a7, .string M.a8] 39 (0, 0)) ∧ (∀ c, c ≠ y → (set9 w3 y 0 M).heap[c]? = w3.heap[c]?) ∧ ∀ B0 W0, Below B0 W0 w3 → B0 ≤ y → Below B0 W0 (set9 w3 y 0 M) := by
  refine ⟨nineSet1 _ y _ _ _ _ _ _ _ _ _ hY, fun c hc => ?_, fun B0 W0 h h1 => ?_⟩
  · rw [set9_eq]; exact setCells_old y _ _ _ c hc
  · rw [set9_eq]; exact Below.setCells h1 _ _ _ _ h
set_option maxRecDepth 100000 in
set_option maxHeartbeats 8000000 in
theorem simplify11 {w : World} {N : Nv} {t : Tn} (h : TI w w.heap.size N t) : Calls Try.prog 30 #[N.v] w fun e w' => ∃ M, e = .returned (.tuple #[Nv.v M, .int .i64 (errS t)]) ∧ ∃ AA, TO w' M (simT t) AA ∧ (∀ c, AA c → w.heap.size ≤ c) ∧ Below w.heap.size w w' := by
  have hTI : TI ((w.alloc (.cells #[.int .i64 N.k, .slice N.r1 N.r2 N.r3, .int .i64 N.a2, .slice N.s1 N.s2 N.s3, .int .i64 N.a4, .int .i64 N.a5, .bool N.a6, .int .i64 N.a7, .string N.a8] 39)).alloc litO) w.heap.size N t := h.kept fun b hb => (heap_alloc_old _ _ (by simp; omega)).trans (heap_alloc_old w _ hb)
  obtain ⟨W, hW⟩ : ∃ W, W = (w.alloc (.cells #[.int .i64 N.k, .slice N.r1 N.r2 N.r3, .int .i64 N.a2, .slice N.s1 N.s2 N.s3, .int .i64 N.a4, .int .i64 N.a5, .bool N.a6, .int .i64 N.a7, .string N.a8] 39)).alloc litO := ⟨_, rfl⟩
  have hbW : Below w.heap.size w W := by rw [hW]; exact below_two' w _ _
  have hsW : W.heap.size = w.heap.size + 2 := by rw [hW]; simp
  have hX : BN W w.heap.size N := by rw [hW]; exact (heap_alloc_old _ _ (by simp)).trans (heap_alloc_new w _)
  have hY : BN W (w.heap.size + 1) Zn := by rw [hW]; exact two_new w _ _ _
  rw [← hW] at hTI
  have HC := sound29g (hTI.le (by omega))
  obtain ⟨x, hx⟩ : ∃ x, x = w.heap.size := ⟨_, rfl⟩
  rw [← hx] at hX hY hsW
  obtain ⟨k, r1, r2, r3, a2, s1, s2, s3, a4, a5, a6, a7, a8⟩ := N
  obtain ⟨q0, q1, q2, q3, q4, q5, q6, q7, q8⟩ := nine' hX
  have HX := hid hX
  have HY := hid hY
  have HBW := hid hbW
  have HSW := hid hsW
  have HXE := hid hx
  have HTI := hid hTI
  dsimp only at HC hW q0 q1 q2 q3 q4 q5 q6 q7 q8
  by_cases hsd : t.sound = true
  · rw [hsd] at HC
    simp only [if_true] at HC
    simp only [Tn.sound, Bool.and_eq_true, decide_eq_true_eq] at hsd
    have hfo := formOf31 HTI.out hsd.1.1 hsd.1.2 hsd.2
    have HFO := hid hfo
    have HSD := hid hsd
    clear hX hY hbW hsW hTI h hfo hsd
    go_enter Try.func30, Try.ntmps30
    go_upto_region 1 with fail
    rw [← hx, ← hW]
    clear hW hx
    go_upto_region 3 with (first | (go_at_call 28; (with_reducible refine HC.mono ?_); rintro e w2 ⟨rfl, hb2⟩; have hX2 := (hb2.block x (by have := HSW.out; omega)).trans HX.out; clear q0 q1 q2 q3 q4 q5 q6 q7 q8; obtain ⟨q0, q1, q2, q3, q4, q5, q6, q7, q8⟩ := nine' hX2; have HC2 := HFO.out w2 (by have := HXE.out; have := HSW.out; have := hb2.size; omega) (fun c hc => hb2.block c (by have := HXE.out; have := HSW.out; omega)); have HB2 := hid hb2; clear hb2 hX2 HC))
    go_upto_region 4 with (first | (go_at_call 46; (with_reducible refine HC2.mono ?_); rintro e w3 ⟨f, rfl, hf, hb3⟩; have HF := hid hf; have HB3 := hid hb3; clear hf hb3 HC2))
    have hz2 : W.heap.size ≤ w2.heap.size := HB2.out.size
    have hz3 : w2.heap.size ≤ w3.heap.size := HB3.out.size
    have hAf : ∀ c, New (fun b => b < w.heap.size) w2 w3 c → c < w3.heap.size := New.low (fun c hc => by have := HSW.out; have := HXE.out; omega) hz3
    obtain ⟨hfa, N0, ev, hc, _⟩ := HF.out.cells
    have hfl := hAf f hfa
    obtain ⟨_, _, c10, c11⟩ := hc.num
    have hY3 := (HB3.out.block (x + 1) (by have := HSW.out; omega)).trans ((HB2.out.block (x + 1) (by have := HSW.out; omega)).trans HY.out)
    have f0 := Joins.unfrozen_of_block hY3 0
    have f1 := Joins.unfrozen_of_block hY3 1
    have f2 := Joins.unfrozen_of_block hY3 2
    have f3 := Joins.unfrozen_of_block hY3 3
    have f4 := Joins.unfrozen_of_block hY3 4
    have f5 := Joins.unfrozen_of_block hY3 5
    have f6 := Joins.unfrozen_of_block hY3 6
    have f7 := Joins.unfrozen_of_block hY3 7
    have f8 := Joins.unfrozen_of_block hY3 8
    clear q0 q1 q2 q3 q4 q5 q6 q7 q8
    obtain ⟨q0, q1, q2, q3, q4, q5, q6, q7, q8⟩ := nine' hY3
    have HY3 := hid hY3
    have hsound : t.sound = true := by simp only [Tn.sound, Bool.and_eq_true, decide_eq_true_eq]; exact HSD.out
    have hb13 : Below w.heap.size w w3 := (HBW.out.trans (Joins.below_le HB2.out (by have := HSW.out; have := HXE.out; omega))).trans (Joins.below_le HB3.out (by have := HSW.out; have := HXE.out; omega))
    have HB13 := hid hb13
    have HAF := hid hAf
    obtain ⟨m, hm⟩ : ∃ m, m = capN t.S.nodes := ⟨_, rfl⟩
    obtain ⟨d, hd⟩ : ∃ d, d = t.S.depth := ⟨_, rfl⟩
    rw [← hm] at c10
    rw [← hd] at c11
    by_cases hbig : t.bigS = true
    · have herr : errS t = 3 := by unfold errS; rw [hsound, hbig]; rfl
      have HSE : Hid (simT t = zeroT) := by unfold simT; rw [herr]; rfl
      have HER := hid herr
      clear herr hsound hb13 hAf hc hfa hY3
      simp only [Tn.bigS, Bool.or_eq_true, decide_eq_true_eq] at hbig
      by_cases hn : 200000 < m
      · have g1 : decide ((m : Int) > 200000) = true := by simp; omega
        clear hbig hm hd hn
        go_wp2
        all_goals
          obtain ⟨y1, y2, y3⟩ := tail_nine Zn HY3.out
          refine bodyPost_ret (results_cell_tmp1 rfl _ _ (x + 1) 39 _ (0, 0) _ rfl y1 Try.underlying39 rfl (by kernel_rfl)) rfl ?_
          exact ⟨Zn, (by rw [HER.out]; rfl), _, by rw [HSE.out]; exact to_zero _, (fun c hc => by rcases hc with h | h | ⟨_, _, h⟩; cases h; cases h; exact h.elim), y3 _ _ HB13.out (by have := HXE.out; omega)⟩
      · have g1 : decide ((m : Int) > 200000) = false := by simp; omega
        have g2 : decide ((d : Int) > 10000) = true := by
          simp
          have : ¬ 200000 < t.S.nodes := fun h => hn (by rw [hm]; unfold capN; omega)
          omega
        clear hbig hm hd hn
        go_wp2
        all_goals
          obtain ⟨y1, y2, y3⟩ := tail_nine Zn HY3.out
          refine bodyPost_ret (results_cell_tmp1 rfl _ _ (x + 1) 39 _ (0, 0) _ rfl y1 Try.underlying39 rfl (by kernel_rfl)) rfl ?_
          exact ⟨Zn, (by rw [HER.out]; rfl), _, by rw [HSE.out]; exact to_zero _, (fun c hc => by rcases hc with h | h | ⟨_, _, h⟩; cases h; cases h; exact h.elim), y3 _ _ HB13.out (by have := HXE.out; omega)⟩
    · have hbig' : t.bigS = false := by simpa using hbig
      have herr : errS t = 0 := by unfold errS; rw [hsound, hbig']; rfl
      have HSE : Hid (simT t = t.S) := by unfold simT; rw [herr]; rfl
      have HER := hid herr
      simp only [Tn.bigS, Bool.or_eq_false_iff, decide_eq_false_iff_not] at hbig'
      have g1 : decide ((m : Int) > 200000) = false := by
        have : m ≤ 200000 := by rw [hm]; unfold capN; omega
        simp; omega
      have g2 : decide ((d : Int) > 10000) = false := by simp; omega
      have HC3 := built_all 200001 (Nat.le_refl _) t.S w3 f _ (by omega) HF.out HAF.out
      unfold BP at HC3
      clear herr hsound hb13 hAf hc hfa hY3 hbig hbig' hm hd
      have hxy : x + 1 < w3.heap.size := by have := HSW.out; omega
      go_upto_region 6 with fail
      go_wp2_with (first | (go_at_call 47; (with_reducible refine HC3.mono ?_); rintro e w4 ⟨M, AA, rfl, hM, hAA, hb4⟩; have hY4 := (hb4.block (x + 1) hxy).trans HY3.out; clear q0 q1 q2 q3 q4 q5 q6 q7 q8 f0 f1 f2 f3 f4 f5 f6 f7 f8; have f0 := Joins.unfrozen_of_block hY4 0; have f1 := Joins.unfrozen_of_block hY4 1; have f2 := Joins.unfrozen_of_block hY4 2; have f3 := Joins.unfrozen_of_block hY4 3; have f4 := Joins.unfrozen_of_block hY4 4; have f5 := Joins.unfrozen_of_block hY4 5; have f6 := Joins.unfrozen_of_block hY4 6; have f7 := Joins.unfrozen_of_block hY4 7; have f8 := Joins.unfrozen_of_block hY4 8; obtain ⟨q0, q1, q2, q3, q4, q5, q6, q7, q8⟩ := nine' hY4; have HY4 := hid hY4; have HM := hid hM; have HAA := hid hAA; have HB4 := hid hb4; clear hY4 hM hAA hb4 HC3))
      all_goals
        obtain ⟨y1, y2, y3⟩ := tail_nine M HY4.out
        refine bodyPost_ret (results_cell_tmp1 rfl _ _ (x + 1) 39 _ (0, 0) _ rfl y1 Try.underlying39 rfl (by kernel_rfl)) rfl ?_
        have hxe := HXE.out
        have hz4 := HB13.out.size
        refine ⟨M, (by rw [HER.out]; rfl), AA, ?_, fun c hc => by have := HAA.out c hc; omega, y3 _ _ (HB13.out.trans (Joins.below_le HB4.out hz4)) (by omega)⟩
        rw [HSE.out]
        exact HM.out.kept fun c hc => y2 c (by have := HAA.out c hc; omega)
  · have hsd' : t.sound = false := by simpa using hsd
    rw [hsd'] at HC
    simp only [Bool.false_eq_true, if_false] at HC
    have herr : errS t = 50 := by unfold errS; rw [hsd']; rfl
    have HSE : Hid (simT t = zeroT) := by unfold simT; rw [herr]; rfl
    have HER := hid herr
    clear hX hY hbW hsW hTI h hsd hsd' herr
    go_enter Try.func30, Try.ntmps30
    go_upto_region 1 with fail
    rw [← hx, ← hW]
    clear hW hx
    go_wp2_with (first | (go_at_call 28; (with_reducible refine HC.mono ?_); rintro e w4 ⟨rfl, hb4⟩; have hY4 := (hb4.block (x + 1) (by have := HSW.out; omega)).trans HY.out; clear q0 q1 q2 q3 q4 q5 q6 q7 q8; have f0 := Joins.unfrozen_of_block hY4 0; have f1 := Joins.unfrozen_of_block hY4 1; have f2 := Joins.unfrozen_of_block hY4 2; have f3 := Joins.unfrozen_of_block hY4 3; have f4 := Joins.unfrozen_of_block hY4 4; have f5 := Joins.unfrozen_of_block hY4 5; have f6 := Joins.unfrozen_of_block hY4 6; have f7 := Joins.unfrozen_of_block hY4 7; have f8 := Joins.unfrozen_of_block hY4 8; obtain ⟨q0, q1, q2, q3, q4, q5, q6, q7, q8⟩ := nine' hY4; have HY4 := hid hY4; have HB4 := hid hb4; clear hY4 hb4 HC))
    all_goals
      obtain ⟨y1, y2, y3⟩ := tail_nine Zn HY4.out
      refine bodyPost_ret (results_cell_tmp1 rfl _ _ (x + 1) 39 _ (0, 0) _ rfl y1 Try.underlying39 rfl (by kernel_rfl)) rfl ?_
      exact ⟨Zn, (by rw [HER.out]; rfl), _, by rw [HSE.out]; exact to_zero _, (fun c hc => by rcases hc with h | h | ⟨_, _, h⟩; cases h; cases h; exact h.elim), y3 _ _ (HBW.out.trans (Joins.below_le HB4.out HBW.out.size)) (by have := HXE.out; omega)⟩
end Go.Proofs.Ytnecakampgdhcaa
