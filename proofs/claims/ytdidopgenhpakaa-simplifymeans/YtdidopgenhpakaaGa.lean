/- HELPERS: a row of built trees that grows through a box. -/
import Derived.Test.YtdidopgenhpakaaFg
namespace Go.Proofs.Ytdidopgenhpakaa
open Go.RowKit
set_option linter.unusedVariables false
set_option linter.unusedSimpArgs false
theorem step_append_moveN {P : Program} {ops : Array Oper} {o : Oper} {a : Act} {w : World} {K : Act → World → Prop} {Q : Exit → Act → World → Prop} {E : Prop}
    (hg : o.guard = none) (s x : Operand) (t : TypeId) (hop : o.op = Op.call { callee := Callee.builtin Builtin.append, args := #[s, x], argTypes := #[t, t] })
    (base : Nat) (e : TypeId) (i : TypeInfo) (z : Value) (size bytes : Nat) (h1 : P.underlying t = some (.slice e)) (h2 : P.info? e = some i) (h3 : i.zero = some z) (h4 : i.size = size) (h5 : i.bytes = bytes) (h6 : z.cells.size = size) (h7 : 0 < size)
    (v : Value) (n : Nat) (xs : List Value) (hs : a.eval s = v) (hown : w.ownsRow base e size v n xs)
    (ad : Addr) (m c : Nat) (news : List Value) (hx : a.eval x = .slice (some ad) m c) (hn : news.length = m * size) (hm : 0 < m) (hc : ∀ j u, news[j]? = some u → w.cell? (ad.add j) = some u) (h1c : ∀ u ∈ news, u.oneCell' = true)
    (b1 : n + m ≤ maxLen) (b2 : (n + m) * bytes ≤ 140737488355328) (hb : base ≤ w.heap.size)
    (hK : ∀ v' w', w'.ownsRow base e size v' (n + m) (xs ++ news) → Moved w w' v v' → K (a.put o.dst v') w') :
    if Region.wanted o (yielded ops a.tmps) = true then Oper.wp P o a w K Q else E := by
  have hw : Region.wanted o (yielded ops a.tmps) = true := by simp [Region.wanted, hg]
  rw [if_pos hw]
  obtain ⟨v', w', hrun, r1, r2⟩ := run_append_moveN (P := P) w base t o.type e i z size bytes h1 h2 h3 h4 h5 h6 h7 v n xs hown ad m c news hn hm hc h1c b1 b2 hb
  unfold Oper.wp
  simp [execOp, hop, resolve, invoke, builtin, hs, hx, hrun, Result.andThen]
  exact hK v' w' r1 r2
theorem step_call1 {P : Program} {ops : Array Oper} {o : Oper} {a : Act} {w : World} {K : Act → World → Prop} {Q : Exit → Act → World → Prop} {E : Prop} (hg : o.guard = none) (f : FuncId) (x : Operand) (t : TypeId)
    (hop : o.op = Op.call { callee := Callee.value (.func f), args := #[x], argTypes := #[t] }) (hen : ∀ args w, (callFunc f args).run P w = .ok (.enter f args) w)
    (hc : Calls P f #[a.eval x] w fun e w' => ∃ v, e = .returned v ∧ K (a.put o.dst v) w') :
    if Region.wanted o (yielded ops a.tmps) = true then Oper.wp P o a w K Q else E := by
  have hw : Region.wanted o (yielded ops a.tmps) = true := by simp [Region.wanted, hg]
  rw [if_pos hw]
  have h2 := hen #[a.eval x] w
  unfold Oper.wp
  have ev : a.eval (.func f) = .func (.func f) #[] #[] := rfl
  simp [execOp, hop, resolve, invoke, ev, Deferred.ofValue, h2, Result.andThen]
  show Calls P f #[a.eval x] w _
  refine hc.mono fun e w' h => ?_
  obtain ⟨v, rfl, hk⟩ := h
  exact hk
theorem step_store25 {ops : Array Oper} {o : Oper} {a : Act} {w : World} {K : Act → World → Prop} {Q : Exit → Act → World → Prop} {E : Prop} (hg : o.guard = none) (x y : Operand) (hop : o.op = .store 25 x y) (b q : Nat) (M : Nv) (hx : a.eval x = .pointer (some ⟨b, q, none⟩)) (hy : a.eval y = M.v) (ht : w.there b q 9)
    (hK : K (a.put o.dst undef) (w.setCells b q (Nv.cs M))) : if Region.wanted o (yielded ops a.tmps) = true then Oper.wp Try.prog o a w K Q else E := by
  have hw : Region.wanted o (yielded ops a.tmps) = true := by simp [Region.wanted, hg]
  rw [if_pos hw]
  exact wp_store_mid 25 x y hop b q #[.int .i64 M.k, .slice M.r1 M.r2 M.r3, .int .i64 M.a2, .slice M.s1 M.s2 M.s3, .int .i64 M.a4, .int .i64 M.a5, .bool M.a6, .int .i64 M.a7, .string M.a8] hx hy ht size25 (one9a M) hK
theorem enter_of {P : Program} {f : FuncId} {fn : Func} {c : Code} (hf : P.funcs[f]? = some fn) (hname : (fn.name == "runtime.NumGoroutine") = false) (hb : fn.body = some c) : ∀ (args : Array Value) (w : World), (callFunc f args).run P w = .ok (.enter f args) w := by
  intro args w
  have h1 : fn.name ≠ "runtime.NumGoroutine" := by simpa using hname
  simp [callFunc, hf, h1, hb]
theorem en32 : ∀ (args : Array Value) (w : World), (callFunc 32 args).run Try.prog w = .ok (.enter 32 args) w := enter_of Try.func32 (by kernel_rfl) rfl
theorem en49 : ∀ (args : Array Value) (w : World), (callFunc 49 args).run Try.prog w = .ok (.enter 49 args) w := enter_of Try.func49 (by kernel_rfl) rfl
theorem en63 : ∀ (args : Array Value) (w : World), (callFunc 63 args).run Try.prog w = .ok (.enter 63 args) w := enter_of Try.func63 (by kernel_rfl) rfl
theorem en67 : ∀ (args : Array Value) (w : World), (callFunc 67 args).run Try.prog w = .ok (.enter 67 args) w := enter_of Try.func67 (by kernel_rfl) rfl
theorem en68 : ∀ (args : Array Value) (w : World), (callFunc 68 args).run Try.prog w = .ok (.enter 68 args) w := enter_of Try.func68 (by kernel_rfl) rfl
theorem en95 : ∀ (args : Array Value) (w : World), (callFunc 95 args).run Try.prog w = .ok (.enter 95 args) w := enter_of Try.func95 (by kernel_rfl) rfl
/-- the last cells of a row are written anew -/
theorem row_last {w : World} {base e s g n cap : Nat} {xs ys zs : List Value} (h : w.ownsRow base e s (.slice (some ⟨g, 0, none⟩) n cap) n (xs ++ ys)) (hl : zs.length = ys.length) : (w.setCells g xs.length zs).ownsRow base e s (.slice (some ⟨g, 0, none⟩) n cap) n (xs ++ zs) := by
  have hlen := h.1
  have hrow := h
  rcases h.2 with ⟨h, _⟩ | ⟨g', cap', cur, he, hb, hgg, h1, h2, h3, h4⟩
  · cases h
  · simp only [Value.slice.injEq, Option.some.injEq, Addr.mk.injEq] at he
    obtain ⟨⟨rfl, _⟩, _, rfl⟩ := he
    have hsz : n * s ≤ cur.size := by rw [h3]; exact Nat.mul_le_mul_right _ h1
    simp only [List.length_append] at hlen
    obtain ⟨cur', g1, g2⟩ := block_setCells zs xs.length w cur hgg
    have hex : ∀ i, i < zs.length → (w.cell? ⟨g, xs.length + i, none⟩).isSome = true := fun i hi => by
      rw [Joins.cell_of_block hgg, Array.getElem?_eq_getElem (by omega)]; rfl
    refine ⟨by simp only [List.length_append]; omega, .inr ⟨g, cap, cur', rfl, hb, g1, h1, h2, by omega, ?_⟩⟩
    apply List.ext_getElem?
    intro j
    by_cases hj : j < n * s
    · rw [List.getElem?_take_of_lt hj, Array.getElem?_toList, ← Joins.cell_of_block g1 j]
      by_cases hjx : j < xs.length
      · rw [World.cell?_setCells_out g zs xs.length w ⟨g, j, none⟩ (fun _ _ => by simp only; omega), List.getElem?_append_left hjx, hrow.cellAt j (by omega), List.getElem?_append_left hjx]
      · obtain ⟨i, rfl⟩ : ∃ i, j = xs.length + i := ⟨j - xs.length, by omega⟩
        rw [World.cell?_setCells_in g zs xs.length w hex i (by omega), List.getElem?_append_right (by omega), show xs.length + i - xs.length = i by omega, List.getElem?_eq_getElem (by omega)]
    · rw [List.getElem?_eq_none (by simp; omega), List.getElem?_eq_none (by simp; omega)]
theorem row_there {w : World} {base e s g n cap : Nat} {xs : List Value} (h : w.ownsRow base e s (.slice (some ⟨g, 0, none⟩) n cap) n xs) {q m : Nat} (hq : q + m ≤ n * s) : w.there g q m := fun j hj => by
  rcases h.2 with ⟨h, _⟩ | ⟨g', cap', cur, he, hb, hgg, h1, h2, h3, h4⟩
  · cases h
  · simp only [Value.slice.injEq, Option.some.injEq, Addr.mk.injEq] at he
    obtain ⟨⟨rfl, _⟩, _, rfl⟩ := he
    have hsz : n * s ≤ cur.size := by rw [h3]; exact Nat.mul_le_mul_right _ h1
    refine ⟨?_, Joins.unfrozen_of_block hgg _⟩
    rw [Joins.cell_of_block hgg, Array.getElem?_eq_getElem (by omega)]
    rfl
/-- a row of trees of one's own, in a box -/
structure RO (x : Nat) (w : World) (b : Nat) (uv : Value) (MS : List Nv) (us : List Tn) (AS : Nat → Nat → Prop) : Prop where
  box : Bx w b 23 uv
  xb : x ≤ b
  row : w.ownsRow x 25 9 uv MS.length (MS.flatMap Nv.cs)
  out : uv.ownBlock ≠ some b
  len : MS.length = us.length
  tos : ∀ j (h : j < us.length) (h' : j < MS.length), TO w MS[j] us[j] (AS j)
  low : ∀ j c, j < us.length → AS j c → x ≤ c ∧ c ≠ b ∧ uv.ownBlock ≠ some c
  apart : ∀ i j c, i < us.length → j < us.length → i ≠ j → AS i c → ¬ AS j c
def ROv (x : Nat) (w : World) (b : Nat) (uv : Value) (us : List Tn) : Prop := ∃ MS AS, RO x w b uv MS us AS
/-- the blocks that such a row may write to -/
abbrev FB (b : Nat) (uv : Value) : List Nat := b :: uv.ownBlock.toList
/-- what comes behind the others -/
abbrev EPost (x b : Nat) (W : World) (uv : Value) (us : List Tn) : Ending → World → Prop := fun e w' => e = .returned (.tuple #[]) ∧ ∃ uv', ROv x w' b uv' us ∧ Chg W w' (FB b uv) (FB b uv')
theorem ROv.below {x : Nat} {w w' : World} {b : Nat} {uv uv' : Value} {us : List Tn} (h : ROv x w b uv us) (hc : Chg w w' (FB b uv) (FB b uv')) (hx : x ≤ w.heap.size) : Below x w w' := by
  obtain ⟨MS, AS, h⟩ := h
  refine ⟨hc.os, hc.tape, hc.output, hc.size, fun c hk => hc.block c (by omega) fun hm => ?_⟩
  simp only [FB, List.mem_cons, Option.mem_toList] at hm
  rcases hm with rfl | hm
  · have := h.xb; omega
  · have := (h.row.lt c hm).1; omega
theorem ROv.kept {x : Nat} {w w' : World} {b : Nat} {uv : Value} {us : List Tn} (h : ROv x w b uv us) (hb : Below w.heap.size w w') : ROv x w' b uv us := by
  obtain ⟨MS, AS, h⟩ := h
  have hl := h.len
  exact ⟨MS, AS, (hb.block b (Array.getElem?_eq_some_iff.1 h.box).1).trans h.box, h.xb, row_kept h.row fun c hc => hb.block c (h.row.lt c hc).2, h.out, h.len, fun j hj hj' => (h.tos j hj hj').kept fun c hc => hb.block c ((h.tos j hj hj').low c hc), h.low, h.apart⟩
theorem RO.next {x : Nat} {w : World} {b : Nat} {uv : Value} {MS : List Nv} {us : List Tn} {AS : Nat → Nat → Prop} (h : RO x w b uv MS us AS) {W2 w5 U : World} {v5 : Value} {M : Nv} {s : Tn} {AA : Nat → Prop} (hW : Below w.heap.size w W2) (hM : TO W2 M s AA) (hAA : ∀ c, AA c → w.heap.size ≤ c) (hm : Moved W2 w5 uv v5)
    (u1 : Bx U b 23 v5) (u2 : U.ownsRow x 25 9 v5 (MS.length + 1) (MS.flatMap Nv.cs ++ Nv.cs M)) (u3 : ∀ c, c ≠ b → v5.ownBlock ≠ some c → U.heap[c]? = w5.heap[c]?) (hxw : x ≤ w.heap.size) : RO x U b v5 (MS ++ [M]) (us ++ [s]) (fun j c => if j = us.length then AA c else AS j c) := by
  have hbl : b < w.heap.size := (Array.getElem?_eq_some_iff.1 h.box).1
  have hl := h.len
  have hub : ∀ c, uv.ownBlock = some c → c < w.heap.size := fun c hc => (h.row.lt c hc).2
  have hs := hW.size
  have hlow : ∀ j c, j < us.length → AS j c → c < w.heap.size := fun j c hj hc => (h.tos j hj (by omega)).low c hc
  have hv : ∀ c, c < W2.heap.size → uv.ownBlock ≠ some c → v5.ownBlock ≠ some c := fun c hc hn e => by
    rcases hm with ⟨h0, _⟩ | ⟨h0, _⟩
    · rw [h0] at e; exact hn e
    · rw [h0] at e; simp at e; omega
  have hnA : ∀ c, AA c → uv.ownBlock ≠ some c := fun c hc e => by have := hub c e; have := hAA c hc; omega
  have hnb : ∀ c, AA c → c ≠ b := fun c hc e => by have := hAA c hc; omega
  have keep : ∀ c, c < W2.heap.size → c ≠ b → uv.ownBlock ≠ some c → U.heap[c]? = W2.heap[c]? := fun c h1 h2 h3 => (u3 c h2 (hv c h1 h3)).trans (moved_old' hm h1 h3)
  refine ⟨u1, h.xb, ?_, hv b (by omega) h.out, by simp [hl], fun j hj hj' => ?_, fun j c hj hc => ?_, fun i j c hi hj hne h1 h2 => ?_⟩
  · rw [List.length_append, List.flatMap_append]
    simpa using u2
  · by_cases hjl : j < us.length
    · rw [List.getElem_append_left (by omega), List.getElem_append_left hjl]
      have hne : j ≠ us.length := by omega
      simp only [if_neg hne]
      exact (h.tos j hjl (by omega)).kept fun c hc => (keep c (by have := hlow j c hjl hc; omega) (h.low j c hjl hc).2.1 (h.low j c hjl hc).2.2).trans (hW.block c (hlow j c hjl hc))
    · simp only [List.length_append, List.length_cons, List.length_nil] at hj hj'
      have e : j = us.length := by omega
      subst e
      rw [List.getElem_append_right (by omega), List.getElem_append_right (Nat.le_refl _)]
      simp only [Nat.sub_self, hl, List.getElem_cons_zero, if_pos]
      exact hM.kept fun c hc => keep c (hM.low c hc) (hnb c hc) (hnA c hc)
  · by_cases e : j = us.length
    · simp only [if_pos e] at hc
      exact ⟨by have := hAA c hc; omega, hnb c hc, hv c (hM.low c hc) (hnA c hc)⟩
    · simp only [if_neg e] at hc
      have hjl : j < us.length := by simp at hj; omega
      have := h.low j c hjl hc
      exact ⟨this.1, this.2.1, hv c (by have := hlow j c hjl hc; omega) this.2.2⟩
  · simp only [List.length_append, List.length_cons, List.length_nil] at hi hj
    by_cases ei : i = us.length
    · simp only [if_pos ei] at h1
      have ej : j ≠ us.length := by omega
      simp only [if_neg ej] at h2
      have := hAA c h1
      have := hlow j c (by omega) h2
      omega
    · simp only [if_neg ei] at h1
      by_cases ej : j = us.length
      · simp only [if_pos ej] at h2
        have := hAA c h2
        have := hlow i c (by omega) h1
        omega
      · simp only [if_neg ej] at h2
        exact h.apart i j c (by omega) (by omega) hne h1 h2
end Go.Proofs.Ytdidopgenhpakaa
