/- HELPERS: a tree copied. -/
import Derived.Test.YtdidopgenhpakaaJe
import Derived.Maps.AppendAt
import Derived.Deep.RegionLaw
import Derived.OrdersHeld
import Derived.StillTail
import Derived.Tactics
import Derived.RowKit
import Derived.Below
import Derived.Test.YtdidopgenhpakaaSq
import Derived.Laws.CopyOwn
/- HELPERS: what an append leaves; a list of ranges as it lies; names. -/
namespace Go.Proofs.Ytdidopgenhpakaa
open Go.RowKit
set_option linter.unusedVariables false
set_option linter.unusedSimpArgs false
theorem nineSet4 (X : World) (b : Nat) {c0 c1 c2 c3 c4 c5 c6 c7 c8 : Value} {t : TypeId} (v0 v1 v2 v3 v4 v5 v6 v7 v8 : Value) (h : X.heap[b]? = some (.cells #[c0, c1, c2, c3, c4, c5, c6, c7, c8] t (0, 0))) :
    ((((((((((((((((((X).setCell ⟨b, 0, none⟩ v0)).setCell ⟨b, 1, none⟩ v1)).setCell ⟨b, 2, none⟩ v2)).setCell ⟨b, 3, none⟩ v3)).setCell ⟨b, 4, none⟩ v4)).setCell ⟨b, 5, none⟩ v5)).setCell ⟨b, 6, none⟩ v6)).setCell ⟨b, 7, none⟩ v7)).setCell ⟨b, 8, none⟩ v8).heap[b]? = some (.cells #[v0, v1, v2, v3, v4, v5, v6, v7, v8] t (0, 0)) ∧ (∀ k, k ≠ b → ((((((((((((((((((X).setCell ⟨b, 0, none⟩ v0)).setCell ⟨b, 1, none⟩ v1)).setCell ⟨b, 2, none⟩ v2)).setCell ⟨b, 3, none⟩ v3)).setCell ⟨b, 4, none⟩ v4)).setCell ⟨b, 5, none⟩ v5)).setCell ⟨b, 6, none⟩ v6)).setCell ⟨b, 7, none⟩ v7)).setCell ⟨b, 8, none⟩ v8).heap[k]? = X.heap[k]?) ∧ ((((((((((((((((((X).setCell ⟨b, 0, none⟩ v0)).setCell ⟨b, 1, none⟩ v1)).setCell ⟨b, 2, none⟩ v2)).setCell ⟨b, 3, none⟩ v3)).setCell ⟨b, 4, none⟩ v4)).setCell ⟨b, 5, none⟩ v5)).setCell ⟨b, 6, none⟩ v6)).setCell ⟨b, 7, none⟩ v7)).setCell ⟨b, 8, none⟩ v8).heap.size = X.heap.size ∧ ∀ {B0 : Nat} {w : World}, Below B0 w X → B0 ≤ b → Below B0 w ((((((((((((((((((X).setCell ⟨b, 0, none⟩ v0)).setCell ⟨b, 1, none⟩ v1)).setCell ⟨b, 2, none⟩ v2)).setCell ⟨b, 3, none⟩ v3)).setCell ⟨b, 4, none⟩ v4)).setCell ⟨b, 5, none⟩ v5)).setCell ⟨b, 6, none⟩ v6)).setCell ⟨b, 7, none⟩ v7)).setCell ⟨b, 8, none⟩ v8) := by
  refine ⟨?_, fun k hk => ?_, by simp [World.setCell], fun hB hb => ?_⟩
  · have h0 : (X.setCell ⟨b, 0, none⟩ v0).heap[b]? = some (.cells #[v0, c1, c2, c3, c4, c5, c6, c7, c8] t (0, 0)) := Joins.block_setCell (i := 0) h v0
    have h1 : ((X.setCell ⟨b, 0, none⟩ v0).setCell ⟨b, 1, none⟩ v1).heap[b]? = some (.cells #[v0, v1, c2, c3, c4, c5, c6, c7, c8] t (0, 0)) := Joins.block_setCell (i := 1) h0 v1
    have h2 : (((X.setCell ⟨b, 0, none⟩ v0).setCell ⟨b, 1, none⟩ v1).setCell ⟨b, 2, none⟩ v2).heap[b]? = some (.cells #[v0, v1, v2, c3, c4, c5, c6, c7, c8] t (0, 0)) := Joins.block_setCell (i := 2) h1 v2
    have h3 : ((((X.setCell ⟨b, 0, none⟩ v0).setCell ⟨b, 1, none⟩ v1).setCell ⟨b, 2, none⟩ v2).setCell ⟨b, 3, none⟩ v3).heap[b]? = some (.cells #[v0, v1, v2, v3, c4, c5, c6, c7, c8] t (0, 0)) := Joins.block_setCell (i := 3) h2 v3
    have h4 : (((((X.setCell ⟨b, 0, none⟩ v0).setCell ⟨b, 1, none⟩ v1).setCell ⟨b, 2, none⟩ v2).setCell ⟨b, 3, none⟩ v3).setCell ⟨b, 4, none⟩ v4).heap[b]? = some (.cells #[v0, v1, v2, v3, v4, c5, c6, c7, c8] t (0, 0)) := Joins.block_setCell (i := 4) h3 v4
    have h5 : ((((((X.setCell ⟨b, 0, none⟩ v0).setCell ⟨b, 1, none⟩ v1).setCell ⟨b, 2, none⟩ v2).setCell ⟨b, 3, none⟩ v3).setCell ⟨b, 4, none⟩ v4).setCell ⟨b, 5, none⟩ v5).heap[b]? = some (.cells #[v0, v1, v2, v3, v4, v5, c6, c7, c8] t (0, 0)) := Joins.block_setCell (i := 5) h4 v5
    have h6 : (((((((X.setCell ⟨b, 0, none⟩ v0).setCell ⟨b, 1, none⟩ v1).setCell ⟨b, 2, none⟩ v2).setCell ⟨b, 3, none⟩ v3).setCell ⟨b, 4, none⟩ v4).setCell ⟨b, 5, none⟩ v5).setCell ⟨b, 6, none⟩ v6).heap[b]? = some (.cells #[v0, v1, v2, v3, v4, v5, v6, c7, c8] t (0, 0)) := Joins.block_setCell (i := 6) h5 v6
    have h7 : ((((((((X.setCell ⟨b, 0, none⟩ v0).setCell ⟨b, 1, none⟩ v1).setCell ⟨b, 2, none⟩ v2).setCell ⟨b, 3, none⟩ v3).setCell ⟨b, 4, none⟩ v4).setCell ⟨b, 5, none⟩ v5).setCell ⟨b, 6, none⟩ v6).setCell ⟨b, 7, none⟩ v7).heap[b]? = some (.cells #[v0, v1, v2, v3, v4, v5, v6, v7, c8] t (0, 0)) := Joins.block_setCell (i := 7) h6 v7
    have h8 : (((((((((X.setCell ⟨b, 0, none⟩ v0).setCell ⟨b, 1, none⟩ v1).setCell ⟨b, 2, none⟩ v2).setCell ⟨b, 3, none⟩ v3).setCell ⟨b, 4, none⟩ v4).setCell ⟨b, 5, none⟩ v5).setCell ⟨b, 6, none⟩ v6).setCell ⟨b, 7, none⟩ v7).setCell ⟨b, 8, none⟩ v8).heap[b]? = some (.cells #[v0, v1, v2, v3, v4, v5, v6, v7, v8] t (0, 0)) := Joins.block_setCell (i := 8) h7 v8
    exact h8
  · have k0 : (X.setCell ⟨b, 0, none⟩ v0).heap[k]? = X.heap[k]? := Below.heap_setCell _ _ _ _ hk
    have k1 : ((X.setCell ⟨b, 0, none⟩ v0).setCell ⟨b, 1, none⟩ v1).heap[k]? = (X.setCell ⟨b, 0, none⟩ v0).heap[k]? := Below.heap_setCell _ _ _ _ hk
    have k2 : (((X.setCell ⟨b, 0, none⟩ v0).setCell ⟨b, 1, none⟩ v1).setCell ⟨b, 2, none⟩ v2).heap[k]? = ((X.setCell ⟨b, 0, none⟩ v0).setCell ⟨b, 1, none⟩ v1).heap[k]? := Below.heap_setCell _ _ _ _ hk
    have k3 : ((((X.setCell ⟨b, 0, none⟩ v0).setCell ⟨b, 1, none⟩ v1).setCell ⟨b, 2, none⟩ v2).setCell ⟨b, 3, none⟩ v3).heap[k]? = (((X.setCell ⟨b, 0, none⟩ v0).setCell ⟨b, 1, none⟩ v1).setCell ⟨b, 2, none⟩ v2).heap[k]? := Below.heap_setCell _ _ _ _ hk
    have k4 : (((((X.setCell ⟨b, 0, none⟩ v0).setCell ⟨b, 1, none⟩ v1).setCell ⟨b, 2, none⟩ v2).setCell ⟨b, 3, none⟩ v3).setCell ⟨b, 4, none⟩ v4).heap[k]? = ((((X.setCell ⟨b, 0, none⟩ v0).setCell ⟨b, 1, none⟩ v1).setCell ⟨b, 2, none⟩ v2).setCell ⟨b, 3, none⟩ v3).heap[k]? := Below.heap_setCell _ _ _ _ hk
    have k5 : ((((((X.setCell ⟨b, 0, none⟩ v0).setCell ⟨b, 1, none⟩ v1).setCell ⟨b, 2, none⟩ v2).setCell ⟨b, 3, none⟩ v3).setCell ⟨b, 4, none⟩ v4).setCell ⟨b, 5, none⟩ v5).heap[k]? = (((((X.setCell ⟨b, 0, none⟩ v0).setCell ⟨b, 1, none⟩ v1).setCell ⟨b, 2, none⟩ v2).setCell ⟨b, 3, none⟩ v3).setCell ⟨b, 4, none⟩ v4).heap[k]? := Below.heap_setCell _ _ _ _ hk
    have k6 : (((((((X.setCell ⟨b, 0, none⟩ v0).setCell ⟨b, 1, none⟩ v1).setCell ⟨b, 2, none⟩ v2).setCell ⟨b, 3, none⟩ v3).setCell ⟨b, 4, none⟩ v4).setCell ⟨b, 5, none⟩ v5).setCell ⟨b, 6, none⟩ v6).heap[k]? = ((((((X.setCell ⟨b, 0, none⟩ v0).setCell ⟨b, 1, none⟩ v1).setCell ⟨b, 2, none⟩ v2).setCell ⟨b, 3, none⟩ v3).setCell ⟨b, 4, none⟩ v4).setCell ⟨b, 5, none⟩ v5).heap[k]? := Below.heap_setCell _ _ _ _ hk
    have k7 : ((((((((X.setCell ⟨b, 0, none⟩ v0).setCell ⟨b, 1, none⟩ v1).setCell ⟨b, 2, none⟩ v2).setCell ⟨b, 3, none⟩ v3).setCell ⟨b, 4, none⟩ v4).setCell ⟨b, 5, none⟩ v5).setCell ⟨b, 6, none⟩ v6).setCell ⟨b, 7, none⟩ v7).heap[k]? = (((((((X.setCell ⟨b, 0, none⟩ v0).setCell ⟨b, 1, none⟩ v1).setCell ⟨b, 2, none⟩ v2).setCell ⟨b, 3, none⟩ v3).setCell ⟨b, 4, none⟩ v4).setCell ⟨b, 5, none⟩ v5).setCell ⟨b, 6, none⟩ v6).heap[k]? := Below.heap_setCell _ _ _ _ hk
    have k8 : (((((((((X.setCell ⟨b, 0, none⟩ v0).setCell ⟨b, 1, none⟩ v1).setCell ⟨b, 2, none⟩ v2).setCell ⟨b, 3, none⟩ v3).setCell ⟨b, 4, none⟩ v4).setCell ⟨b, 5, none⟩ v5).setCell ⟨b, 6, none⟩ v6).setCell ⟨b, 7, none⟩ v7).setCell ⟨b, 8, none⟩ v8).heap[k]? = ((((((((X.setCell ⟨b, 0, none⟩ v0).setCell ⟨b, 1, none⟩ v1).setCell ⟨b, 2, none⟩ v2).setCell ⟨b, 3, none⟩ v3).setCell ⟨b, 4, none⟩ v4).setCell ⟨b, 5, none⟩ v5).setCell ⟨b, 6, none⟩ v6).setCell ⟨b, 7, none⟩ v7).heap[k]? := Below.heap_setCell _ _ _ _ hk
    exact k8.trans (k7.trans (k6.trans (k5.trans (k4.trans (k3.trans (k2.trans (k1.trans k0)))))))
  · exact ((((((((hB.setCell (by exact hb) v0).setCell (by exact hb) v1).setCell (by exact hb) v2).setCell (by exact hb) v3).setCell (by exact hb) v4).setCell (by exact hb) v5).setCell (by exact hb) v6).setCell (by exact hb) v7).setCell (by exact hb) v8
theorem R2.src {w : World} {B : Nat} {ad : Option Addr} {R : List (Int × Int)} (h : R2 w B ad R) (hp : 0 < R.length) : ∃ b f, ad = some ⟨b, f, none⟩ ∧ ∀ j u, (O2 R)[j]? = some u → w.cell? ⟨b, f + j, none⟩ = some u := by
  obtain ⟨b, f, h1, _, h3⟩ := h (fun e => by rw [e] at hp; simp at hp)
  refine ⟨b, f, h1, fun j u hj => ?_⟩
  have hlt : j < R.length * 2 := by rw [← O2_len]; exact (List.getElem?_eq_some_iff.1 hj).1
  obtain ⟨i, r, hr, rfl⟩ : ∃ i r, r < 2 ∧ j = i * 2 + r := ⟨j / 2, j % 2, by omega, by omega⟩
  have h2 := O2_at R i (by omega)
  have h4 := h3 i (by omega)
  have hr' : r = 0 ∨ r = 1 := by omega
  rcases hr' with rfl | rfl
  · rw [Nat.add_zero] at hj ⊢
    rw [h4.1, ← hj, h2.1]
  · rw [← Nat.add_assoc, h4.2, ← hj, h2.2]
/-- a tree is put together of its lists -/
theorem TO.build {w : World} {N : Nv} {R : List (Int × Int)} {ts : List Tn} (ND : Nat → Nv) (AS : Nat → Nat → Prop) (b : Nat) (ok : N.ok) (hRk : ∀ x ∈ R, I64ok x.1 ∧ I64ok x.2)
    (rr : w.ownsRow 0 63 2 (.slice N.r1 N.r2 N.r3) R.length (O2 R)) (hF : FR w b ts.length ND) (hm : ts.length ≤ 200000) (e : N.s1 = some ⟨b, 0, none⟩ ∧ N.s2 = ts.length ∧ N.s3 = ts.length) (hk : ∀ i (hi : i < ts.length), TO w (ND i) ts[i] (AS i))
    (d1 : ∀ i j c, i < ts.length → j < ts.length → i ≠ j → AS i c → ¬ AS j c) (d2 : ∀ c, N.rb = some c → c ≠ b) (d3 : ∀ i c, i < ts.length → AS i c → c ≠ b ∧ N.rb ≠ some c) :
    TO w N (.mk N.k R N.a2 ts N.a4 N.a5 N.a6 N.a7 N.a8) (fun c => N.rb = some c ∨ N.sb = some c ∨ ∃ i, i < ts.length ∧ AS i c) := by
  obtain ⟨e1, e2, e3⟩ := e
  have hsb : N.sb = some b := by show (Value.slice N.s1 N.s2 N.s3).ownBlock = some b; rw [e1]; rfl
  refine .mk ok hRk rr ?_ hk d1 (fun c hc h => d2 c hc ?_) (fun i c hi hc => ⟨(d3 i c hi hc).2, fun h => (d3 i c hi hc).1 ?_⟩)
  · rw [e1, e2, e3]
    exact hF.owns (by unfold maxLen; omega)
  · rw [hsb] at h; simp at h; exact h.symm
  · rw [hsb] at h; simp at h; exact h.symm
theorem getD_lt {ts : List Tn} {i : Nat} (hi : i < ts.length) : ts.getD i default = ts[i] := by simp [List.getD_eq_getElem?_getD, List.getElem?_eq_getElem hi]
/-- the nine cells of a node's box -/
abbrev BxN (w : World) (b : Nat) (N : Nv) : Prop := w.heap[b]? = some (.cells #[.int .i64 N.k, .slice N.r1 N.r2 N.r3, .int .i64 N.a2, .slice N.s1 N.s2 N.s3, .int .i64 N.a4, .int .i64 N.a5, .bool N.a6, .int .i64 N.a7, .string N.a8] 25 (0, 0))
abbrev BxZ (w : World) (b : Nat) : Prop := w.heap[b]? = some (.cells #[.int .i64 0, .slice none 0 0, .int .i64 0, .slice none 0 0, .int .i64 0, .int .i64 0, .bool false, .int .i64 0, .string ⟨#[]⟩] 25 (0, 0))
/-- what an append onto a row of the call's own leaves of all else -/
structure Frm (w w' : World) (v v' : Value) : Prop where
  os : w'.os = w.os
  tape : w'.tape = w.tape
  output : w'.output = w.output
  size : w.heap.size ≤ w'.heap.size
  block : ∀ k, k < w.heap.size → v.ownBlock ≠ some k → w'.heap[k]? = w.heap[k]?
  own : ∀ k, v'.ownBlock = some k → v.ownBlock = some k ∨ k = w.heap.size
theorem Moved.frm {w w' : World} {v v' : Value} (h : Moved w w' v v') : Frm w w' v v' := by
  rcases h with ⟨e, h⟩ | ⟨e, h⟩
  · exact ⟨h.os, h.tape, h.output, h.size, fun k hk hn => h.block k hk (fun e => hn e.symm), fun k hk => .inl (by rw [← e]; exact hk)⟩
  · exact ⟨h.os, h.tape, h.output, h.size, fun k hk hn => h.block k hk (by simp), fun k hk => .inr (by rw [e] at hk; simp at hk; exact hk.symm)⟩
theorem Frm.refl (w : World) (v : Value) : Frm w w v v := ⟨rfl, rfl, rfl, Nat.le_refl _, fun _ _ _ => rfl, fun k hk => .inl hk⟩
/-- a row is put behind a row of the call's own -/
theorem wpList_append_row {P : Program} {w : World} {ops : Array Oper} {rest : List Oper} {o : Oper} {a : Act} {Q : Exit → Act → World → Prop} (hgd : o.guard = none) (s x : Operand) (t : TypeId)
    (ho : o.op = .call { callee := .builtin .append, args := #[s, x], argTypes := #[t, t] })
    (base : Nat) (e : TypeId) (i : TypeInfo) (z : Value) (size bytes : Nat) (ht : P.underlying t = some (.slice e)) (hi : P.info? e = some i) (hz : i.zero = some z)
    (hsize : i.size = size) (hby : i.bytes = bytes) (hzs : z.cells.size = size) (hpos : 0 < size)
    (v : Value) (n : Nat) (xs : List Value) (hs : a.eval s = v) (hown : w.ownsRow base e size v n xs)
    (sv : Value) (m sb : Nat) (ys : List Value) (hx : a.eval x = sv) (hsrc : w.ownsRow sb e size sv m ys) (h0 : m = 0 → sv = .slice none 0 0) (h1 : ∀ u ∈ ys, u.oneCell' = true)
    (h63 : n + m ≤ maxLen) (hbytes : (n + m) * bytes ≤ 140737488355328) (hbase : base ≤ w.heap.size)
    (h : ∀ v' w', Hid (w'.ownsRow base e size v' (n + m) (xs ++ ys)) → Hid (Frm w w' v v') → Hid (n + m = 0 → v' = v) → wpList P ops Q rest (a.put o.dst v') w') : wpList P ops Q (o :: rest) a w := by
  rcases Nat.eq_zero_or_pos m with hm | hm
  · have := h0 hm
    subst this hm
    have hy : ys = [] := List.length_eq_zero_iff.1 (by have := hsrc.1; omega)
    subst hy
    refine wpList_append_own_none hgd s x t ho base e i size ht hi v n xs hs hown hx (h v w ?_ (Frm.refl _ _) (fun _ => rfl))
    have : w.ownsRow base e size v (n + 0) (xs ++ []) := by simpa using hown
    exact this
  · rcases hsrc.2 with ⟨_, e0⟩ | ⟨g, cap, cur, rfl, _⟩
    · omega
    · refine wpList_append_moveN hgd s x t ho base e i z size bytes ht hi hz hsize hby hzs hpos v n xs hs hown ⟨g, 0, none⟩ m cap ys hx hsrc.1 hm (fun j u hj => hsrc.cells (g := g) rfl j u hj) h1 h63 hbytes hbase ?_
      intro v' w' ho' hm'
      exact h v' w' ho' hm'.out.frm (fun h => by omega)
theorem info9 : (Try.prog.info? 9).map (fun i => (i.zero, i.size, i.bytes)) = some (some (.string ⟨#[]⟩), 1, 16) := by kernel_rfl
end Go.Proofs.Ytdidopgenhpakaa
/- HELPERS: trees that are lent: two marks behind each list. -/
namespace Go.Proofs.Ytdidopgenhpakaa
open Go.RowKit
set_option linter.unusedVariables false
set_option linter.unusedSimpArgs false
/-- append of a row, or of none, as a step of a region that draws -/
theorem run_append_zero {P : Program} (t ty e : TypeId) (i : TypeInfo) (ht : P.underlying t = some (.slice e)) (hi : P.info? e = some i) (a0 : Addr) (l c0 : Nat) (h : l ≤ c0) (ad : Option Addr) (c : Nat) (w : World) :
    (Builtin.append_ #[t, t] ty #[.slice (some a0) l c0, .slice ad 0 c]).run P w = .ok (.slice (some a0) l c0) w := by
  cases ad with
  | none => simp [Builtin.append_, run_underlying ht, sizeOf, typeInfo, hi, Builtin.lenOf, Builtin.firstCells, h, storeCells]
  | some a => simp [Builtin.append_, run_underlying ht, sizeOf, typeInfo, hi, Builtin.lenOf, Builtin.firstCells, loadCells, loadCellsFrom, h, storeCells]
theorem step_append_any {P : Program} {ops : Array Oper} {o : Oper} {a : Act} {w : World} {K : Act → World → Prop} {Q : Exit → Act → World → Prop} {E : Prop}
    (hg : o.guard = none) (s x : Operand) (t : TypeId) (hop : o.op = Op.call { callee := Callee.builtin Builtin.append, args := #[s, x], argTypes := #[t, t] })
    (base : Nat) (e : TypeId) (i : TypeInfo) (z : Value) (size bytes : Nat) (h1 : P.underlying t = some (.slice e)) (h2 : P.info? e = some i) (h3 : i.zero = some z) (h4 : i.size = size) (h5 : i.bytes = bytes) (h6 : z.cells.size = size) (h7 : 0 < size)
    (a0 : Addr) (n c0 : Nat) (xs : List Value) (hs : a.eval s = .slice (some a0) n c0) (hown : w.ownsRow base e size (.slice (some a0) n c0) n xs)
    (ad : Option Addr) (m c : Nat) (news : List Value) (hx : a.eval x = .slice ad m c) (hn : news.length = m * size) (hc : 0 < m → ∃ b f, ad = some ⟨b, f, none⟩ ∧ ∀ j u, news[j]? = some u → w.cell? ⟨b, f + j, none⟩ = some u) (h1c : ∀ u ∈ news, u.oneCell' = true)
    (b1 : n + m ≤ maxLen) (b2 : (n + m) * bytes ≤ 140737488355328) (hb : base ≤ w.heap.size)
    (hK : ∀ v' w', w'.ownsRow base e size v' (n + m) (xs ++ news) → Frm w w' (.slice (some a0) n c0) v' → K (a.put o.dst v') w') :
    if Region.wanted o (yielded ops a.tmps) = true then Oper.wp P o a w K Q else E := by
  rcases Nat.eq_zero_or_pos m with h0 | h0
  · have hw : Region.wanted o (yielded ops a.tmps) = true := by simp [Region.wanted, hg]
    rw [if_pos hw]
    subst h0
    obtain rfl : news = [] := List.length_eq_zero_iff.1 (by omega)
    have hcap : n ≤ c0 := by
      rcases hown.2 with ⟨e, _⟩ | ⟨g, cap, cur, e, _, _, h, _⟩
      · cases e
      · simp only [Value.slice.injEq] at e; omega
    have hrun := run_append_zero (P := P) t o.type e i h1 h2 a0 n c0 hcap ad c w
    unfold Oper.wp
    simp [execOp, hop, resolve, invoke, builtin, hs, hx, hrun, Result.andThen]
    exact hK _ w (by simpa using hown) (Frm.refl _ _)
  · obtain ⟨b, f, rfl, hc'⟩ := hc h0
    exact step_append_moveN hg s x t hop base e i z size bytes h1 h2 h3 h4 h5 h6 h7 _ n xs hs hown ⟨b, f, none⟩ m c news hx hn h0 (fun j u hj => by rw [Addr.add_mid]; exact hc' j u hj) h1c b1 b2 hb (fun v' w' r1 r2 => hK v' w' r1 r2.frm)
abbrev M2 : List (Int × Int) := [(-77, 0), (-78, 0)]
abbrev mk7 (k : Int) : Nv := ⟨k, none, 0, 0, 0, none, 0, 0, 0, 0, false, 0, ⟨#[]⟩⟩
/-- a tree that is lent -/
inductive TL (w : World) : Nv → Tn → (Nat → Prop) → Prop
  | mk {N : Nv} {R : List (Int × Int)} {ts : List Tn} {ND : Nat → Nv} {AS : Nat → Nat → Prop} (ok : N.ok) (hRk : ∀ x ∈ R, I64ok x.1 ∧ I64ok x.2) (e1 : N.r2 = R.length) (e2 : N.s2 = ts.length)
      (rr : w.ownsRow 0 63 2 (.slice N.r1 (R.length + 2) N.r3) (R.length + 2) (O2 (R ++ M2))) (sr : w.ownsRow 0 25 9 (.slice N.s1 (ts.length + 2) N.s3) (ts.length + 2) (((List.range ts.length).map ND ++ [mk7 (-77), mk7 (-78)]).flatMap Nv.cs))
      (hk : ∀ i (hi : i < ts.length), TL w (ND i) ts[i] (AS i))
      (d1 : ∀ i j b, i < ts.length → j < ts.length → i ≠ j → AS i b → ¬ AS j b)
      (d2 : ∀ b, N.rb = some b → N.sb ≠ some b)
      (d3 : ∀ i b, i < ts.length → AS i b → N.rb ≠ some b ∧ N.sb ≠ some b) :
      TL w N (.mk N.k R N.a2 ts N.a4 N.a5 N.a6 N.a7 N.a8) (fun b => N.rb = some b ∨ N.sb = some b ∨ ∃ i, i < ts.length ∧ AS i b)
theorem make53 (c : Nat) (hc : c * 16 ≤ 140737488355328) (w : World) : (Instr.makeSlice 22 (.int .i64 0) (.int .i64 (c : Int))).run Try.prog w = .ok (.slice (some ⟨w.heap.size, 0, none⟩) 0 c) (w.alloc (.cells (madeCells (Value.agg #[.int .i64 0, .int .i64 0]).cells (c * 2)) 63)) := by
  obtain ⟨i0, hi0, hz0, hz1, hz2⟩ := info_parts info53
  have h := run_make (P := Try.prog) w 22 63 i0 (.agg #[.int .i64 0, .int .i64 0]) Try.underlying22 hi0 hz0 .i64 .i64 0 c (by omega) (by omega) (by rw [hz2]; omega) (by omega)
  simp only [Int.toNat_natCast, hz1, Int.toNat_zero] at h
  exact h
theorem made_own53 (c : Nat) (hc : c ≤ maxLen) (base : Nat) (w : World) (hb : base ≤ w.heap.size) : (w.alloc (.cells (madeCells (Value.agg #[.int .i64 0, .int .i64 0]).cells (c * 2)) 63)).ownsRow base 63 2 (.slice (some ⟨w.heap.size, 0, none⟩) 0 c) 0 [] :=
  ⟨rfl, .inr ⟨w.heap.size, c, _, rfl, hb, heap_alloc_new w _, Nat.zero_le _, hc, size_madeCells _ _, by simp⟩⟩
theorem make25 (c : Nat) (hc : c * 112 ≤ 140737488355328) (w : World) : (Instr.makeSlice 23 (.int .i64 0) (.int .i64 (c : Int))).run Try.prog w = .ok (.slice (some ⟨w.heap.size, 0, none⟩) 0 c) (w.alloc (.cells (madeCells Z9.cells (c * 9)) 25)) := by
  obtain ⟨i0, hi0, hz0, hz1, hz2⟩ := info_parts info25
  have h := run_make (P := Try.prog) w 23 25 i0 Z9 Try.underlying23 hi0 hz0 .i64 .i64 0 c (by omega) (by omega) (by rw [hz2]; omega) (by omega)
  simp only [Int.toNat_natCast, hz1, Int.toNat_zero] at h
  exact h
theorem made_own25 (c : Nat) (hc : c ≤ maxLen) (base : Nat) (w : World) (hb : base ≤ w.heap.size) : (w.alloc (.cells (madeCells Z9.cells (c * 9)) 25)).ownsRow base 25 9 (.slice (some ⟨w.heap.size, 0, none⟩) 0 c) 0 [] :=
  ⟨rfl, .inr ⟨w.heap.size, c, _, rfl, hb, heap_alloc_new w _, Nat.zero_le _, hc, size_madeCells _ _, by simp⟩⟩
theorem lit_cells4 {w : World} {b : Nat} {c0 c1 c2 c3 : Value} {t : TypeId} (h : w.heap[b]? = some (.cells #[c0, c1, c2, c3] t (0, 0))) : ∀ j u, ([c0, c1, c2, c3] : List Value)[j]? = some u → w.cell? ((⟨b, 0, none⟩ : Addr).add j) = some u := by
  intro j u hj
  rw [Addr.add_mid, Nat.zero_add, Joins.cell_of_block h]
  simpa using hj
theorem ob_len (a : Option Addr) (l c l' c' : Nat) : (Value.slice a l c).ownBlock = (Value.slice a l' c').ownBlock := by cases a <;> rfl
theorem TL.kept {w w' : World} {N : Nv} {t : Tn} {A : Nat → Prop} (h : TL w N t A) (hk : ∀ b, A b → w'.heap[b]? = w.heap[b]?) : TL w' N t A := by
  induction h with
  | mk ok hRk e1 e2 rr sr hkk d1 d2 d3 ih =>
    exact .mk ok hRk e1 e2 (row_kept rr fun b hb => hk b (.inl ((ob_len _ _ _ _ _).trans hb))) (row_kept sr fun b hb => hk b (.inr (.inl ((ob_len _ _ _ _ _).trans hb)))) (fun i hi => ih i hi fun b hb => hk b (.inr (.inr ⟨i, hi, hb⟩))) d1 d2 d3
theorem TL.low {w : World} {N : Nv} {t : Tn} {A : Nat → Prop} (h : TL w N t A) : ∀ b, A b → b < w.heap.size := by
  induction h with
  | mk ok hRk e1 e2 rr sr hkk d1 d2 d3 ih =>
    rintro b (h | h | ⟨i, hi, h⟩)
    · exact (rr.lt b ((ob_len _ _ _ _ _).trans h)).2
    · exact (sr.lt b ((ob_len _ _ _ _ _).trans h)).2
    · exact ih i hi b h
theorem map_snoc_if (i : Nat) (f : Nat → Nv) (M : Nv) : (List.range (i + 1)).map (fun j => if j = i then M else f j) = (List.range i).map f ++ [M] := by
  rw [List.range_succ, List.map_append]
  congr 1
  · apply List.map_congr_left
    intro j hj
    rw [if_neg (by have := List.mem_range.1 hj; omega)]
  · simp
theorem marks_one : ∀ u ∈ (mk7 (-77)).cs ++ (mk7 (-78)).cs, u.oneCell' = true := fun u hu => (List.mem_append.1 hu).elim (one9 _ u) (one9 _ u)
set_option maxRecDepth 100000 in
set_option maxHeartbeats 16000000 in
theorem lent12 {w0 : World} {B : Nat} {N : Nv} {t : Tn} (h : TI w0 B N t) : t.nodes ≤ 200000 → t.small = true → (∀ (w : World), B ≤ w.heap.size → (∀ b, b < B → w.heap[b]? = w0.heap[b]?) →
    Calls Try.prog 13 #[N.v] w fun e w' => ∃ M A, e = .returned (Nv.v M) ∧ TL w' M t A ∧ (∀ b, A b → w.heap.size ≤ b) ∧ Below w.heap.size w w') := by
  induction h with
  | @mk N R ts ND ok hr hR hRk hs hS hk ih =>
  intro hno hsm w hB hw
  simp only [Tn.small, Bool.and_eq_true, decide_eq_true_eq] at hsm
  have hR5 := hsm.1
  simp only [Tn.nodes] at hno
  have IH : ∀ i (hi : i < ts.length) (w : World), B ≤ w.heap.size → (∀ b, b < B → w.heap[b]? = w0.heap[b]?) → Calls Try.prog 13 #[(ND i).v] w fun e w' => ∃ M A, e = .returned (Nv.v M) ∧ TL w' M ts[i] A ∧ (∀ b, A b → w.heap.size ≤ b) ∧ Below w.heap.size w w' := fun i hi => ih i hi (by have := nodes_get ts i hi; omega) (smallL_get hsm.2 i hi)
  have hlen : ts.length ≤ 200000 := by have := nodes_ge ts; omega
  have HRL : Hid (N.r2 = R.length) := hr
  have hr2 : N.r2 * 16 ≤ 140737488351232 := by omega
  have HRW : Hid (∀ w1 : World, (∀ b, b < B → w1.heap[b]? = w0.heap[b]?) → R2 w1 B N.r1 R) := fun w1 h1 => hR.kept h1
  have HOK := hid ok
  obtain ⟨k, r1, r2, r3, a2, s1, s2, s3, a4, a5, a6, a7, a8⟩ := N
  dsimp only at hs hS HRL HRW hr2
  have hm2 : s2 ≤ 200000 := by omega
  have HW := hid hw
  have HS := hid hS
  have HIH := hid IH
  have HL := hid hs
  obtain ⟨i5, hi5, hz50, hz51, hz52⟩ := info_parts info53
  obtain ⟨i2, hi2, hz20, hz21, hz22⟩ := info_parts info25
  clear ok hr hR hk hS hw ih hs IH hno hlen hR5 hsm
  have hmk := fun W => make53 (r2 + 2) (by omega) W
  rw [show ((r2 + 2 : Nat) : Int) = (r2 : Int) + 2 by push_cast; rfl] at hmk
  have hmo := fun base W hb => made_own53 (r2 + 2) (by unfold maxLen; omega) base W hb
  have ad2 : IntKind.i64.wrap ((r2 : Int) + 2) = (r2 : Int) + 2 := by simp [IntKind.wrap, IntKind.bits, IntKind.signed]; omega
  have HMO := hid hmo
  have HSRC : Hid (∀ V : World, (∀ b, b < B → V.heap[b]? = w0.heap[b]?) → 0 < r2 → ∃ b f, r1 = some ⟨b, f, none⟩ ∧ ∀ j u, (O2 R)[j]? = some u → V.cell? ⟨b, f + j, none⟩ = some u) := fun V hV hp => (HRW.out V hV).src (by have := HRL.out; omega)
  have HO2 : Hid ((O2 R).length = r2 * 2) := (O2_len R).trans (by rw [HRL.out])
  clear hmo
  generalize hmc : madeCells (Value.agg #[.int .i64 0, .int .i64 0]).cells ((r2 + 2) * 2) = mc at *
  clear hmc
  go_enter Try.func13, Try.ntmps13
  go_upto_region 1 with fail
  obtain ⟨W, hW⟩ : ∃ W, W = (w.alloc (.cells #[.int .i64 k, .slice r1 r2 r3, .int .i64 a2, .slice s1 s2 s3, .int .i64 a4, .int .i64 a5, .bool a6, .int .i64 a7, .string a8] 25)).alloc (.cells #[.int .i64 0, .slice none 0 0, .int .i64 0, .slice none 0 0, .int .i64 0, .int .i64 0, .bool false, .int .i64 0, .string ⟨#[]⟩] 25) := ⟨_, rfl⟩
  rw [← hW]
  have hX : BxN W w.heap.size ⟨k, r1, r2, r3, a2, s1, s2, s3, a4, a5, a6, a7, a8⟩ := by rw [hW]; exact (heap_alloc_old _ _ (by simp)).trans (heap_alloc_new w _)
  have hY : BxZ W (w.heap.size + 1) := by rw [hW]; exact two_new w _ _ _
  have hb : Below w.heap.size w W := by rw [hW]; exact below_two' w _ _
  have hsW : W.heap.size = w.heap.size + 2 := by rw [hW]; simp
  obtain ⟨x, hx⟩ : ∃ x, x = w.heap.size := ⟨_, rfl⟩
  rw [← hx] at hX hY hb hsW ⊢
  have HX := hid hX
  have HY := hid hY
  have HB := hid hb
  have HSW := hid hsW
  have HXE := hid hx
  have hxl : x < W.heap.size := by omega
  have hwkW : ∀ b, b < B → W.heap[b]? = w0.heap[b]? := fun b hb' => (hb.block b (by omega)).trans (HW.out b hb')
  have HWK := hid hwkW
  clear hY hb hsW hx hW
  go_cut [3] from 7 (fun s3 wx => ∃ c1 c3, s3 = .slice c1 (r2 + 2) c3 ∧ Hid (wx.ownsRow W.heap.size 63 2 (.slice c1 (r2 + 2) c3) (r2 + 2) (O2 (R ++ M2))) ∧ Hid (Below W.heap.size W wx))
  case first =>
    obtain ⟨q0, q1, q2, q3, q4, q5, q6, q7, q8⟩ := nine' hX
    have HA : Hid ((W.drew.alloc (.cells mc 63)).ownsRow W.heap.size 63 2 (.slice (some ⟨W.heap.size, 0, none⟩) 0 (r2 + 2)) 0 []) := HMO.out W.heap.size W.drew (Nat.le_refl _)
    have HBo : Hid (((W.drew.alloc (.cells #[.int .i64 (-77), .int .i64 0, .int .i64 (-78), .int .i64 0] 63)).alloc (.cells mc 63)).ownsRow W.heap.size 63 2 (.slice (some ⟨W.heap.size + 1, 0, none⟩) 0 (r2 + 2)) 0 []) := by
      have := HMO.out W.heap.size (W.drew.alloc (.cells #[.int .i64 (-77), .int .i64 0, .int .i64 (-78), .int .i64 0] 63)) (by simp)
      have e : (W.drew.alloc (.cells #[.int .i64 (-77), .int .i64 0, .int .i64 (-78), .int .i64 0] 63)).heap.size = W.heap.size + 1 := by simp
      rw [e] at this
      exact this
    have HCo : Hid (((W.drew.alloc (.cells mc 63)).alloc (.cells #[.int .i64 (-77), .int .i64 0, .int .i64 (-78), .int .i64 0] 63)).ownsRow W.heap.size 63 2 (.slice (some ⟨W.heap.size, 0, none⟩) 0 (r2 + 2)) 0 []) := HA.out.alloc _
    have HS1 := hid (HSRC.out (W.drew.alloc (.cells mc 63)) (fun b hb => (heap_alloc_old _ _ (by have := HSW.out; have := HXE.out; simp; omega)).trans (hwkW b hb)))
    have HS2 := hid (HSRC.out ((W.drew.alloc (.cells #[.int .i64 (-77), .int .i64 0, .int .i64 (-78), .int .i64 0] 63)).alloc (.cells mc 63)) (fun b hb => (heap_alloc_old _ _ (by have := HSW.out; have := HXE.out; simp; omega)).trans ((heap_alloc_old _ _ (by have := HSW.out; have := HXE.out; simp; omega)).trans (hwkW b hb))))
    have HS3 := hid (HSRC.out ((W.drew.alloc (.cells mc 63)).alloc (.cells #[.int .i64 (-77), .int .i64 0, .int .i64 (-78), .int .i64 0] 63)) (fun b hb => (heap_alloc_old _ _ (by have := HSW.out; have := HXE.out; simp; omega)).trans ((heap_alloc_old _ _ (by have := HSW.out; have := HXE.out; simp; omega)).trans (hwkW b hb))))
    have HLB : Hid (((W.drew.alloc (.cells #[.int .i64 (-77), .int .i64 0, .int .i64 (-78), .int .i64 0] 63)).alloc (.cells mc 63)).heap[W.heap.size]? = some (.cells #[.int .i64 (-77), .int .i64 0, .int .i64 (-78), .int .i64 0] 63 (0, 0))) := (heap_alloc_old _ _ (by simp)).trans (heap_alloc_new W.drew _)
    have HLC : Hid (((W.drew.alloc (.cells mc 63)).alloc (.cells #[.int .i64 (-77), .int .i64 0, .int .i64 (-78), .int .i64 0] 63)).heap[W.heap.size + 1]? = some (.cells #[.int .i64 (-77), .int .i64 0, .int .i64 (-78), .int .i64 0] 63 (0, 0))) := two_new W.drew _ _ _
    clear hX hwkW
    go_region_law (first
      | (refine step_append_any rfl (.tmp 11) (.tmp 13) 22 rfl W.heap.size 63 i5 (.agg #[.int .i64 0, .int .i64 0]) 2 16 Try.underlying22 hi5 hz50 hz51 hz52 rfl (by decide) ⟨W.heap.size, 0, none⟩ 0 (r2 + 2) [] (by simp [Act.eval, Act.put]) (by exact HA.out) r1 r2 r3 (O2 R) (by simp [Act.eval, Act.put]) HO2.out (by exact HS1.out) (O2_one R) (by unfold maxLen; omega) (by omega) (by (try simp) <;> omega) ?_; intro v3 w3 ho3 hf3; obtain ⟨p1, p3, e3, _⟩ := row_shape ho3; rw [Nat.zero_add] at e3; subst e3; have hz3 : W.heap.size + 1 ≤ w3.heap.size := (by have := hf3.size; simp at this; omega))
      | (refine step_append_any rfl (.tmp 11) (.tmp 13) 22 rfl W.heap.size 63 i5 (.agg #[.int .i64 0, .int .i64 0]) 2 16 Try.underlying22 hi5 hz50 hz51 hz52 rfl (by decide) ⟨W.heap.size + 1, 0, none⟩ 0 (r2 + 2) [] (by simp [Act.eval, Act.put]) (by exact HBo.out) r1 r2 r3 (O2 R) (by simp [Act.eval, Act.put]) HO2.out (by exact HS2.out) (O2_one R) (by unfold maxLen; omega) (by omega) (by (try simp) <;> omega) ?_; intro v3 w3 ho3 hf3; obtain ⟨p1, p3, e3, _⟩ := row_shape ho3; rw [Nat.zero_add] at e3; subst e3; have hz3 : W.heap.size + 1 ≤ w3.heap.size := (by have := hf3.size; simp at this; omega); have HL3 : Hid (w3.heap[W.heap.size]? = some (.cells #[.int .i64 (-77), .int .i64 0, .int .i64 (-78), .int .i64 0] 63 (0, 0))) := (hf3.block _ (by (try simp) <;> omega) (by simp [Value.ownBlock])).trans HLB.out)
      | (refine step_append_any rfl (.tmp 11) (.tmp 13) 22 rfl W.heap.size 63 i5 (.agg #[.int .i64 0, .int .i64 0]) 2 16 Try.underlying22 hi5 hz50 hz51 hz52 rfl (by decide) ⟨W.heap.size, 0, none⟩ 0 (r2 + 2) [] (by simp [Act.eval, Act.put]) (by exact HCo.out) r1 r2 r3 (O2 R) (by simp [Act.eval, Act.put]) HO2.out (by exact HS3.out) (O2_one R) (by unfold maxLen; omega) (by omega) (by (try simp) <;> omega) ?_; intro v3 w3 ho3 hf3; obtain ⟨p1, p3, e3, _⟩ := row_shape ho3; rw [Nat.zero_add] at e3; subst e3; have hz3 : W.heap.size + 1 ≤ w3.heap.size := (by have := hf3.size; simp at this; omega); have HL3 : Hid (w3.heap[W.heap.size + 1]? = some (.cells #[.int .i64 (-77), .int .i64 0, .int .i64 (-78), .int .i64 0] 63 (0, 0))) := (hf3.block _ (by (try simp) <;> omega) (by simp [Value.ownBlock])).trans HLC.out)
      | (refine step_append_moveN rfl (.tmp 14) (.tmp 17) 22 rfl W.heap.size 63 i5 (.agg #[.int .i64 0, .int .i64 0]) 2 16 Try.underlying22 hi5 hz50 hz51 hz52 rfl (by decide) (.slice p1 r2 p3) r2 (O2 R) (by simp [Act.eval, Act.put]) (by have t := ho3.alloc (.cells #[.int .i64 (-77), .int .i64 0, .int .i64 (-78), .int .i64 0] 63); rw [Nat.zero_add] at t; exact t) ⟨w3.heap.size, 0, none⟩ 2 2 [.int .i64 (-77), .int .i64 0, .int .i64 (-78), .int .i64 0] (by simp [Act.eval, Act.put]) rfl (by decide) (by exact lit_cells4 (heap_alloc_new w3 _)) (by simp [Value.oneCell']) (by unfold maxLen; omega) (by omega) (by (try simp) <;> omega) ?_; intro v5 w5 ho5 hm5)
      | (refine step_append_moveN rfl (.tmp 14) (.tmp 17) 22 rfl W.heap.size 63 i5 (.agg #[.int .i64 0, .int .i64 0]) 2 16 Try.underlying22 hi5 hz50 hz51 hz52 rfl (by decide) (.slice p1 r2 p3) r2 (O2 R) (by simp [Act.eval, Act.put]) (by have t := ho3; rw [Nat.zero_add] at t; exact t) ⟨W.heap.size, 0, none⟩ 2 2 [.int .i64 (-77), .int .i64 0, .int .i64 (-78), .int .i64 0] (by simp [Act.eval, Act.put]) rfl (by decide) (by exact lit_cells4 HL3.out) (by simp [Value.oneCell']) (by unfold maxLen; omega) (by omega) (by (try simp) <;> omega) ?_; intro v5 w5 ho5 hm5)
      | (refine step_append_moveN rfl (.tmp 14) (.tmp 17) 22 rfl W.heap.size 63 i5 (.agg #[.int .i64 0, .int .i64 0]) 2 16 Try.underlying22 hi5 hz50 hz51 hz52 rfl (by decide) (.slice p1 r2 p3) r2 (O2 R) (by simp [Act.eval, Act.put]) (by have t := ho3; rw [Nat.zero_add] at t; exact t) ⟨W.heap.size + 1, 0, none⟩ 2 2 [.int .i64 (-77), .int .i64 0, .int .i64 (-78), .int .i64 0] (by simp [Act.eval, Act.put]) rfl (by decide) (by exact lit_cells4 HL3.out) (by simp [Value.oneCell']) (by unfold maxLen; omega) (by omega) (by (try simp) <;> omega) ?_; intro v5 w5 ho5 hm5))
    all_goals go_wp2_with fail
    all_goals go_meet
    all_goals
      have hb3 : Below W.heap.size W w3 := ⟨hf3.os, hf3.tape, hf3.output, by omega, fun b hb => (hf3.block b (by (try simp) <;> omega) (fun h => by simp [Value.ownBlock] at h; omega)).trans (by first | exact heap_alloc_old _ _ (by (try simp) <;> omega) | exact (heap_alloc_old _ _ (by (try simp) <;> omega)).trans (heap_alloc_old _ _ (by (try simp) <;> omega)))⟩
      have hf5 := hm5.frm
      have hb5 : Below W.heap.size W w5 := ⟨hf5.os.trans hb3.os, hf5.tape.trans hb3.tape, hf5.output.trans hb3.output, by have := hf5.size; (try simp at this); omega, fun b hb => (hf5.block b (by (try simp) <;> omega) (fun h => by have := (ho3.lt b h).1; omega)).trans (by first | exact (heap_alloc_old _ _ (by omega)).trans (hb3.block b hb) | exact hb3.block b hb)⟩
      obtain ⟨c1, c3, rfl, _⟩ := row_shape ho5
      refine ⟨c1, c3, rfl, ?_, hb5⟩
      show w5.ownsRow _ _ _ _ _ _
      rw [show O2 (R ++ M2) = O2 R ++ [.int .i64 (-77), .int .i64 0, .int .i64 (-78), .int .i64 0] by simp [O2, M2]]
      exact ho5
  case rest =>
    clear hX hwkW
    obtain ⟨c1, c3, rfl, HRR, HBW⟩ := hcut
    obtain ⟨c3b1, c3b2⟩ : r2 + 2 ≤ c3 ∧ c3 ≤ maxLen := by
      obtain ⟨_, _, e, h1, h2⟩ := row_shape HRR.out
      simp only [Value.slice.injEq] at e
      obtain ⟨_, _, rfl⟩ := e
      exact ⟨h1, h2⟩
    have HC3 : Hid (r2 + 2 ≤ c3 ∧ c3 ≤ maxLen) := ⟨c3b1, c3b2⟩
    clear c3b2
    have hwl : W.heap.size ≤ wc.heap.size := HBW.out.size
    have hXc : BxN wc x ⟨k, r1, r2, r3, a2, s1, s2, s3, a4, a5, a6, a7, a8⟩ := (HBW.out.block x hxl).trans HX.out
    obtain ⟨q0, q1, q2, q3, q4, q5, q6, q7, q8⟩ := nine' hXc
    have hmk2 := make25 (s2 + 2) (by omega) wc
    rw [show ((s2 + 2 : Nat) : Int) = (s2 : Int) + 2 by push_cast; rfl] at hmk2
    have ad3 : IntKind.i64.wrap ((s2 : Int) + 2) = (s2 : Int) + 2 := by simp [IntKind.wrap, IntKind.bits, IntKind.signed]; omega
    have hown0 := made_own25 (s2 + 2) (by unfold maxLen; omega) W.heap.size wc hwl
    have hbV0 : Below wc.heap.size wc (wc.alloc (.cells (madeCells Z9.cells ((s2 + 2) * 9)) 25)) := Joins.below_alloc1 wc _
    obtain ⟨V0, hV0⟩ : ∃ V, V = wc.alloc (.cells (madeCells Z9.cells ((s2 + 2) * 9)) 25) := ⟨_, rfl⟩
    rw [← hV0] at hmk2 hown0 hbV0
    have HOWN0 := hid hown0
    have HBV0 := hid hbV0
    clear hV0 hown0 hbV0 hXc HMO hmk HSRC HO2
    go_upto_region 3 with fail
    clear q0 q1 q2 q3 q4 q5 q6 q7 q8
    go_wp2_with fail
    go_loopw [4, 5] (fun u y wq => ∃ (i : Nat) (z1 : Option Addr) (z3 : Nat), u = .slice z1 i z3 ∧ y = .int .i64 (i : Int) ∧ i ≤ s2 ∧ Hid (∃ (MS : Nat → Nv) (AS : Nat → Nat → Prop), wq.ownsRow W.heap.size 25 9 (.slice z1 i z3) i (((List.range i).map MS).flatMap Nv.cs) ∧ (∀ j, j < i → TL wq (MS j) (ts.getD j default) (AS j)) ∧ (∀ j b, j < i → AS j b → W.heap.size ≤ b ∧ (Value.slice c1 (r2 + 2) c3).ownBlock ≠ some b ∧ (Value.slice z1 i z3).ownBlock ≠ some b) ∧ (∀ j l b, j < i → l < i → j ≠ l → AS j b → ¬ AS l b)) ∧ Hid (∀ b, (Value.slice z1 i z3).ownBlock = some b → (Value.slice c1 (r2 + 2) c3).ownBlock ≠ some b) ∧ Hid (wq.ownsRow W.heap.size 63 2 (.slice c1 (r2 + 2) c3) (r2 + 2) (O2 (R ++ M2))) ∧ Hid (Below W.heap.size W wq)) (fun _ y _ => s2 - (intOf y).toNat)
    case atStart =>
      refine ⟨0, _, _, rfl, rfl, by omega, ⟨fun _ => default, fun _ _ => False, HOWN0.out, fun j hj => by omega, fun j b hj => by omega, fun j l b hj => by omega⟩, fun b hb h => ?_, row_kept HRR.out (fun b hb => HBV0.out.block b (HRR.out.lt b hb).2), HBW.out.trans (Joins.below_le HBV0.out hwl)⟩
      have h1 := (HRR.out.lt b h).2
      simp [Value.ownBlock] at hb
      omega
    case round =>
      obtain ⟨i, z1, z3, rfl, rfl, hi, HST, HUR, HRq, HBq⟩ := hrel
      have hXq : BxN wr x ⟨k, r1, r2, r3, a2, s1, s2, s3, a4, a5, a6, a7, a8⟩ := (HBq.out.block x hxl).trans HX.out
      obtain ⟨q0, q1, q2, q3, q4, q5, q6, q7, q8⟩ := nine' hXq
      have hwl' : W.heap.size ≤ wr.heap.size := HBq.out.size
      have hxr : x < wr.heap.size := by omega
      by_cases hil : i < s2
      · have b1 : decide ((i : Int) < (s2 : Int)) = true := by simp; omega
        have b2 : (i : Int) < (s2 : Int) := by omega
        have ad1 : IntKind.i64.wrap ((i : Int) + 1) = (i : Int) + 1 := by simp [IntKind.wrap, IntKind.bits, IntKind.signed]; omega
        have hlt : i < ts.length := by rw [← HL.out]; exact hil
        obtain ⟨b, o, hs1, hb, hc⟩ := HS.out (by omega)
        subst hs1
        have hwk : ∀ b, b < B → wr.heap[b]? = w0.heap[b]? := fun b hb => (HBq.out.block b (by have := HSW.out; have := HXE.out; omega)).trans (HWK.out b hb)
        obtain ⟨n0, n1, n2, n3, n4, n5, n6, n7, n8⟩ := (hc i hlt).kept (hwk b hb)
        have HC := HIH.out i hlt wr (by have := HSW.out; have := HXE.out; omega) hwk
        obtain ⟨P, hP⟩ : ∃ P, P = ND i := ⟨_, rfl⟩
        rw [← hP] at HC n0 n1 n2 n3 n4 n5 n6 n7 n8
        have hbl : b < wr.heap.size := by have := HSW.out; have := HXE.out; omega
        obtain ⟨MS, AS, hS1, hS2, hS3, hS4⟩ := HST.out
        have HS1 := hid hS1
        have HS2 := hid hS2
        have HS3 := hid hS3
        have HS4 := hid hS4
        clear hc hP hwk hXq HST hS1 hS2 hS3 hS4
        go_wp2_with (first | (go_at_call 13; (with_reducible refine HC.mono ?_); rintro e w2 ⟨M, A, rfl, hM, hA, hb2⟩; have HM := hid hM; have HA := hid hA; have HB2 := hid hb2; have hz2 : wr.heap.size ≤ w2.heap.size := hb2.size; have HO1 : Hid (((w2.alloc (.cells #[.int .i64 M.k, .slice M.r1 M.r2 M.r3, .int .i64 M.a2, .slice M.s1 M.s2 M.s3, .int .i64 M.a4, .int .i64 M.a5, .bool M.a6, .int .i64 M.a7, .string M.a8] 25)).alloc (.cells #[.int .i64 M.k, .slice M.r1 M.r2 M.r3, .int .i64 M.a2, .slice M.s1 M.s2 M.s3, .int .i64 M.a4, .int .i64 M.a5, .bool M.a6, .int .i64 M.a7, .string M.a8] 25)).ownsRow W.heap.size 25 9 (.slice z1 i z3) i (((List.range i).map MS).flatMap Nv.cs)) := ((row_kept HS1.out (fun b hb => hb2.block b (HS1.out.lt b hb).2)).alloc _).alloc _; have HLt : Hid (((w2.alloc (.cells #[.int .i64 M.k, .slice M.r1 M.r2 M.r3, .int .i64 M.a2, .slice M.s1 M.s2 M.s3, .int .i64 M.a4, .int .i64 M.a5, .bool M.a6, .int .i64 M.a7, .string M.a8] 25)).alloc (.cells #[.int .i64 M.k, .slice M.r1 M.r2 M.r3, .int .i64 M.a2, .slice M.s1 M.s2 M.s3, .int .i64 M.a4, .int .i64 M.a5, .bool M.a6, .int .i64 M.a7, .string M.a8] 25)).ownsRow 0 25 9 (.slice (some ⟨w2.heap.size + 1, 0, none⟩) 1 1) 1 (Nv.cs M)) := (by have := World.ownsRow_lit (base := 0) (e := 25) (size := 9) (w2.alloc (.cells #[.int .i64 M.k, .slice M.r1 M.r2 M.r3, .int .i64 M.a2, .slice M.s1 M.s2 M.s3, .int .i64 M.a4, .int .i64 M.a5, .bool M.a6, .int .i64 M.a7, .string M.a8] 25)) #[.int .i64 M.k, .slice M.r1 M.r2 M.r3, .int .i64 M.a2, .slice M.s1 M.s2 M.s3, .int .i64 M.a4, .int .i64 M.a5, .bool M.a6, .int .i64 M.a7, .string M.a8] 1 (by omega) (by unfold maxLen; omega) rfl; have e : (w2.alloc (.cells #[.int .i64 M.k, .slice M.r1 M.r2 M.r3, .int .i64 M.a2, .slice M.s1 M.s2 M.s3, .int .i64 M.a4, .int .i64 M.a5, .bool M.a6, .int .i64 M.a7, .string M.a8] 25)).heap.size = w2.heap.size + 1 := (by simp); rw [e] at this; exact this); clear hM hA hb2 HC) | (at_builtin; refine wpList_append_row rfl (.tmp 37) (.tmp 39) 23 rfl W.heap.size 25 i2 Z9 9 112 Try.underlying23 hi2 hz20 hz21 hz22 rfl (by decide) (.slice z1 i z3) i (((List.range i).map MS).flatMap Nv.cs) rfl HO1.out (.slice (some ⟨w2.heap.size + 1, 0, none⟩) 1 1) 1 0 (Nv.cs M) rfl HLt.out (by omega) (one9 M) (by unfold maxLen; omega) (by omega) (by (try simp) <;> omega) ?_; intro v3 w3 ho3 hf3 _; obtain ⟨y1, y3, rfl, _⟩ := row_shape ho3.out))
        have hz3 : w2.heap.size + 2 ≤ w3.heap.size := by have := hf3.out.size; simpa using this
        have hk3 : ∀ b, b < w2.heap.size → (Value.slice z1 i z3).ownBlock ≠ some b → w3.heap[b]? = w2.heap[b]? := fun b hb hn => (hf3.out.block b (by (try simp) <;> omega) hn).trans ((heap_alloc_old _ _ (by (try simp) <;> omega)).trans (heap_alloc_old _ _ hb))
        have hkr : ∀ b, b < wr.heap.size → (Value.slice z1 i z3).ownBlock ≠ some b → w3.heap[b]? = wr.heap[b]? := fun b hb hn => (hk3 b (by omega) hn).trans (HB2.out.block b hb)
        have hown3 : ∀ b, (Value.slice y1 (i + 1) y3).ownBlock = some b → (Value.slice z1 i z3).ownBlock = some b ∨ w2.heap.size ≤ b := fun b hb => by
          rcases hf3.out.own b hb with h | h
          · exact .inl h
          · right; simp at h; omega
        refine ⟨⟨i + 1, y1, y3, rfl, by push_cast; rfl, by omega, ⟨fun j => if j = i then M else MS j, fun j b => if j = i then A b else AS j b, ?_, fun j hj => ?_, fun j b hj h => ?_, fun j l b hj hl hne h h' => ?_⟩, fun b hb h => ?_, row_kept HRq.out (fun b hb => hkr b (HRq.out.lt b hb).2 (fun h => HUR.out b h hb)), ⟨hf3.out.os.trans (HB2.out.os.trans HBq.out.os), hf3.out.tape.trans (HB2.out.tape.trans HBq.out.tape), hf3.out.output.trans (HB2.out.output.trans HBq.out.output), by omega, fun b hb => (hkr b (by omega) (fun h => by have := (HS1.out.lt b h).1; omega)).trans (HBq.out.block b hb)⟩⟩, by simp [intOf]; omega⟩
        · rw [map_snoc_if]
          rw [List.flatMap_append]
          simpa using ho3.out
        · by_cases e : j = i
          · subst e
            simp only [if_pos]
            rw [getD_lt hlt]
            exact HM.out.kept fun b hb => hk3 b (HM.out.low b hb) (fun h => by have := (HS1.out.lt b h).2; have := HA.out b hb; omega)
          · simp only [if_neg e]
            exact (HS2.out j (by omega)).kept fun b hb => hkr b ((HS2.out j (by omega)).low b hb) (HS3.out j b (by omega) hb).2.2
        · by_cases e : j = i
          · simp only [if_pos e] at h
            have h1 := HA.out b h
            have h2 := HM.out.low b h
            refine ⟨by omega, fun h' => by have := (HRq.out.lt b h').2; omega, fun h' => ?_⟩
            rcases hown3 b h' with h3 | h3
            · have := (HS1.out.lt b h3).2; omega
            · omega
          · simp only [if_neg e] at h
            have h0 := HS3.out j b (by omega) h
            refine ⟨h0.1, h0.2.1, fun h' => ?_⟩
            rcases hown3 b h' with h3 | h3
            · exact h0.2.2 h3
            · have := (HS2.out j (by omega)).low b h; omega
        · by_cases e : j = i
          · simp only [if_pos e] at h
            have e' : l ≠ i := by omega
            simp only [if_neg e'] at h'
            have := HA.out b h
            have := (HS2.out l (by omega)).low b h'
            omega
          · simp only [if_neg e] at h
            by_cases e' : l = i
            · simp only [if_pos e'] at h'
              have := HA.out b h'
              have := (HS2.out j (by omega)).low b h
              omega
            · simp only [if_neg e'] at h'
              exact HS4.out j l b (by omega) (by omega) hne h h'
        · rcases hown3 b hb with h3 | h3
          · exact HUR.out b h3 h
          · have := (HRq.out.lt b h).2; omega
      · have b1 : decide ((i : Int) < (s2 : Int)) = false := by simp; omega
        obtain rfl : i = s2 := by omega
        have HLt : Hid ((wr.alloc (.cells #[.int .i64 (-77), .slice none 0 0, .int .i64 0, .slice none 0 0, .int .i64 0, .int .i64 0, .bool false, .int .i64 0, .string ⟨#[]⟩, .int .i64 (-78), .slice none 0 0, .int .i64 0, .slice none 0 0, .int .i64 0, .int .i64 0, .bool false, .int .i64 0, .string ⟨#[]⟩] 25)).ownsRow 0 25 9 (.slice (some ⟨wr.heap.size, 0, none⟩) 2 2) 2 ((mk7 (-77)).cs ++ (mk7 (-78)).cs)) :=
          World.ownsRow_lit (base := 0) (e := 25) (size := 9) wr #[.int .i64 (-77), .slice none 0 0, .int .i64 0, .slice none 0 0, .int .i64 0, .int .i64 0, .bool false, .int .i64 0, .string ⟨#[]⟩, .int .i64 (-78), .slice none 0 0, .int .i64 0, .slice none 0 0, .int .i64 0, .int .i64 0, .bool false, .int .i64 0, .string ⟨#[]⟩] 2 (by omega) (by unfold maxLen; omega) rfl
        obtain ⟨MS, AS, hS1, hS2, hS3, hS4⟩ := HST.out
        have HS1 := hid hS1
        have HS2 := hid hS2
        have HS3 := hid hS3
        have HS4 := hid hS4
        have hd1 : IntKind.i64.wrap ((r2 : Int) + 2 - 2) = (r2 : Int) := by simp [IntKind.wrap, IntKind.bits, IntKind.signed]; omega
        have hd1' : IntKind.i64.wrap (((r2 + 2 : Nat) : Int) - 2) = (r2 : Int) := by simp [IntKind.wrap, IntKind.bits, IntKind.signed]; omega
        have hd2 : IntKind.i64.wrap ((i : Int) + 2 - 2) = (i : Int) := by simp [IntKind.wrap, IntKind.bits, IntKind.signed]; omega
        have hd2' : IntKind.i64.wrap (((i + 2 : Nat) : Int) - 2) = (i : Int) := by simp [IntKind.wrap, IntKind.bits, IntKind.signed]; omega
        have hcc : (r2 : Int) ≤ (c3 : Int) := by omega
        clear hXq HST hS1 hS2 hS3 hS4
        go_upto_region 9 with (at_builtin; refine wpList_append_row rfl (.tmp 41) (.tmp 44) 23 rfl W.heap.size 25 i2 Z9 9 112 Try.underlying23 hi2 hz20 hz21 hz22 rfl (by decide) (.slice z1 i z3) i (((List.range i).map MS).flatMap Nv.cs) rfl (HS1.out.alloc _) (.slice (some ⟨wr.heap.size, 0, none⟩) 2 2) 2 0 ((mk7 (-77)).cs ++ (mk7 (-78)).cs) rfl HLt.out (by omega) (marks_one) (by unfold maxLen; omega) (by omega) (by (try simp) <;> omega) ?_; intro v3 w3 ho3 hf3 _; obtain ⟨y1, y3, rfl, hy3⟩ := row_shape ho3.out)
        have HY3 := hid hy3
        have hcy : (i : Int) ≤ (y3 : Int) := by omega
        have hz3 : wr.heap.size + 1 ≤ w3.heap.size := by have := hf3.out.size; simpa using this
        have hkr : ∀ b, b < wr.heap.size → (Value.slice z1 i z3).ownBlock ≠ some b → w3.heap[b]? = wr.heap[b]? := fun b hb hn => (hf3.out.block b (by (try simp) <;> omega) hn).trans (heap_alloc_old _ _ hb)
        have hown3 : ∀ b, (Value.slice y1 (i + 2) y3).ownBlock = some b → (Value.slice z1 i z3).ownBlock = some b ∨ wr.heap.size ≤ b := fun b hb => by
          rcases hf3.out.own b hb with h | h
          · exact .inl h
          · right; simp at h; omega
        have hX3 : BxN w3 x ⟨k, r1, r2, r3, a2, s1, i, s3, a4, a5, a6, a7, a8⟩ := (hkr x hxr (fun h => by have := (HS1.out.lt x h).1; omega)).trans ((HBq.out.block x hxl).trans HX.out)
        have hY3' : BxZ w3 (x + 1) := (hkr (x + 1) (by have := HSW.out; omega) (fun h => by have := (HS1.out.lt _ h).1; have := HSW.out; omega)).trans ((HBq.out.block (x + 1) (by have := HSW.out; omega)).trans HY.out)
        clear q0 q1 q2 q3 q4 q5 q6 q7 q8
        obtain ⟨q0, q1, q2, q3, q4, q5, q6, q7, q8⟩ := nine' hX3
        have f1 := Joins.unfrozen_of_block hX3 1
        have f3 := Joins.unfrozen_of_block hX3 3
        obtain ⟨y0, yy1, y2, yy3, y4, y5, y6, y7, y8⟩ := nine' hY3'
        have g0 := Joins.unfrozen_of_block hY3' 0
        have g1 := Joins.unfrozen_of_block hY3' 1
        have g2 := Joins.unfrozen_of_block hY3' 2
        have g3 := Joins.unfrozen_of_block hY3' 3
        have g4 := Joins.unfrozen_of_block hY3' 4
        have g5 := Joins.unfrozen_of_block hY3' 5
        have g6 := Joins.unfrozen_of_block hY3' 6
        have g7 := Joins.unfrozen_of_block hY3' 7
        have g8 := Joins.unfrozen_of_block hY3' 8
        have HX3 := hid hX3
        have HY3' := hid hY3'
        clear hX3 hY3' hy3
        go_wp2
        obtain ⟨X, hX⟩ : ∃ X, X = (w3.setCell ⟨x, 1, none⟩ (.slice c1 r2 c3)).setCell ⟨x, 3, none⟩ (.slice y1 i y3) := ⟨_, rfl⟩
        rw [← hX]
        have hXo : ∀ b, b ≠ x → X.heap[b]? = w3.heap[b]? := fun b hb => by rw [hX]; exact (Below.heap_setCell _ _ _ _ hb).trans (Below.heap_setCell _ _ _ _ hb)
        have hb3 : Below W.heap.size W w3 := ⟨hf3.out.os.trans HBq.out.os, hf3.out.tape.trans HBq.out.tape, hf3.out.output.trans HBq.out.output, by omega, fun b hb => (hkr b (by omega) (fun h => by have := (HS1.out.lt b h).1; omega)).trans (HBq.out.block b hb)⟩
        have hXb : Below x w X := by rw [hX]; exact ((HB.out.trans (Joins.below_le hb3 (by omega))).setCell (by exact Nat.le_refl _) _).setCell (by exact Nat.le_refl _) _
        obtain ⟨y1', y2', y3', y4'⟩ := nineSet4 X (x + 1) (.int .i64 k) (.slice c1 r2 c3) (.int .i64 a2) (.slice y1 i y3) (.int .i64 a4) (.int .i64 a5) (.bool a6) (.int .i64 a7) (.string a8) ((hXo _ (by omega)).trans HY3'.out)
        obtain ⟨Y, hY⟩ : ∃ Y, Y = (((((((((X.setCell ⟨x + 1, 0, none⟩ (.int .i64 k)).setCell ⟨x + 1, 1, none⟩ (.slice c1 r2 c3)).setCell ⟨x + 1, 2, none⟩ (.int .i64 a2)).setCell ⟨x + 1, 3, none⟩ (.slice y1 i y3)).setCell ⟨x + 1, 4, none⟩ (.int .i64 a4)).setCell ⟨x + 1, 5, none⟩ (.int .i64 a5)).setCell ⟨x + 1, 6, none⟩ (.bool a6)).setCell ⟨x + 1, 7, none⟩ (.int .i64 a7)).setCell ⟨x + 1, 8, none⟩ (.string a8)) := ⟨_, rfl⟩
        rw [← hY] at y1' y2' y3' y4'
        have y4'' := y4' hXb (by omega)
        rw [← hY]
        refine bodyPost_ret (results_cell_row rfl _ _ (x + 1) 25 _ (0, 0) _ rfl y1' Try.underlying25 rfl (by kernel_rfl)) rfl ?_
        have hkeep : ∀ b, W.heap.size ≤ b → Y.heap[b]? = w3.heap[b]? := fun b hb => (y2' b (by have := HSW.out; omega)).trans (hXo b (by omega))
        have hRlen : r2 = R.length := HRL.out
        have hTlen : i = ts.length := HL.out
        have hrb : ∀ b, (Value.slice c1 r2 c3).ownBlock = some b → W.heap.size ≤ b ∧ (Value.slice z1 i z3).ownBlock ≠ some b ∧ b < wr.heap.size := fun b hb => by
          have hb' := (ob_len c1 (r2 + 2) c3 r2 c3).trans hb
          exact ⟨(HRq.out.lt b hb').1, fun h => HUR.out b h hb', (HRq.out.lt b hb').2⟩
        have hsb : ∀ b, (Value.slice y1 i y3).ownBlock = some b → W.heap.size ≤ b ∧ ((Value.slice z1 i z3).ownBlock = some b ∨ wr.heap.size ≤ b) := fun b hb => by
          have hb' := (ob_len y1 (i + 2) y3 i y3).trans hb
          exact ⟨(ho3.out.lt b hb').1, hown3 b hb'⟩
        rw [← HXE.out]
        refine ⟨⟨k, c1, r2, c3, a2, y1, i, y3, a4, a5, a6, a7, a8⟩, rfl, _, TL.mk (N := ⟨k, c1, r2, c3, a2, y1, i, y3, a4, a5, a6, a7, a8⟩) (R := R) (ts := ts) (ND := MS) (AS := AS) ⟨HOK.out.k, HOK.out.a2, HOK.out.a4, HOK.out.a5, HOK.out.a7, HOK.out.a8, ⟨by show r2 ≤ c3; omega, HC3.out.2⟩, ⟨by show i ≤ y3; omega, HY3.out.2⟩⟩ hRk hRlen hTlen ?_ ?_ (fun j hj => ?_) (fun j l b hj hl hne h h' => ?_) (fun b hb h => ?_) (fun j b hj h => ?_), ?_, y4''⟩
        · rw [← hRlen]
          exact row_base (row_kept HRq.out (fun b hb => (hkeep b (HRq.out.lt b hb).1).trans (hkr b (HRq.out.lt b hb).2 (fun h => HUR.out b h hb)))) (by omega)
        · rw [← hTlen, List.flatMap_append]
          have h1 : w3.ownsRow W.heap.size 25 9 (.slice y1 (i + 2) y3) (i + 2) (((List.range i).map MS).flatMap Nv.cs ++ ([mk7 (-77), mk7 (-78)] : List Nv).flatMap Nv.cs) := by
            have := ho3.out
            simpa using this
          exact row_base (row_kept h1 (fun b hb => hkeep b (ho3.out.lt b hb).1)) (Nat.zero_le _)
        · rw [← getD_lt hj]
          exact (HS2.out j (by omega)).kept fun b hb => (hkeep b (HS3.out j b (by omega) hb).1).trans (hkr b ((HS2.out j (by omega)).low b hb) (HS3.out j b (by omega) hb).2.2)
        · exact HS4.out j l b (by omega) (by omega) hne h h'
        · rcases (hsb b h).2 with h1 | h1
          · exact (hrb b hb).2.1 h1
          · have := (hrb b hb).2.2; omega
        · have h0 := HS3.out j b (by omega) h
          refine ⟨fun h' => h0.2.1 ((ob_len c1 (r2 + 2) c3 r2 c3).trans h'), fun h' => ?_⟩
          rcases (hsb b h').2 with h1 | h1
          · exact h0.2.2 h1
          · have := (HS2.out j (by omega)).low b h; omega
        · rintro b (h | h | ⟨j, hj, h⟩)
          · have := (hrb b h).1; omega
          · have := (hsb b h).1; omega
          · have := (HS3.out j b (by omega) h).1; omega
end Go.Proofs.Ytdidopgenhpakaa
/- HELPERS: the marks behind the lists of a tree that was lent. -/
namespace Go.Proofs.Ytdidopgenhpakaa
open Go.RowKit
set_option linter.unusedVariables false
set_option linter.unusedSimpArgs false
theorem O2_app_at (R : List (Int × Int)) : (O2 (R ++ M2))[R.length * 2]? = some (.int .i64 (-77)) ∧ (O2 (R ++ M2))[(R.length + 1) * 2]? = some (.int .i64 (-78)) := by
  have h1 := O2_at (R ++ M2) R.length (by simp [M2])
  have h2 := O2_at (R ++ M2) (R.length + 1) (by simp [M2])
  refine ⟨h1.1.trans ?_, h2.1.trans ?_⟩ <;> simp [M2]
theorem nodes_app_at (MS : List Nv) : ((MS ++ [mk7 (-77), mk7 (-78)]).flatMap Nv.cs)[MS.length * 9]? = some (.int .i64 (-77)) ∧ ((MS ++ [mk7 (-77), mk7 (-78)]).flatMap Nv.cs)[(MS.length + 1) * 9]? = some (.int .i64 (-78)) := by
  have h1 := flat9 (MS ++ [mk7 (-77), mk7 (-78)]) MS.length 0 (by simp) (by omega)
  have h2 := flat9 (MS ++ [mk7 (-77), mk7 (-78)]) (MS.length + 1) 0 (by simp) (by omega)
  refine ⟨h1.trans ?_, h2.trans ?_⟩ <;> simp
/-- a list of a lent tree, its block and cells -/
theorem row_two {w : World} {base e size n : Nat} {a : Option Addr} {c : Nat} {xs : List Value} (h : w.ownsRow base e size (.slice a (n + 2) c) (n + 2) xs) : ∃ b, a = some ⟨b, 0, none⟩ ∧ n + 2 ≤ c ∧ c ≤ maxLen ∧ ∀ j, j < (n + 2) * size → w.cell? ⟨b, j, none⟩ = xs[j]? := by
  rcases h.2 with ⟨e, h0⟩ | ⟨b, cap, cur, e, h1, h2, h3, h4, _⟩
  · omega
  · have hrow := h
    rw [e] at hrow
    simp only [Value.slice.injEq] at e
    obtain ⟨e1, _, rfl⟩ := e
    exact ⟨b, e1, h3, h4, fun j hj => hrow.cellAt j hj⟩
set_option maxRecDepth 100000 in
set_option maxHeartbeats 8000000 in
theorem kept14 {w0 : World} {N : Nv} {t : Tn} {A : Nat → Prop} (h : TL w0 N t A) : ∀ w : World, (∀ b, A b → w.heap[b]? = w0.heap[b]?) → Calls Try.prog 16 #[N.v] w fun e w' => e = .returned (.bool true) ∧ Below w.heap.size w w' := by
  induction h with
  | @mk N R ts ND AS ok hRk e1 e2 rr sr hk d1 d2 d3 ih =>
  intro w hw
  have IH : ∀ i (hi : i < ts.length) (w : World), (∀ b, AS i b → w.heap[b]? = w0.heap[b]?) → Calls Try.prog 16 #[(ND i).v] w fun e w' => e = .returned (.bool true) ∧ Below w.heap.size w w' := ih
  have hrr := row_kept rr (w' := w) (fun b hb => hw b (.inl ((ob_len _ _ _ _ _).trans hb)))
  have hsr := row_kept sr (w' := w) (fun b hb => hw b (.inr (.inl ((ob_len _ _ _ _ _).trans hb))))
  have hww : ∀ i b, i < ts.length → AS i b → w.heap[b]? = w0.heap[b]? := fun i b hi hb => hw b (.inr (.inr ⟨i, hi, hb⟩))
  have hlow : ∀ i b, i < ts.length → AS i b → b < w.heap.size := fun i b hi hb => by
    have h1 := (hk i hi).low b hb
    have h2 := hww i b hi hb
    rw [Array.getElem?_eq_getElem h1] at h2
    exact (Array.getElem?_eq_some_iff.1 h2).1
  obtain ⟨br, hbr, hrc, hrm, hcr⟩ := row_two hrr
  obtain ⟨bs, hbs, hsc, hsm, hcs⟩ := row_two hsr
  have m1 := (hcr (R.length * 2) (by omega)).trans (O2_app_at R).1
  have m2 := (hcr ((R.length + 1) * 2) (by omega)).trans (O2_app_at R).2
  have hna := nodes_app_at ((List.range ts.length).map ND)
  simp only [List.length_map, List.length_range] at hna
  have m3 := (hcs (ts.length * 9) (by omega)).trans hna.1
  have m4 := (hcs ((ts.length + 1) * 9) (by omega)).trans hna.2
  have hlr : br < w.heap.size := World.block_lt_of_cell? _ _ m1
  have hls : bs < w.heap.size := World.block_lt_of_cell? _ _ m3
  have hchild : ∀ i, i < ts.length → N9 w bs 0 i (ND i) := fun i hi => by
    have c : ∀ k, k < 9 → w.cell? ⟨bs, 0 + i * 9 + k, none⟩ = (Nv.cs (ND i))[k]? := fun k hk => by
      rw [Nat.zero_add, hcs (i * 9 + k) (by omega)]
      have := flat9 ((List.range ts.length).map ND ++ [mk7 (-77), mk7 (-78)]) i k (by simp; omega) hk
      rw [this, List.getElem_append_left (by simpa using hi)]
      simp
    exact ⟨c 0 (by omega), c 1 (by omega), c 2 (by omega), c 3 (by omega), c 4 (by omega), c 5 (by omega), c 6 (by omega), c 7 (by omega), c 8 (by omega)⟩
  obtain ⟨k, r1, r2, r3, a2, s1, s2, s3, a4, a5, a6, a7, a8⟩ := N
  dsimp only at e1 e2 hbr hbs hrc hsc hrm hsm
  subst hbr hbs
  rw [← e1] at m1 m2 hrc
  rw [← e2] at m3 m4 hsc
  have hm : maxLen = 9223372036854775807 := rfl
  have hr9 : r2 + 2 ≤ 9223372036854775807 := by omega
  have hs9 : s2 + 2 ≤ 9223372036854775807 := by omega
  have w1 : IntKind.i64.wrap ((r2 : Int) + 2) = (r2 : Int) + 2 := by simp [IntKind.wrap, IntKind.bits, IntKind.signed]; omega
  have w2 : IntKind.i64.wrap ((s2 : Int) + 2) = (s2 : Int) + 2 := by simp [IntKind.wrap, IntKind.bits, IntKind.signed]; omega
  have w3 : IntKind.i64.wrap ((r2 : Int) + 1) = (r2 : Int) + 1 := by simp [IntKind.wrap, IntKind.bits, IntKind.signed]; omega
  have w4 : IntKind.i64.wrap ((s2 : Int) + 1) = (s2 : Int) + 1 := by simp [IntKind.wrap, IntKind.bits, IntKind.signed]; omega
  have j1 : (r2 : Int) + 2 ≤ (r3 : Int) := by omega
  have j2 : (s2 : Int) + 2 ≤ (s3 : Int) := by omega
  have j3 : (r2 : Int) < (r2 : Int) + 2 := by omega
  have j4 : (r2 : Int) + 1 < (r2 : Int) + 2 := by omega
  have j5 : (s2 : Int) < (s2 : Int) + 2 := by omega
  have j6 : (s2 : Int) + 1 < (s2 : Int) + 2 := by omega
  have HIH := hid IH
  have HWW := hid hww
  have HLO := hid hlow
  have HCH := hid hchild
  have HL := hid e2
  have HOK := hid ok
  clear ok hRk e1 e2 rr sr hk d1 d2 d3 ih IH hrr hsr hww hlow hchild hcr hcs hna hw hrm hsm hm
  go_enter Try.func16, Try.ntmps16
  go_wp2_with fail
  obtain ⟨W, hW⟩ : ∃ W, W = w.alloc (.cells #[.int .i64 k, .slice (some ⟨br, 0, none⟩) r2 r3, .int .i64 a2, .slice (some ⟨bs, 0, none⟩) s2 s3, .int .i64 a4, .int .i64 a5, .bool a6, .int .i64 a7, .string a8] 25) := ⟨_, rfl⟩
  rw [← hW]
  have HX : Hid (BxN W w.heap.size ⟨k, some ⟨br, 0, none⟩, r2, r3, a2, some ⟨bs, 0, none⟩, s2, s3, a4, a5, a6, a7, a8⟩) := by rw [hW]; exact heap_alloc_new w _
  have HB : Hid (Below w.heap.size w W) := by rw [hW]; exact Joins.below_alloc1 w _
  have hxl : w.heap.size < W.heap.size := by rw [hW]; simp
  clear hW m1 m2 m3 m4
  go_loopw [7] (fun y wq => ∃ i : Nat, y = .int .i64 (i : Int) ∧ i ≤ s2 ∧ Hid (Below W.heap.size W wq)) (fun y _ => s2 - (intOf y).toNat)
  case atStart => exact ⟨0, rfl, by omega, Below.refl _ _⟩
  case round =>
    obtain ⟨i, rfl, hi, BK⟩ := hrel
    obtain ⟨o0, o1, o2, o3, o4, o5, o6, o7, o8⟩ := nine' ((BK.out.block w.heap.size hxl).trans HX.out)
    have hbw : Below w.heap.size w wr := HB.out.trans (Joins.below_le BK.out HB.out.size)
    by_cases hil : i < s2
    · have b1 : decide ((i : Int) < (s2 : Int)) = true := by simp; omega
      have b2 : (i : Int) < (s2 : Int) := by omega
      have hlt : i < ts.length := by rw [← HL.out]; exact hil
      obtain ⟨n0, n1, n2, n3, n4, n5, n6, n7, n8⟩ := (HCH.out i hlt).kept (hbw.block bs hls)
      simp only [Nat.zero_add] at n0 n1 n2 n3 n4 n5 n6 n7 n8
      have HC := HIH.out i hlt wr (fun b hb => (hbw.block b (HLO.out i b hlt hb)).trans (HWW.out i b hlt hb))
      have ad1 : IntKind.i64.wrap ((i : Int) + 1) = (i : Int) + 1 := by simp [IntKind.wrap, IntKind.bits, IntKind.signed]; omega
      obtain ⟨P, hP⟩ : ∃ P, P = ND i := ⟨_, rfl⟩
      rw [← hP] at HC n0 n1 n2 n3 n4 n5 n6 n7 n8
      clear hP hbw
      go_wp2_with (first | (go_at_call 16; (with_reducible refine HC.mono ?_); rintro e w2 ⟨rfl, hb2⟩; have HB2 := hid hb2; clear hb2 HC))
      exact ⟨⟨i + 1, by push_cast; rfl, by omega, BK.out.trans (Joins.below_le HB2.out BK.out.size)⟩, by simp [intOf]; omega⟩
    · have b1 : decide ((i : Int) < (s2 : Int)) = false := by simp; omega
      have HBW := hid hbw
      clear hbw
      go_wp2
      go_ret
      exact ⟨rfl, HBW.out⟩
end Go.Proofs.Ytdidopgenhpakaa
/- HELPERS: a lent tree with other things in the same lists. -/
namespace Go.Proofs.Ytdidopgenhpakaa
open Go.RowKit
set_option linter.unusedVariables false
set_option linter.unusedSimpArgs false
theorem row_setC {w : World} {base e size n b c : Nat} {xs : List Value} (h : w.ownsRow base e size (.slice (some ⟨b, 0, none⟩) n c) n xs) (j : Nat) (v : Value) : (w.setCell ⟨b, j, none⟩ v).ownsRow base e size (.slice (some ⟨b, 0, none⟩) n c) n (xs.set j v) := by
  obtain ⟨hl, hr⟩ := h
  rcases hr with ⟨he, _⟩ | ⟨g, cap, cur, he, hb, hgg, h1, h2, h3, h4⟩
  · cases he
  · simp only [Value.slice.injEq, Option.some.injEq, Addr.mk.injEq] at he
    obtain ⟨⟨rfl, _⟩, _, rfl⟩ := he
    refine ⟨by simp [hl], .inr ⟨b, c, cur.setIfInBounds j v, rfl, hb, Joins.block_setCell hgg _, h1, h2, by simpa using h3, ?_⟩⟩
    simp only [Array.toList_setIfInBounds]
    rw [List.take_set, h4]
theorem O2_set : ∀ (L : List (Int × Int)) (i : Nat) (x y : Int), ((O2 L).set (i * 2) (.int .i64 x)).set (i * 2 + 1) (.int .i64 y) = O2 (L.set i (x, y)) := by
  intro L
  induction L with
  | nil => intro i x y; simp [O2]
  | cons a L ih =>
    intro i x y
    cases i with
    | zero => simp [O2]
    | succ i =>
      have h := ih i x y
      have e : O2 (a :: L) = .int .i64 a.1 :: .int .i64 a.2 :: O2 L := by simp [O2]
      have e2 : O2 ((a :: L).set (i + 1) (x, y)) = .int .i64 a.1 :: .int .i64 a.2 :: O2 (L.set i (x, y)) := by simp [O2]
      rw [e, e2, ← h, show (i + 1) * 2 = i * 2 + 1 + 1 by omega]
      simp
def Nv.setA (N : Nv) (x : Int) : Nv := { N with a2 := x }
theorem flat_setA : ∀ (MS : List Nv) (i : Nat) (h : i < MS.length) (x : Int), (MS.flatMap Nv.cs).set (i * 9 + 2) (.int .i64 x) = (MS.set i (MS[i].setA x)).flatMap Nv.cs := by
  intro MS
  induction MS with
  | nil => intro i h; simp at h
  | cons M MS ih =>
    intro i h x
    cases i with
    | zero => simp [Nv.setA]
    | succ i =>
      have h' := ih i (by simpa using h) x
      have e9 : (Nv.cs M).length = 9 := rfl
      rw [List.flatMap_cons, List.set_append_right _ _ (by rw [e9]; omega), e9, show (i + 1) * 9 + 2 - 9 = i * 9 + 2 by omega, h']
      simp
theorem map_set_if (n i : Nat) (hi : i < n) (f : Nat → Nv) (M : Nv) (L : List Nv) : ((List.range n).map f ++ L).set i M = (List.range n).map (fun j => if j = i then M else f j) ++ L := by
  rw [List.set_append_left _ _ (by simpa using hi)]
  congr 1
  apply List.ext_getElem
  · simp
  · intro j h1 h2
    simp only [List.length_map, List.length_range] at h2
    by_cases e : i = j
    · subst e; simp
    · rw [List.getElem_set_ne e]; simp; intro h; exact absurd h.symm e
def Tn.setA : Tn → Int → Tn
  | .mk k R _ s mn mx lz ix nm, x => .mk k R x s mn mx lz ix nm
theorem TL.setA {w : World} {N : Nv} {t : Tn} {A : Nat → Prop} (h : TL w N t A) (x : Int) (hx : I64ok x) : TL w (N.setA x) (t.setA x) A := by
  cases h with
  | mk ok hRk e1 e2 rr sr hk d1 d2 d3 => exact .mk (N := N.setA x) ⟨ok.k, hx, ok.a4, ok.a5, ok.a7, ok.a8, ok.r, ok.s⟩ hRk e1 e2 rr sr hk d1 d2 d3
theorem Tn.setA_nodes (t : Tn) (x : Int) : (t.setA x).nodes = t.nodes ∧ (t.setA x).small = t.small := by cases t; exact ⟨rfl, rfl⟩
theorem row_there4 {w : World} {base e size n b c : Nat} {xs : List Value} (h : w.ownsRow base e size (.slice (some ⟨b, 0, none⟩) n c) n xs) {j m : Nat} (hj : j + m ≤ n * size) : w.there b j m := fun k hk => by
  rcases h.2 with ⟨he, _⟩ | ⟨g, cap, cur, he, hb, hgg, h1, h2, h3, h4⟩
  · cases he
  · simp only [Value.slice.injEq, Option.some.injEq, Addr.mk.injEq] at he
    obtain ⟨⟨rfl, _⟩, _, rfl⟩ := he
    refine ⟨?_, Joins.unfrozen_of_block hgg _⟩
    rw [Joins.cell_of_block hgg, Array.getElem?_eq_getElem (by have := Nat.mul_le_mul_right size h1; omega)]
    rfl
/-- what a call that writes into blocks of A leaves -/
structure Chs (A : Nat → Prop) (w w' : World) : Prop where
  os : w'.os = w.os
  tape : w'.tape = w.tape
  output : w'.output = w.output
  size : w.heap.size ≤ w'.heap.size
  block : ∀ b, b < w.heap.size → ¬ A b → w'.heap[b]? = w.heap[b]?
theorem Chs.refl (A : Nat → Prop) (w : World) : Chs A w w := ⟨rfl, rfl, rfl, Nat.le_refl _, fun _ _ _ => rfl⟩
theorem Chs.trans {A A' A2 : Nat → Prop} {w w' w2 : World} (h : Chs A w w') (h' : Chs A' w' w2) (h1 : ∀ b, A b → A2 b) (h2 : ∀ b, A' b → A2 b) : Chs A2 w w2 :=
  ⟨h'.os.trans h.os, h'.tape.trans h.tape, h'.output.trans h.output, Nat.le_trans h.size h'.size, fun b hb hn => (h'.block b (by have := h.size; omega) (fun h => hn (h2 b h))).trans (h.block b hb (fun h => hn (h1 b h)))⟩
theorem Chs.of_below {A : Nat → Prop} {w w' : World} (h : Below w.heap.size w w') : Chs A w w' := ⟨h.os, h.tape, h.output, h.size, fun b hb _ => h.block b hb⟩
theorem Chs.set {A : Nat → Prop} {w w' : World} (h : Chs A w w') {a : Addr} (ha : A a.block) (v : Value) : Chs A w (w'.setCell a v) :=
  ⟨h.os, h.tape, h.output, by have := h.size; simpa [World.setCell] using this, fun b hb hn => (Below.heap_setCell _ _ _ _ (by intro e; apply hn; rw [e]; exact ha)).trans (h.block b hb hn)⟩
theorem nodesL_eq : ∀ (ts us : List Tn), ts.length = us.length → (∀ i (h1 : i < ts.length) (h2 : i < us.length), us[i].nodes = ts[i].nodes ∧ us[i].small = true) → nodesL us = nodesL ts ∧ smallL us = true
  | [], [], _, _ => ⟨rfl, rfl⟩
  | t :: ts, u :: us, hl, h => by
    have h0 := h 0 (by simp) (by simp)
    have h1 := nodesL_eq ts us (by simpa using hl) (fun i g1 g2 => h (i + 1) (by simpa using g1) (by simpa using g2))
    simp only [List.getElem_cons_zero] at h0
    exact ⟨by simp only [nodesL]; omega, by simp only [smallL, h0.2, h1.2, Bool.and_self]⟩
  | [], u :: us, hl, _ => by simp at hl
  | t :: ts, [], hl, _ => by simp at hl
theorem size53 : (Try.prog.info? 63).map (·.size) = some 2 := by kernel_rfl
theorem store53 {ops : Array Oper} {rest : List Oper} {op : Oper} {a : Act} {w : World} {Q : Exit → Act → World → Prop} (hgd : op.guard = none) (x y : Operand) (ho : op.op = .store 63 x y)
    (b i : Nat) (p q : Int) (hx : a.eval x = .pointer (some ⟨b, i * 2, none⟩)) (hy : a.eval y = .agg #[.int .i64 p, .int .i64 q]) (ht : w.there b (i * 2) 2)
    (h : wpList Try.prog ops Q rest (a.put op.dst undef) ((w.setCell ⟨b, i * 2, none⟩ (.int .i64 p)).setCell ⟨b, i * 2 + 1, none⟩ (.int .i64 q))) : wpList Try.prog ops Q (op :: rest) a w :=
  wpList_store_mid hgd 63 x y ho b (i * 2) #[.int .i64 p, .int .i64 q] hx hy ht size53 (by simp [Value.oneCell']) h
set_option maxRecDepth 100000 in
set_option maxHeartbeats 8000000 in
theorem turned15 {w0 : World} {N : Nv} {t : Tn} {A : Nat → Prop} (h : TL w0 N t A) : t.nodes ≤ 200000 → t.small = true → ∀ w : World, (∀ b, A b → w.heap[b]? = w0.heap[b]?) →
    Calls Try.prog 17 #[N.v] w fun e w' => e = .returned (.tuple #[]) ∧ (∃ t' : Tn, TL w' N t' A ∧ t'.nodes = t.nodes ∧ t'.small = true) ∧ Chs A w w' := by
  induction h with
  | @mk N R ts ND AS ok hRk e1 e2 rr sr hk d1 d2 d3 ih =>
  intro hno hsm w hw
  simp only [Tn.small, Bool.and_eq_true, decide_eq_true_eq] at hsm
  simp only [Tn.nodes] at hno
  have IH : ∀ i (hi : i < ts.length) (w : World), (∀ b, AS i b → w.heap[b]? = w0.heap[b]?) → Calls Try.prog 17 #[(ND i).v] w fun e w' => e = .returned (.tuple #[]) ∧ (∃ t' : Tn, TL w' (ND i) t' (AS i) ∧ t'.nodes = ts[i].nodes ∧ t'.small = true) ∧ Chs (AS i) w w' := fun i hi => ih i hi (by have := nodes_get ts i hi; omega) (smallL_get hsm.2 i hi)
  have hlen : ts.length ≤ 200000 := by have := nodes_ge ts; omega
  have hrr := row_kept rr (w' := w) (fun b hb => hw b (.inl ((ob_len _ _ _ _ _).trans hb)))
  have hsr := row_kept sr (w' := w) (fun b hb => hw b (.inr (.inl ((ob_len _ _ _ _ _).trans hb))))
  have hTw : ∀ i (hi : i < ts.length), TL w (ND i) ts[i] (AS i) := fun i hi => (hk i hi).kept fun b hb => hw b (.inr (.inr ⟨i, hi, hb⟩))
  obtain ⟨br, hbr, hrc, hrm, _⟩ := row_two hrr
  obtain ⟨bs, hbs, hsc, hsm2, _⟩ := row_two hsr
  obtain ⟨k, r1, r2, r3, a2, s1, s2, s3, a4, a5, a6, a7, a8⟩ := N
  dsimp only at e1 e2 hbr hbs hrc hsc hrm hsm2 hrr hsr d2 d3
  subst hbr hbs
  have hne : br ≠ bs := fun e => d2 br rfl (by rw [e]; rfl)
  have hd3 : ∀ i b, i < ts.length → AS i b → b ≠ br ∧ b ≠ bs := fun i b hi hb => ⟨fun e => (d3 i b hi hb).1 (by rw [e]; rfl), fun e => (d3 i b hi hb).2 (by rw [e]; rfl)⟩
  rw [← e1] at hrr hrc
  rw [← e2] at hsr hsc
  have hr9 : r2 * 16 ≤ 140737488351232 := by omega
  have hm2 : s2 ≤ 200000 := by omega
  have HIH := hid IH
  have HTW := hid hTw
  have HWW : Hid (∀ j b, j < ts.length → AS j b → w.heap[b]? = w0.heap[b]?) := fun j b hj hb => hw b (.inr (.inr ⟨j, hj, hb⟩))
  have HL := hid e2
  have HRL := hid e1
  have HOK := hid ok
  have HRR := hid hrr
  have HSR := hid hsr
  have HD3 := hid hd3
  have HD1 := hid d1
  have HD2 := hid d2
  have HDD := hid d3
  have HSM := hid hsm
  have hlr : br < w.heap.size := (hrr.lt br rfl).2
  have hls : bs < w.heap.size := (hsr.lt bs rfl).2
  clear ok hRk e1 e2 rr sr hk d1 d2 d3 ih IH hrr hsr hTw hw hno hsm hlen hd3
  go_enter Try.func17, Try.ntmps17
  go_wp2_with fail
  obtain ⟨W, hW⟩ : ∃ W, W = w.alloc (.cells #[.int .i64 k, .slice (some ⟨br, 0, none⟩) r2 r3, .int .i64 a2, .slice (some ⟨bs, 0, none⟩) s2 s3, .int .i64 a4, .int .i64 a5, .bool a6, .int .i64 a7, .string a8] 25) := ⟨_, rfl⟩
  rw [← hW]
  have HX : Hid (BxN W w.heap.size ⟨k, some ⟨br, 0, none⟩, r2, r3, a2, some ⟨bs, 0, none⟩, s2, s3, a4, a5, a6, a7, a8⟩) := by rw [hW]; exact heap_alloc_new w _
  have hb := Joins.below_alloc1 w (.cells #[.int .i64 k, .slice (some ⟨br, 0, none⟩) r2 r3, .int .i64 a2, .slice (some ⟨bs, 0, none⟩) s2 s3, .int .i64 a4, .int .i64 a5, .bool a6, .int .i64 a7, .string a8] 25)
  rw [← hW] at hb
  have HB := hid hb
  have hxl : w.heap.size < W.heap.size := by rw [hW]; simp
  clear hW hb
  go_loopw [2] (fun y wq => ∃ i : Nat, y = .int .i64 (i : Int) ∧ i ≤ r2 ∧ Hid (∃ R' : List (Int × Int), R'.length = R.length ∧ (∀ x ∈ R'.take i, I64ok x.1 ∧ I64ok x.2) ∧ wq.ownsRow 0 63 2 (.slice (some ⟨br, 0, none⟩) (r2 + 2) r3) (r2 + 2) (O2 (R' ++ M2))) ∧ Hid (Chs (fun b => b = br) W wq)) (fun y _ => r2 - (intOf y).toNat)
  case atStart => exact ⟨0, rfl, by omega, ⟨R, rfl, by simp, row_kept HRR.out (fun b hb => HB.out.block b (HRR.out.lt b hb).2)⟩, Chs.refl _ _⟩
  case round =>
    obtain ⟨i, rfl, hi, HI, HCq⟩ := hrel
    have hXq : BxN wr w.heap.size ⟨k, some ⟨br, 0, none⟩, r2, r3, a2, some ⟨bs, 0, none⟩, s2, s3, a4, a5, a6, a7, a8⟩ := (HCq.out.block _ hxl (by omega)).trans HX.out
    obtain ⟨o0, o1, o2, o3, o4, o5, o6, o7, o8⟩ := nine' hXq
    by_cases hil : i < r2
    · have b1 : decide ((i : Int) < (r2 : Int)) = true := by simp; omega
      have b2 : (i : Int) < (r2 : Int) := by omega
      have ad1 : IntKind.i64.wrap ((i : Int) + 1) = (i : Int) + 1 := by simp [IntKind.wrap, IntKind.bits, IntKind.signed]; omega
      have ml : IntKind.i64.wrap (3 * (i : Int)) = 3 * (i : Int) := by simp [IntKind.wrap, IntKind.bits, IntKind.signed]; omega
      have ad2 : IntKind.i64.wrap (1000 + 3 * (i : Int)) = 1000 + 3 * (i : Int) := by simp [IntKind.wrap, IntKind.bits, IntKind.signed]; omega
      obtain ⟨R', hl', hk', hrow⟩ := HI.out
      have ht := row_there4 hrow (j := i * 2) (m := 2) (by omega)
      have hset := row_setC (row_setC hrow (i * 2) (.int .i64 (1000 + 3 * (i : Int)))) (i * 2 + 1) (.int .i64 (1000 + 3 * (i : Int)))
      rw [O2_set, List.set_append_left _ _ (by rw [hl', ← HRL.out]; exact hil)] at hset
      have HSET := hid hset
      have HLL := hid hl'
      have HKK := hid hk'
      clear hrow hset hl' hk' HI hXq
      go_wp2_with ((with_reducible refine store53 rfl (.tmp 21) (.tmp 20) rfl br i (1000 + 3 * (i : Int)) (1000 + 3 * (i : Int)) ?_ ?_ ht ?_); (rfl); (rfl))
      refine ⟨⟨i + 1, by push_cast; rfl, by omega, ⟨R'.set i (1000 + 3 * (i : Int), 1000 + 3 * (i : Int)), by rw [List.length_set]; exact HLL.out, fun x hx => ?_, HSET.out⟩, (HCq.out.set rfl _).set rfl _⟩, by simp [intOf]; omega⟩
      have hlt : i < R'.length := by rw [HLL.out, ← HRL.out]; exact hil
      rw [List.take_succ_eq_append_getElem (by simpa using hlt), List.take_set_of_le (Nat.le_refl _)] at hx
      rcases List.mem_append.1 hx with h | h
      · exact HKK.out x h
      · simp at h
        subst h
        exact ⟨⟨by show _ ≤ _; omega, by show _ ≤ _; omega⟩, ⟨by show _ ≤ _; omega, by show _ ≤ _; omega⟩⟩
    · have b1 : decide ((i : Int) < (r2 : Int)) = false := by simp; omega
      obtain rfl : i = r2 := by omega
      have HRR' : Hid (∃ R' : List (Int × Int), R'.length = R.length ∧ (∀ x ∈ R', I64ok x.1 ∧ I64ok x.2) ∧ wr.ownsRow 0 63 2 (.slice (some ⟨br, 0, none⟩) (i + 2) r3) (i + 2) (O2 (R' ++ M2))) := by
        obtain ⟨R', h1, h2, h3⟩ := HI.out
        rw [List.take_of_length_le (by rw [h1, ← HRL.out]; exact Nat.le_refl _)] at h2
        exact ⟨R', h1, h2, h3⟩
      have HSR' : Hid (wr.ownsRow 0 25 9 (.slice (some ⟨bs, 0, none⟩) (s2 + 2) s3) (s2 + 2) (((List.range s2).map ND ++ [mk7 (-77), mk7 (-78)]).flatMap Nv.cs)) := by
        have h1 : wr.heap[bs]? = w.heap[bs]? := (HCq.out.block bs (by omega) (by omega)).trans (HB.out.block bs hls)
        have h2 := row_kept HSR.out (w' := wr) (fun b hb => by cases hb; exact h1)
        exact h2
      have HCW : Hid (Chs (fun b => b = br) w wr) := (Chs.of_below (A := fun b => b = br) HB.out).trans HCq.out (fun b h => h) (fun b h => h)
      have HTW' : Hid (∀ j (hj : j < ts.length), TL wr (ND j) ts[j] (AS j)) := fun j hj => (HTW.out j hj).kept fun b hb => HCW.out.block b ((HTW.out j hj).low b hb) (HD3.out j b hj hb).1
      have hwl : W.heap.size ≤ wr.heap.size := HCq.out.size
      clear HI hXq
      go_wp2_with fail
      clear b1
      obtain ⟨V, hV⟩ : ∃ V, V = wr := ⟨_, rfl⟩
      rw [← hV] at HRR' HSR' HCW HTW' hwl HCq ⊢
      clear hV
      go_loopw [3] (fun y wq => ∃ n : Nat, y = .int .i64 (n : Int) ∧ n ≤ s2 ∧ Hid (∃ (ND' : Nat → Nv) (us : List Tn), us.length = ts.length ∧ wq.ownsRow 0 25 9 (.slice (some ⟨bs, 0, none⟩) (s2 + 2) s3) (s2 + 2) (((List.range s2).map ND' ++ [mk7 (-77), mk7 (-78)]).flatMap Nv.cs) ∧ (∀ j (hj : j < us.length), TL wq (ND' j) us[j] (AS j)) ∧ (∀ j (h1 : j < ts.length) (h2 : j < us.length), us[j].nodes = ts[j].nodes ∧ us[j].small = true) ∧ (∀ j, n ≤ j → ND' j = ND j)) ∧ Hid (∀ j b, n ≤ j → j < ts.length → AS j b → wq.heap[b]? = w0.heap[b]?) ∧ Hid (Chs (fun b => b = bs ∨ ∃ j, j < ts.length ∧ AS j b) V wq)) (fun y _ => s2 - (intOf y).toNat)
      case atStart =>
        refine ⟨0, rfl, by omega, ⟨ND, ts, rfl, HSR'.out, HTW'.out, fun j h1 h2 => ⟨rfl, smallL_get HSM.out.2 j h1⟩, fun j _ => rfl⟩, fun j b _ hj hb => ?_, Chs.refl _ _⟩
        exact (HCW.out.block b ((HTW.out j hj).low b hb) (HD3.out j b hj hb).1).trans (HWW.out j b hj hb)
      case round =>
        obtain ⟨n, rfl, hn, HST, HAW, HCq2⟩ := hrel
        have hxne : ¬ (w.heap.size = bs ∨ ∃ j, j < ts.length ∧ AS j w.heap.size) := by
          rintro (h | ⟨j, hj, h⟩)
          · omega
          · have := (HTW.out j hj).low _ h; omega
        have hXq : BxN wr w.heap.size ⟨k, some ⟨br, 0, none⟩, i, r3, a2, some ⟨bs, 0, none⟩, s2, s3, a4, a5, a6, a7, a8⟩ := (HCq2.out.block _ (by omega) hxne).trans ((HCq.out.block _ hxl (by omega)).trans HX.out)
        obtain ⟨o0, o1, o2, o3, o4, o5, o6, o7, o8⟩ := nine' hXq
        have hVl : V.heap.size ≤ wr.heap.size := HCq2.out.size
        by_cases hnl : n < s2
        · have b1 : decide ((n : Int) < (s2 : Int)) = true := by simp; omega
          have b2 : (n : Int) < (s2 : Int) := by omega
          have hlt : n < ts.length := by rw [← HL.out]; exact hnl
          have ad1 : IntKind.i64.wrap ((n : Int) + 1) = (n : Int) + 1 := by simp [IntKind.wrap, IntKind.bits, IntKind.signed]; omega
          obtain ⟨ND', us, hul, hrow, hTL, hno', hsame⟩ := HST.out
          have h9 : ∀ V' : World, V'.heap[bs]? = wr.heap[bs]? → N9 V' bs 0 n (ND n) ∧ V'.frozen? ⟨bs, n * 9 + 2, none⟩ = false := fun V' hV' => by
            have hr := row_kept hrow (w' := V') (fun b hb => by cases hb; exact hV')
            have c : ∀ q, q < 9 → V'.cell? ⟨bs, 0 + n * 9 + q, none⟩ = (Nv.cs (ND n))[q]? := fun q hq => by
              rw [Nat.zero_add, hr.cellAt (n * 9 + q) (by omega), flat9 _ n q (by simp; omega) hq, List.getElem_append_left (by simpa using hnl)]
              simp [hsame n (Nat.le_refl _)]
            exact ⟨⟨c 0 (by omega), c 1 (by omega), c 2 (by omega), c 3 (by omega), c 4 (by omega), c 5 (by omega), c 6 (by omega), c 7 (by omega), c 8 (by omega)⟩, hr.frozenAt _⟩
          obtain ⟨⟨n0, n1, n2, n3, n4, n5, n6, n7, n8⟩, _⟩ := h9 wr rfl
          simp only [Nat.zero_add] at n0 n1 n2 n3 n4 n5 n6 n7 n8
          have HC := HIH.out n hlt wr (fun b hb => HAW.out n b (Nat.le_refl _) hlt hb)
          obtain ⟨P, hP⟩ : ∃ P, P = ND n := ⟨_, rfl⟩
          have hPk : ∀ V' : World, V'.heap[bs]? = wr.heap[bs]? → V'.cell? ⟨bs, n * 9, none⟩ = some (.int .i64 P.k) ∧ V'.cell? ⟨bs, n * 9 + 2, none⟩ = some (.int .i64 P.a2) ∧ V'.frozen? ⟨bs, n * 9 + 2, none⟩ = false := fun V' hV' => by
            have h := h9 V' hV'
            rw [hP]
            refine ⟨?_, ?_, h.2⟩
            · have := h.1.1; simpa using this
            · have := h.1.2.2.1; simpa using this
          rw [← hP] at HC n0 n1 n2 n3 n4 n5 n6 n7 n8
          have HPK := hid hPk
          have HPE := hid hP
          have HUL := hid hul
          have HRW := hid hrow
          have HTL := hid hTL
          have HNO := hid hno'
          have HSA := hid hsame
          have hbsn : ¬ AS n bs := fun h => (HD3.out n bs hlt h).2 rfl
          have hbsl : bs < wr.heap.size := (hrow.lt bs rfl).2
          have hxn : ¬ AS n w.heap.size := fun h => hxne (.inr ⟨n, hlt, h⟩)
          have hxr : w.heap.size < wr.heap.size := by omega
          clear hul hrow hTL hno' hsame h9 hPk hP HST hxne
          have fin : ∀ (w2 w3 : World) (t' : Tn) (M : Nv) (tM : Tn), Chs (AS n) wr w2 → TL w3 M tM (AS n) → tM.nodes = ts[n].nodes → tM.small = true → (∀ b, b ≠ bs → w3.heap[b]? = w2.heap[b]?) → w3.heap.size = w2.heap.size → w3.os = w2.os → w3.tape = w2.tape → w3.output = w2.output → w3.ownsRow 0 25 9 (.slice (some ⟨bs, 0, none⟩) (s2 + 2) s3) (s2 + 2) (((List.range s2).map (fun j => if j = n then M else ND' j) ++ [mk7 (-77), mk7 (-78)]).flatMap Nv.cs) →
              (∃ (ND'' : Nat → Nv) (us' : List Tn), us'.length = ts.length ∧ w3.ownsRow 0 25 9 (.slice (some ⟨bs, 0, none⟩) (s2 + 2) s3) (s2 + 2) (((List.range s2).map ND'' ++ [mk7 (-77), mk7 (-78)]).flatMap Nv.cs) ∧ (∀ j (hj : j < us'.length), TL w3 (ND'' j) us'[j] (AS j)) ∧ (∀ j (h1 : j < ts.length) (h2 : j < us'.length), us'[j].nodes = ts[j].nodes ∧ us'[j].small = true) ∧ (∀ j, n + 1 ≤ j → ND'' j = ND j)) ∧ (∀ j b, n + 1 ≤ j → j < ts.length → AS j b → w3.heap[b]? = w0.heap[b]?) ∧ Chs (fun b => b = bs ∨ ∃ j, j < ts.length ∧ AS j b) V w3 := by
            intro w2 w3 t' M tM hC2 hM hM1 hM2 hk3 hs3 ho3 ht3 hp3 hrow3
            have hoth : ∀ j b, j < ts.length → j ≠ n → AS j b → b < wr.heap.size → w3.heap[b]? = wr.heap[b]? := fun j b hj hjn hb hbl => (hk3 b (HD3.out j b hj hb).2).trans (hC2.block b hbl (fun h => HD1.out j n b hj hlt hjn hb h))
            refine ⟨⟨fun j => if j = n then M else ND' j, us.set n tM, by rw [List.length_set]; exact HUL.out, hrow3, fun j hj => ?_, fun j h1 h2 => ?_, fun j hj => ?_⟩, fun j b hj hjl hb => ?_, ?_⟩
            · have hju : j < us.length := by simpa using hj
              by_cases e : j = n
              · subst e; simpa using hM
              · show TL w3 (if j = n then M else ND' j) _ _
                rw [if_neg e, List.getElem_set_ne (fun h => e h.symm)]
                exact (HTL.out j hju).kept fun b hb => hoth j b (by rw [← HUL.out]; exact hju) e hb ((HTL.out j hju).low b hb)
            · by_cases e : j = n
              · subst e; simp only [List.getElem_set_self]; exact ⟨hM1, hM2⟩
              · rw [List.getElem_set_ne (fun h => e h.symm)]
                exact HNO.out j h1 (by simpa using h2)
            · show (if j = n then M else ND' j) = ND j
              rw [if_neg (by omega)]; exact HSA.out j (by omega)
            · have h0 := HAW.out j b (by omega) hjl hb
              have hbl : b < wr.heap.size := by
                have h1 := (HTL.out j (by rw [HUL.out]; exact hjl)).low b hb
                exact h1
              exact (hoth j b hjl (by omega) hb hbl).trans h0
            · have h2 : Chs (fun b => b = bs ∨ ∃ j, j < ts.length ∧ AS j b) V w2 := HCq2.out.trans hC2 (fun b h => h) (fun b h => .inr ⟨n, hlt, h⟩)
              exact ⟨ho3.trans h2.os, ht3.trans h2.tape, hp3.trans h2.output, by rw [hs3]; exact h2.size, fun b hb hn => (hk3 b (fun e => hn (.inl e))).trans (h2.block b hb hn)⟩
          have HFIN := hid fin
          clear fin
          by_cases k3 : P.k = 3
          · have k3' : (P.k == 3) = true := by simpa using k3
            clear k3
            go_wp2_with (first | (go_at_call 17; (with_reducible refine HC.mono ?_); rintro e w2 ⟨rfl, ⟨t', hT', hN', hS'⟩, hC2⟩; obtain ⟨p0, p2, pf⟩ := HPK.out w2 (hC2.block bs hbsl hbsn); clear o0 o1 o2 o3 o4 o5 o6 o7 o8 n0 n1 n2 n3 n4 n5 n6 n7 n8; obtain ⟨o0, o1, o2, o3, o4, o5, o6, o7, o8⟩ := nine' ((hC2.block _ hxr hxn).trans hXq); have HT2 := hid hT'; have HN2 := hid hN'; have HS2 := hid hS'; have HC2 := hid hC2; clear hT' hN' hS' hC2 HC))
            have hrow3 : (w2.setCell ⟨bs, n * 9 + 2, none⟩ (.int .i64 2)).ownsRow 0 25 9 (.slice (some ⟨bs, 0, none⟩) (s2 + 2) s3) (s2 + 2) (((List.range s2).map (fun j => if j = n then P.setA 2 else ND' j) ++ [mk7 (-77), mk7 (-78)]).flatMap Nv.cs) := by
              have h := row_setC (row_kept HRW.out (w' := w2) (fun b hb => by cases hb; exact HC2.out.block bs hbsl hbsn)) (n * 9 + 2) (.int .i64 2)
              rw [flat_setA _ n (by simp; omega)] at h
              have e : ((List.range s2).map ND' ++ [mk7 (-77), mk7 (-78)])[n]'(by simp; omega) = P := by
                rw [List.getElem_append_left (by simpa using hnl)]
                simp [HSA.out n (Nat.le_refl _), HPE.out]
              rw [e, map_set_if s2 n hnl] at h
              exact h
            have hM : TL (w2.setCell ⟨bs, n * 9 + 2, none⟩ (.int .i64 2)) (P.setA 2) (t'.setA 2) (AS n) := (HT2.out.setA 2 (by decide)).kept fun b hb => Below.heap_setCell _ _ _ _ (by show b ≠ bs; exact (HD3.out n b hlt hb).2)
            obtain ⟨h1, h2, h3⟩ := HFIN.out w2 _ t' _ _ HC2.out hM ((t'.setA_nodes 2).1.trans HN2.out) ((t'.setA_nodes 2).2.trans HS2.out) (fun b hb => Below.heap_setCell _ _ _ _ hb) (by simp [World.setCell]) rfl rfl rfl hrow3
            exact ⟨⟨n + 1, by push_cast; rfl, by omega, h1, h2, h3⟩, by simp [intOf]; omega⟩
          · have k3' : (P.k == 3) = false := by simpa using k3
            clear k3
            go_wp2_with (first | (go_at_call 17; (with_reducible refine HC.mono ?_); rintro e w2 ⟨rfl, ⟨t', hT', hN', hS'⟩, hC2⟩; obtain ⟨p0, p2, pf⟩ := HPK.out w2 (hC2.block bs hbsl hbsn); clear o0 o1 o2 o3 o4 o5 o6 o7 o8 n0 n1 n2 n3 n4 n5 n6 n7 n8; obtain ⟨o0, o1, o2, o3, o4, o5, o6, o7, o8⟩ := nine' ((hC2.block _ hxr hxn).trans hXq); have HT2 := hid hT'; have HN2 := hid hN'; have HS2 := hid hS'; have HC2 := hid hC2; clear hT' hN' hS' hC2 HC))
            have hrow3 : w2.ownsRow 0 25 9 (.slice (some ⟨bs, 0, none⟩) (s2 + 2) s3) (s2 + 2) (((List.range s2).map (fun j => if j = n then P else ND' j) ++ [mk7 (-77), mk7 (-78)]).flatMap Nv.cs) := by
              have h := row_kept HRW.out (w' := w2) (fun b hb => by cases hb; exact HC2.out.block bs hbsl hbsn)
              have e : (fun j => if j = n then P else ND' j) = ND' := by funext j; by_cases e : j = n; (subst e; simp [HSA.out j (Nat.le_refl _), HPE.out]); simp [e]
              rw [e]; exact h
            obtain ⟨h1, h2, h3⟩ := HFIN.out w2 w2 t' _ _ HC2.out HT2.out HN2.out HS2.out (fun b hb => rfl) rfl rfl rfl rfl hrow3
            exact ⟨⟨n + 1, by push_cast; rfl, by omega, h1, h2, h3⟩, by simp [intOf]; omega⟩
        · have b1 : decide ((n : Int) < (s2 : Int)) = false := by simp; omega
          obtain rfl : n = s2 := by omega
          clear hxne
          go_wp2
          go_end0
          obtain ⟨ND', us, hul, hrow, hTL, hno', hsame⟩ := HST.out
          obtain ⟨R', h1, h2, h3⟩ := HRR'.out
          have hnl := nodesL_eq ts us hul.symm (fun j g1 g2 => hno' j g1 g2)
          have hRk : wr.heap[br]? = V.heap[br]? := HCq2.out.block br (by have := (h3.lt br rfl).2; exact this) (by
            rintro (h | ⟨j, hj, h⟩)
            · exact hne h
            · exact (HD3.out j br hj h).1 rfl)
          have hT0 := TL.mk (w := wr) (N := ⟨k, some ⟨br, 0, none⟩, i, r3, a2, some ⟨bs, 0, none⟩, n, s3, a4, a5, a6, a7, a8⟩) (R := R') (ts := us) (ND := ND') (AS := AS) HOK.out h2 (by rw [h1]; exact HRL.out) (by rw [hul]; exact HL.out) (by rw [h1, ← HRL.out]; exact row_kept h3 (fun b hb => by cases hb; exact hRk)) (by rw [hul, ← HL.out]; exact hrow) hTL (fun p q b hp hq => HD1.out p q b (by omega) (by omega)) HD2.out (fun p b hp => HDD.out p b (by omega))
          rw [hul] at hT0
          refine ⟨rfl, ⟨_, hT0, ?_, ?_⟩, ?_⟩
          · simp only [Tn.nodes]; omega
          · simp only [Tn.small, hnl.2, Bool.and_true, decide_eq_true_eq, h1]
            exact HSM.out.1
          · refine ⟨HCq2.out.os.trans HCW.out.os, HCq2.out.tape.trans HCW.out.tape, HCq2.out.output.trans HCW.out.output, Nat.le_trans HCW.out.size HCq2.out.size, fun b hb hn => ?_⟩
            refine (HCq2.out.block b (by have := HCW.out.size; omega) ?_).trans (HCW.out.block b hb (fun e => hn (.inl (by rw [e]; rfl))))
            rintro (h | ⟨j, hj, h⟩)
            · exact hn (.inr (.inl (by rw [h]; rfl)))
            · exact hn (.inr (.inr ⟨j, hj, h⟩))
end Go.Proofs.Ytdidopgenhpakaa
/- HELPERS: all lists of trees that came out, in memory; a tree's lists are added. -/
namespace Go.Proofs.Ytdidopgenhpakaa
open Go.RowKit
set_option linter.unusedVariables false
set_option linter.unusedSimpArgs false
mutual
/-- no list of ranges is longer than a class may be -/
def Tn.few : Tn → Bool
  | .mk _ R _ s _ _ _ _ _ => decide (R.length ≤ 5000) && fewL s
def fewL : List Tn → Bool
  | [] => true
  | t :: ts => t.few && fewL ts
end
theorem fewL_get {ts : List Tn} (h : fewL ts = true) : ∀ (i : Nat) (hi : i < ts.length), ts[i].few = true := by
  induction ts with
  | nil => intro i hi; simp at hi
  | cons t ts ih =>
    simp only [fewL, Bool.and_eq_true] at h
    intro i hi
    cases i with
    | zero => exact h.1
    | succ i => exact ih h.2 i (by simpa using hi)
mutual
theorem few_of_fine : ∀ t : Tn, t.fine = true → t.few = true
  | .mk k R a s mn mx lz ix nm, h => by
    simp only [Tn.fine, Bool.and_eq_true] at h
    simp only [Tn.few, Bool.and_eq_true, decide_eq_true_eq]
    have FN := fine_node h.1
    refine ⟨?_, fewL_of_fine s h.2⟩
    by_cases h2 : k = 2
    · exact rightB_len (FN.cls h2)
    · have := FN.rng h2; omega
theorem fewL_of_fine : ∀ ts : List Tn, fineL ts = true → fewL ts = true
  | [], _ => rfl
  | t :: ts, h => by
    simp only [fineL, Bool.and_eq_true] at h
    simp only [fewL, Bool.and_eq_true]
    exact ⟨few_of_fine t h.1, fewL_of_fine ts h.2⟩
end
/-- what has a block of its own -/
inductive Ky where
  | l
  | a
  | b
  | r (i : Nat)
  | s (i : Nat)
def Ky.ok (n : Nat) : Ky → Prop
  | .r i => i < n
  | .s i => i < n
  | _ => True
def bkO (lb : Nat) (v0 v1 : Value) (RV SV : Nat → Value) : Ky → Option Nat
  | .l => some lb
  | .a => v0.ownBlock
  | .b => v1.ownBlock
  | .r i => (RV i).ownBlock
  | .s i => (SV i).ownBlock
/-- the lists, each in a block by itself -/
structure ST (w : World) (lb n : Nat) (v0 v1 : Value) (RV SV : Nat → Value) (ln lm : Nat → Nat) (XR XS : Nat → List Value) (Bd : Nat) : Prop where
  ob : w.heap[lb]? = some (.cells #[v0, v1] 36 (0, 0))
  r0 : w.ownsRow 0 22 1 v0 n ((List.range n).map RV)
  r1 : w.ownsRow 0 23 1 v1 n ((List.range n).map SV)
  lr : ∀ i, i < n → w.ownsRow 0 63 2 (RV i) (ln i) (XR i)
  ls : ∀ i, i < n → w.ownsRow 0 25 9 (SV i) (lm i) (XS i)
  dd : ∀ p q b, p.ok n → q.ok n → bkO lb v0 v1 RV SV p = some b → bkO lb v0 v1 RV SV q = some b → p = q
  bd : ∀ i, i < n → ln i ≤ Bd ∧ lm i ≤ Bd
theorem ST.low {w : World} {lb n : Nat} {v0 v1 : Value} {RV SV : Nat → Value} {ln lm : Nat → Nat} {XR XS : Nat → List Value} {Bd : Nat} (h : ST w lb n v0 v1 RV SV ln lm XR XS Bd) : ∀ p b, p.ok n → bkO lb v0 v1 RV SV p = some b → b < w.heap.size := by
  intro p b hp hb
  cases p with
  | l => simp [bkO] at hb; subst hb; exact (Array.getElem?_eq_some_iff.1 h.ob).1
  | a => exact (h.r0.lt b hb).2
  | b => exact (h.r1.lt b hb).2
  | r i => exact ((h.lr i hp).lt b hb).2
  | s i => exact ((h.ls i hp).lt b hb).2
theorem ST.kept {w w' : World} {lb n : Nat} {v0 v1 : Value} {RV SV : Nat → Value} {ln lm : Nat → Nat} {XR XS : Nat → List Value} {Bd : Nat} (h : ST w lb n v0 v1 RV SV ln lm XR XS Bd) (hk : ∀ p b, p.ok n → bkO lb v0 v1 RV SV p = some b → w'.heap[b]? = w.heap[b]?) : ST w' lb n v0 v1 RV SV ln lm XR XS Bd :=
  ⟨(hk .l lb trivial rfl).trans h.ob, row_kept h.r0 (fun b hb => hk .a b trivial hb), row_kept h.r1 (fun b hb => hk .b b trivial hb), fun i hi => row_kept (h.lr i hi) (fun b hb => hk (.r i) b hi hb), fun i hi => row_kept (h.ls i hi) (fun b hb => hk (.s i) b hi hb), h.dd, h.bd⟩
theorem step_append_row {P : Program} {ops : Array Oper} {o : Oper} {a : Act} {w : World} {K : Act → World → Prop} {Q : Exit → Act → World → Prop} {E : Prop}
    (hg : o.guard = none) (s x : Operand) (t : TypeId) (hop : o.op = Op.call { callee := Callee.builtin Builtin.append, args := #[s, x], argTypes := #[t, t] })
    (base : Nat) (e : TypeId) (i : TypeInfo) (z : Value) (size bytes : Nat) (h1 : P.underlying t = some (.slice e)) (h2 : P.info? e = some i) (h3 : i.zero = some z) (h4 : i.size = size) (h5 : i.bytes = bytes) (h6 : z.cells.size = size) (h7 : 0 < size)
    (v : Value) (n : Nat) (xs : List Value) (hs : a.eval s = v) (hown : w.ownsRow base e size v n xs)
    (b m c : Nat) (arr : Array Value) (te : TypeId) (hx : a.eval x = .slice (some ⟨b, 0, none⟩) m c) (hb' : w.heap[b]? = some (.cells arr te (0, 0))) (hn : arr.size = m * size) (hm : 0 < m) (h1c : ∀ u ∈ arr.toList, u.oneCell' = true)
    (b1 : n + m ≤ maxLen) (b2 : (n + m) * bytes ≤ 140737488355328) (hb : base ≤ w.heap.size)
    (hK : ∀ v' w', Hid (w'.ownsRow base e size v' (n + m) (xs ++ arr.toList)) → Hid (Frm w w' v v') → K (a.put o.dst v') w') :
    if Region.wanted o (yielded ops a.tmps) = true then Oper.wp P o a w K Q else E :=
  step_append_moveN hg s x t hop base e i z size bytes h1 h2 h3 h4 h5 h6 h7 v n xs hs hown ⟨b, 0, none⟩ m c arr.toList hx (by simpa using hn) hm (fun j u hj => by rw [Addr.add_mid, Nat.zero_add, Joins.cell_of_block hb']; simpa using hj) h1c b1 b2 hb (fun v' w' r1 r2 => hK v' w' r1 r2.frm)
theorem info22 : (Try.prog.info? 22).map (fun i => (i.zero, i.size, i.bytes)) = some (some (.slice none 0 0), 1, 24) := by kernel_rfl
theorem info23 : (Try.prog.info? 23).map (fun i => (i.zero, i.size, i.bytes)) = some (some (.slice none 0 0), 1, 24) := by kernel_rfl
theorem map_snoc (i : Nat) (f : Nat → Value) (v : Value) : (List.range (i + 1)).map (fun j => if j = i then v else f j) = (List.range i).map f ++ [v] := by
  rw [List.range_succ, List.map_append]
  congr 1
  · apply List.map_congr_left
    intro j hj
    rw [if_neg (by have := List.mem_range.1 hj; omega)]
  · simp
theorem nodesL_app (a b : List Tn) : nodesL (a ++ b) = nodesL a + nodesL b := by
  induction a with
  | nil => simp [nodesL]
  | cons x a ih => simp only [List.cons_append, nodesL, ih]; omega
set_option maxRecDepth 100000 in
set_option maxHeartbeats 8000000 in
theorem add17 {w0 : World} {N : Nv} {t : Tn} {A : Nat → Prop} (h : TO w0 N t A) : ∀ (w : World) (lb n : Nat) (v0 v1 : Value) (RV SV : Nat → Value) (ln lm : Nat → Nat) (XR XS : Nat → List Value), (∀ b, A b → w.heap[b]? = w0.heap[b]?) → ST w lb n v0 v1 RV SV ln lm XR XS 1000000 → (∀ p b, p.ok n → bkO lb v0 v1 RV SV p = some b → ¬ A b) → n + t.nodes ≤ 1000000 → t.few = true →
    Calls Try.prog 34 #[pt lb, N.v] w fun e w' => e = .returned (.tuple #[]) ∧ (∃ v0' v1' RV' SV' ln' lm' XR' XS', ST w' lb (n + t.nodes) v0' v1' RV' SV' ln' lm' XR' XS' 1000000 ∧ (∀ p b, p.ok (n + t.nodes) → bkO lb v0' v1' RV' SV' p = some b → (∃ q, q.ok n ∧ bkO lb v0 v1 RV SV q = some b) ∨ A b ∨ w.heap.size ≤ b) ∧ (∀ b, v0'.ownBlock = some b → v0.ownBlock = some b ∨ w.heap.size ≤ b) ∧ (∀ b, v1'.ownBlock = some b → v1.ownBlock = some b ∨ w.heap.size ≤ b)) ∧
      Chs (fun b => bkO lb v0 v1 RV SV .l = some b ∨ bkO lb v0 v1 RV SV .a = some b ∨ bkO lb v0 v1 RV SV .b = some b) w w' := by
  induction h with
  | @mk N R ts ND AS ok hRk rr sr hk d1 d2 d3 ih =>
  intro w lb n v0 v1 RV SV ln lm XR XS hw hST hdis hno hf
  simp only [Tn.nodes] at hno ⊢
  simp only [Tn.few, Bool.and_eq_true, decide_eq_true_eq] at hf
  have HFG := hid (fewL_get hf.2)
  have hR5 : R.length ≤ 5000 := hf.1
  clear hf
  have hlen : ts.length ≤ 1000000 := by have := nodes_ge ts; omega
  have hrr := row_kept rr (w' := w) (fun b hb => hw b (.inl hb))
  have hsr := row_kept sr (w' := w) (fun b hb => hw b (.inr (.inl hb)))
  have e1 := row_len hrr
  have e2 := row_len hsr
  obtain ⟨k, r1, r2, r3, a2, s1, s2, s3, a4, a5, a6, a7, a8⟩ := N
  dsimp only at hrr hsr e1 e2 d2 d3 hw hdis
  obtain ⟨i2, hi2, hz20, hz21, hz22⟩ := info_parts info22
  obtain ⟨i3, hi3, hz30, hz31, hz32⟩ := info_parts info23
  obtain ⟨a0, c0, hv0, hc0⟩ := row_shape hST.r0
  obtain ⟨a1, c1, hv1, hc1⟩ := row_shape hST.r1
  subst hv0 hv1
  have hlbl : lb < w.heap.size := (Array.getElem?_eq_some_iff.1 hST.ob).1
  have HST := hid hST
  have HRR := hid hrr
  have HSR := hid hsr
  have HDIS := hid hdis
  have HE1 := hid e1
  have HE2 := hid e2
  have HD1 := hid d1
  have HD2 := hid d2
  have HD3 := hid d3
  have HK := hid hk
  have HIH := hid ih
  have HWA := hid hw
  have HNO := hid hno
  clear hST hrr hsr hdis hc0 hc1 e1 e2 d1 d2 d3 hk ih hw rr sr ok hRk
  go_enter Try.func34, Try.ntmps34
  go_upto_region 1 with fail
  obtain ⟨W, hW⟩ : ∃ W, W = w.alloc (.cells #[.int .i64 k, .slice r1 r2 r3, .int .i64 a2, .slice s1 s2 s3, .int .i64 a4, .int .i64 a5, .bool a6, .int .i64 a7, .string a8] 25) := ⟨_, rfl⟩
  rw [← hW]
  have HX : Hid (BxN W w.heap.size ⟨k, r1, r2, r3, a2, s1, s2, s3, a4, a5, a6, a7, a8⟩) := by rw [hW]; exact heap_alloc_new w _
  have hbW : Below w.heap.size w W := by rw [hW]; exact Joins.below_alloc1 w _
  have hsW : W.heap.size = w.heap.size + 1 := by rw [hW]; simp
  have HBW := hid hbW
  have HSW := hid hsW
  have hSTW : ST W lb n (.slice a0 n c0) (.slice a1 n c1) RV SV ln lm XR XS 1000000 := HST.out.kept fun p b hp hb => hbW.block b (HST.out.low p b hp hb)
  have HSTW := hid hSTW
  obtain ⟨x, hx⟩ : ∃ x, x = w.heap.size := ⟨_, rfl⟩
  rw [← hx] at HX hsW ⊢
  have HXE := hid hx
  have hlbW : lb < W.heap.size := by omega
  have hxW : x < W.heap.size := by omega
  have hlx : lb ≠ x := by omega
  clear hW hbW hx hsW
  go_cut [] from 5 (fun wx => ∃ a0' c0', Hid (wx.heap[lb]? = some (.cells #[.slice a0' (n + 1) c0', .slice a1 n c1] 36 (0, 0))) ∧ Hid (wx.ownsRow 0 22 1 (.slice a0' (n + 1) c0') (n + 1) ((List.range n).map RV ++ [.slice r1 r2 r3])) ∧ Hid (Chs (fun b => b = lb ∨ (Value.slice a0 n c0).ownBlock = some b) W wx) ∧ Hid (∀ b, (Value.slice a0' (n + 1) c0').ownBlock = some b → (Value.slice a0 n c0).ownBlock = some b ∨ W.heap.size ≤ b))
  case first =>
    obtain ⟨o0, o1, o2, o3, o4, o5, o6, o7, o8⟩ := nine' HX.out
    have l0 : W.cell? ⟨lb, 0, none⟩ = some (.slice a0 n c0) := Joins.cell_of_block hSTW.ob 0
    have HR0 : Hid ((W.drew.alloc (.cells #[.slice r1 r2 r3] 22)).ownsRow 0 22 1 (.slice a0 n c0) n ((List.range n).map RV)) := (hSTW.r0.drew).alloc _
    have hne : (Value.slice a0 n c0).ownBlock ≠ some lb := fun h => by have := hSTW.dd .a .l lb trivial trivial h rfl; cases this
    clear hSTW
    go_region_law (refine step_append_row rfl (.tmp 9) (.tmp 12) 33 rfl 0 22 i2 (.slice none 0 0) 1 24 Try.underlying33 hi2 hz20 hz21 hz22 rfl (by decide) (.slice a0 n c0) n ((List.range n).map RV) (by simp [Act.eval, Act.put]) (by exact HR0.out) W.heap.size 1 1 #[.slice r1 r2 r3] 22 (by simp [Act.eval, Act.put]) (by exact heap_alloc_new W.drew _) rfl (by decide) (by simp [Value.oneCell']) (by unfold maxLen; omega) (by omega) (by omega) ?_; intro v3 w3 ho3 hf3; obtain ⟨y1, y3, rfl, _⟩ := row_shape ho3.out; have hlb3 : w3.heap[lb]? = some (.cells #[.slice a0 n c0, .slice a1 n c1] 36 (0, 0)) := (hf3.out.block lb (by (try simp) <;> omega) hne).trans ((heap_alloc_old _ _ (by (try simp) <;> omega)).trans HSTW.out.ob); have l3 : w3.cell? ⟨lb, 0, none⟩ = some (.slice a0 n c0) := Joins.cell_of_block hlb3 0; have f3 := Joins.unfrozen_of_block hlb3 0; have HLB3 := hid hlb3; clear hlb3)
    all_goals go_wp2_with fail
    all_goals go_meet
    all_goals
      have hz3 : W.heap.size + 1 ≤ w3.heap.size := by have := hf3.out.size; simpa using this
      refine ⟨y1, y3, Joins.block_setCell (i := 0) HLB3.out _, ?_, ⟨hf3.out.os, hf3.out.tape, hf3.out.output, by simp [World.setCell]; omega, fun b hb hn => ?_⟩, fun b hb => ?_⟩
      · refine own_setCell ?_ (fun h => ?_)
        · exact ho3.out
        · rcases hf3.out.own _ h with h1 | h1
          · exact hne h1
          · simp at h1; omega
      · exact (Below.heap_setCell _ _ _ _ (fun e => hn (.inl e))).trans ((hf3.out.block b (by (try simp) <;> omega) (fun h => hn (.inr h))).trans (heap_alloc_old _ _ (by (try simp) <;> omega)))
      · rcases hf3.out.own b hb with h1 | h1
        · exact .inl h1
        · right; simp at h1; omega
  case rest =>
    clear hSTW
    obtain ⟨a0', c0', HL1, HR1, HC1, HO1⟩ := hcut
    obtain ⟨V1, rfl⟩ : ∃ V1, V1 = wc := ⟨_, rfl⟩
    have hlbc : lb < V1.heap.size := (Array.getElem?_eq_some_iff.1 HL1.out).1
    have hWc : W.heap.size ≤ V1.heap.size := HC1.out.size
    have hxa : (Value.slice a0 n c0).ownBlock ≠ some x := fun h => by have := HST.out.low .a x trivial h; have := HXE.out; omega
    have hxb : (Value.slice a1 n c1).ownBlock ≠ some x := fun h => by have := HST.out.low .b x trivial h; have := HXE.out; omega
    have HXc : Hid (BxN V1 x ⟨k, r1, r2, r3, a2, s1, s2, s3, a4, a5, a6, a7, a8⟩) := (HC1.out.block x hxW (by rintro (h | h); (exact hlx h.symm); (exact hxa h))).trans HX.out
    have hab : ∀ b, (Value.slice a0' (n + 1) c0').ownBlock = some b → (Value.slice a1 n c1).ownBlock ≠ some b := fun b h h' => by
      rcases HO1.out b h with h1 | h1
      · have := HSTW.out.dd .a .b b trivial trivial h1 h'; cases this
      · have := HSTW.out.low .b b trivial h'; omega
    have HAB := hid hab
    have HRB : Hid (V1.ownsRow 0 23 1 (.slice a1 n c1) n ((List.range n).map SV)) := row_kept HSTW.out.r1 (fun b hb => HC1.out.block b (HSTW.out.low .b b trivial hb) (by
      rintro (h | h)
      · have := HSTW.out.dd .b .l b trivial trivial hb (by rw [h]; rfl); cases this
      · have := HSTW.out.dd .a .b b trivial trivial h hb; cases this))
    clear hab
    go_upto_region 2 with fail
    go_cut [] from 5 (fun wx => ∃ a1' c1', Hid (wx.heap[lb]? = some (.cells #[.slice a0' (n + 1) c0', .slice a1' (n + 1) c1'] 36 (0, 0))) ∧ Hid (wx.ownsRow 0 23 1 (.slice a1' (n + 1) c1') (n + 1) ((List.range n).map SV ++ [.slice s1 s2 s3])) ∧ Hid (Chs (fun b => b = lb ∨ (Value.slice a1 n c1).ownBlock = some b) V1 wx) ∧ Hid (∀ b, (Value.slice a1' (n + 1) c1').ownBlock = some b → (Value.slice a1 n c1).ownBlock = some b ∨ V1.heap.size ≤ b))
    case first =>
      obtain ⟨o0, o1, o2, o3, o4, o5, o6, o7, o8⟩ := nine' HXc.out
      have l0 : V1.cell? ⟨lb, 1, none⟩ = some (.slice a1 n c1) := Joins.cell_of_block HL1.out 1
      have hxc : x < V1.heap.size := by omega
      have HR0 : Hid ((V1.drew.alloc (.cells #[.slice s1 s2 s3] 23)).ownsRow 0 23 1 (.slice a1 n c1) n ((List.range n).map SV)) := (HRB.out.drew).alloc _
      have hne : (Value.slice a1 n c1).ownBlock ≠ some lb := fun h => by have := HSTW.out.dd .b .l lb trivial trivial h rfl; cases this
      go_region_law (refine step_append_row rfl (.tmp 20) (.tmp 23) 34 rfl 0 23 i3 (.slice none 0 0) 1 24 Try.underlying34 hi3 hz30 hz31 hz32 rfl (by decide) (.slice a1 n c1) n ((List.range n).map SV) (by simp [Act.eval, Act.put]) (by exact HR0.out) V1.heap.size 1 1 #[.slice s1 s2 s3] 23 (by simp [Act.eval, Act.put]) (by exact heap_alloc_new V1.drew _) rfl (by decide) (by simp [Value.oneCell']) (by unfold maxLen; omega) (by omega) (by omega) ?_; intro v3 w3 ho3 hf3; obtain ⟨y1, y3, rfl, _⟩ := row_shape ho3.out; have hlb3 : w3.heap[lb]? = some (.cells #[.slice a0' (n + 1) c0', .slice a1 n c1] 36 (0, 0)) := (hf3.out.block lb (by (try simp) <;> omega) hne).trans ((heap_alloc_old _ _ (by (try simp) <;> omega)).trans HL1.out); have l3 : w3.cell? ⟨lb, 1, none⟩ = some (.slice a1 n c1) := Joins.cell_of_block hlb3 1; have f3 := Joins.unfrozen_of_block hlb3 1; have HLB3 := hid hlb3; clear hlb3)
      all_goals go_wp2_with fail
      all_goals go_meet
      all_goals
        have hz3 : V1.heap.size + 1 ≤ w3.heap.size := by have := hf3.out.size; simpa using this
        refine ⟨y1, y3, Joins.block_setCell (i := 1) HLB3.out _, ?_, ⟨hf3.out.os, hf3.out.tape, hf3.out.output, by simp [World.setCell]; omega, fun b hb hn => ?_⟩, fun b hb => ?_⟩
        · refine own_setCell ?_ (fun h => ?_)
          · exact ho3.out
          · rcases hf3.out.own _ h with h1 | h1
            · exact hne h1
            · simp at h1; omega
        · exact (Below.heap_setCell _ _ _ _ (fun e => hn (.inl e))).trans ((hf3.out.block b (by (try simp) <;> omega) (fun h => hn (.inr h))).trans (heap_alloc_old _ _ (by (try simp) <;> omega)))
        · rcases hf3.out.own b hb with h1 | h1
          · exact .inl h1
          · right; simp at h1; omega
    case rest =>
      obtain ⟨a1', c1', HL2, HR2, HC2, HO2⟩ := hcut
      have hV1c : V1.heap.size ≤ wc.heap.size := HC2.out.size
      have HNA : Hid (∀ b, (Value.slice a0' (n + 1) c0').ownBlock = some b → (Value.slice a0 n c0).ownBlock = some b ∨ x + 1 ≤ b) := fun b hb => (HO1.out b hb).imp id (fun h => by have := HSW.out; have := HXE.out; omega)
      have HNB : Hid (∀ b, (Value.slice a1' (n + 1) c1').ownBlock = some b → (Value.slice a1 n c1).ownBlock = some b ∨ x + 1 ≤ b) := fun b hb => (HO2.out b hb).imp id (fun h => by have := HSW.out; have := HXE.out; omega)
      have hkeep : ∀ b, b < x → bkO lb (.slice a0 n c0) (.slice a1 n c1) RV SV .l ≠ some b → bkO lb (.slice a0 n c0) (.slice a1 n c1) RV SV .a ≠ some b → bkO lb (.slice a0 n c0) (.slice a1 n c1) RV SV .b ≠ some b → wc.heap[b]? = w.heap[b]? := fun b hb h1 h2 h3 => by
        have hl : b ≠ lb := fun e => h1 (by rw [e]; rfl)
        have hbw : b < w.heap.size := by have := HXE.out; omega
        exact (HC2.out.block b (by have := HSW.out; have := HXE.out; omega) (by rintro (h | h); (exact hl h); (exact h3 h))).trans ((HC1.out.block b (by have := HSW.out; have := HXE.out; omega) (by rintro (h | h); (exact hl h); (exact h2 h))).trans (HBW.out.block b hbw))
      have hwlx : w.heap.size = x := HXE.out.symm
      have hAx : ∀ b, (Nv.rb ⟨k, r1, r2, r3, a2, s1, s2, s3, a4, a5, a6, a7, a8⟩ = some b ∨ Nv.sb ⟨k, r1, r2, r3, a2, s1, s2, s3, a4, a5, a6, a7, a8⟩ = some b ∨ ∃ i, i < ts.length ∧ AS i b) → b < x := fun b hb => by
        rcases hb with h | h | ⟨i, hi, h⟩
        · have := (HRR.out.lt b h).2; omega
        · have := (HSR.out.lt b h).2; omega
        · have h1 := (HK.out i hi).low b h
          have h2 := HWA.out b (.inr (.inr ⟨i, hi, h⟩))
          rw [Array.getElem?_eq_getElem h1] at h2
          have := (Array.getElem?_eq_some_iff.1 h2).1
          omega
      have hAn : ∀ b, (Nv.rb ⟨k, r1, r2, r3, a2, s1, s2, s3, a4, a5, a6, a7, a8⟩ = some b ∨ Nv.sb ⟨k, r1, r2, r3, a2, s1, s2, s3, a4, a5, a6, a7, a8⟩ = some b ∨ ∃ i, i < ts.length ∧ AS i b) → ∀ p, p.ok n → bkO lb (.slice a0 n c0) (.slice a1 n c1) RV SV p ≠ some b := fun b hb p hp h => HDIS.out p b hp h hb
      have hkA : ∀ b, (Nv.rb ⟨k, r1, r2, r3, a2, s1, s2, s3, a4, a5, a6, a7, a8⟩ = some b ∨ Nv.sb ⟨k, r1, r2, r3, a2, s1, s2, s3, a4, a5, a6, a7, a8⟩ = some b ∨ ∃ i, i < ts.length ∧ AS i b) → wc.heap[b]? = w.heap[b]? := fun b hb => hkeep b (hAx b hb) (hAn b hb .l trivial) (hAn b hb .a trivial) (hAn b hb .b trivial)
      have hlow1 : ∀ p b, p.ok n → bkO lb (.slice a0 n c0) (.slice a1 n c1) RV SV p = some b → b < x := fun p b hp h => by have := HST.out.low p b hp h; omega
      have hka : ∀ b, (Value.slice a0' (n + 1) c0').ownBlock = some b → wc.heap[b]? = V1.heap[b]? := fun b hb => HC2.out.block b (HR1.out.lt b hb).2 (by
        rintro (h | h)
        · rcases HO1.out b hb with h1 | h1
          · have := HST.out.dd .a .l b trivial trivial h1 (by rw [h]; rfl); cases this
          · omega
        · exact HAB.out b hb h)
      have hkey : ∀ p b, p.ok (n + 1) → bkO lb (.slice a0' (n + 1) c0') (.slice a1' (n + 1) c1') (fun j => if j = n then .slice r1 r2 r3 else RV j) (fun j => if j = n then .slice s1 s2 s3 else SV j) p = some b →
          (p.ok n ∧ bkO lb (.slice a0 n c0) (.slice a1 n c1) RV SV p = some b ∧ b < x) ∨ (p = .a ∧ x + 1 ≤ b ∧ b < V1.heap.size) ∨ (p = .b ∧ V1.heap.size ≤ b ∧ x + 1 ≤ b) ∨ (p = .r n ∧ Nv.rb ⟨k, r1, r2, r3, a2, s1, s2, s3, a4, a5, a6, a7, a8⟩ = some b) ∨ (p = .s n ∧ Nv.sb ⟨k, r1, r2, r3, a2, s1, s2, s3, a4, a5, a6, a7, a8⟩ = some b) := by
        intro p b hp hb
        cases p with
        | l => exact .inl ⟨trivial, hb, hlow1 .l b trivial hb⟩
        | a =>
          rcases HO1.out b hb with h | h
          · exact .inl ⟨trivial, h, hlow1 .a b trivial h⟩
          · exact .inr (.inl ⟨rfl, by have := HSW.out; omega, (HR1.out.lt b hb).2⟩)
        | b =>
          rcases HO2.out b hb with h | h
          · exact .inl ⟨trivial, h, hlow1 .b b trivial h⟩
          · exact .inr (.inr (.inl ⟨rfl, h, by have := HSW.out; omega⟩))
        | r i =>
          by_cases e : i = n
          · subst e
            simp only [bkO, if_pos] at hb
            exact .inr (.inr (.inr (.inl ⟨rfl, hb⟩)))
          · simp only [bkO, if_neg e] at hb
            have hi : i < n := by have : i < n + 1 := hp; omega
            exact .inl ⟨hi, hb, hlow1 (.r i) b hi hb⟩
        | s i =>
          by_cases e : i = n
          · subst e
            simp only [bkO, if_pos] at hb
            exact .inr (.inr (.inr (.inr ⟨rfl, hb⟩)))
          · simp only [bkO, if_neg e] at hb
            have hi : i < n := by have : i < n + 1 := hp; omega
            exact .inl ⟨hi, hb, hlow1 (.s i) b hi hb⟩
      have HST1 : Hid (ST wc lb (n + 1) (.slice a0' (n + 1) c0') (.slice a1' (n + 1) c1') (fun j => if j = n then .slice r1 r2 r3 else RV j) (fun j => if j = n then .slice s1 s2 s3 else SV j) (fun j => if j = n then R.length else ln j) (fun j => if j = n then ts.length else lm j) (fun j => if j = n then O2 R else XR j) (fun j => if j = n then ((List.range ts.length).map ND).flatMap Nv.cs else XS j) 1000000) := by
        refine ⟨HL2.out, ?_, ?_, fun i hi => ?_, fun i hi => ?_, fun p q b hp hq h1 h2 => ?_, fun i hi => ?_⟩
        · rw [map_snoc]; exact row_kept HR1.out hka
        · rw [map_snoc]; exact HR2.out
        · by_cases e : i = n
          · subst e; simp only [if_pos]; exact row_kept HRR.out (fun b hb => hkA b (.inl hb))
          · simp only [if_neg e]
            have hi' : i < n := by omega
            exact row_kept (HST.out.lr i hi') (fun b hb => hkeep b (hlow1 (.r i) b hi' hb) (fun h => by have := HST.out.dd .l (.r i) b trivial hi' h hb; cases this) (fun h => by have := HST.out.dd .a (.r i) b trivial hi' h hb; cases this) (fun h => by have := HST.out.dd .b (.r i) b trivial hi' h hb; cases this))
        · by_cases e : i = n
          · subst e; simp only [if_pos]; exact row_kept HSR.out (fun b hb => hkA b (.inr (.inl hb)))
          · simp only [if_neg e]
            have hi' : i < n := by omega
            exact row_kept (HST.out.ls i hi') (fun b hb => hkeep b (hlow1 (.s i) b hi' hb) (fun h => by have := HST.out.dd .l (.s i) b trivial hi' h hb; cases this) (fun h => by have := HST.out.dd .a (.s i) b trivial hi' h hb; cases this) (fun h => by have := HST.out.dd .b (.s i) b trivial hi' h hb; cases this))
        · rcases hkey p b hp h1 with ⟨u1, u2, u3⟩ | ⟨u1, u2, u3⟩ | ⟨u1, u2, u3⟩ | ⟨u1, u2⟩ | ⟨u1, u2⟩ <;> rcases hkey q b hq h2 with ⟨v1, v2, v3⟩ | ⟨v1, v2, v3⟩ | ⟨v1, v2, v3⟩ | ⟨v1, v2⟩ | ⟨v1, v2⟩ <;>
            first
              | omega
              | exact HST.out.dd p q b u1 v1 u2 v2
              | exact u1.trans v1.symm
              | exact absurd u2 (hAn b (.inl v2) p u1)
              | exact absurd u2 (hAn b (.inr (.inl v2)) p u1)
              | exact absurd v2 (hAn b (.inl u2) q v1)
              | exact absurd v2 (hAn b (.inr (.inl u2)) q v1)
              | exact absurd v2 (HD2.out b u2)
              | exact absurd u2 (HD2.out b v2)
              | (have := hAx b (.inl u2); omega)
              | (have := hAx b (.inr (.inl u2)); omega)
              | (have := hAx b (.inl v2); omega)
              | (have := hAx b (.inr (.inl v2)); omega)
        · by_cases e : i = n
          · subst e; simp only [if_pos]; exact ⟨by omega, hlen⟩
          · simp only [if_neg e]; exact HST.out.bd i (by omega)
      have HKEY := hid hkey
      have HAX := hid hAx
      have HKA := hid hkA
      have HKP := hid hkeep
      have HXd : Hid (BxN wc x ⟨k, r1, r2, r3, a2, s1, s2, s3, a4, a5, a6, a7, a8⟩) := (HC2.out.block x (by omega) (by rintro (h | h); (exact hlx h.symm); (exact hxb h))).trans HXc.out
      have hxc : x < wc.heap.size := by omega
      have HCH : Hid (Chs (fun b => bkO lb (.slice a0 n c0) (.slice a1 n c1) RV SV .l = some b ∨ bkO lb (.slice a0 n c0) (.slice a1 n c1) RV SV .a = some b ∨ bkO lb (.slice a0 n c0) (.slice a1 n c1) RV SV .b = some b) w wc) := ⟨HC2.out.os.trans (HC1.out.os.trans HBW.out.os), HC2.out.tape.trans (HC1.out.tape.trans HBW.out.tape), HC2.out.output.trans (HC1.out.output.trans HBW.out.output), by have := HSW.out; omega, fun b hb hn => hkeep b (by omega) (fun h => hn (.inl h)) (fun h => hn (.inr (.inl h))) (fun h => hn (.inr (.inr h)))⟩
      clear hkey hAx hkA hkeep HL1 HR1 HC1 HRB HL2 HR2 HC2 hka
      go_wp2_with fail
      go_loopw [4] (fun y wq => ∃ i : Nat, y = .int .i64 (i : Int) ∧ i ≤ s2 ∧ Hid (∃ (v0' v1' : Value) (RV' SV' : Nat → Value) (ln' lm' : Nat → Nat) (XR' XS' : Nat → List Value), ST wq lb (n + 1 + nodesL (ts.take i)) v0' v1' RV' SV' ln' lm' XR' XS' 1000000 ∧ (∀ p b, p.ok (n + 1 + nodesL (ts.take i)) → bkO lb v0' v1' RV' SV' p = some b → (∃ q, q.ok n ∧ bkO lb (.slice a0 n c0) (.slice a1 n c1) RV SV q = some b) ∨ Nv.rb ⟨k, r1, r2, r3, a2, s1, s2, s3, a4, a5, a6, a7, a8⟩ = some b ∨ Nv.sb ⟨k, r1, r2, r3, a2, s1, s2, s3, a4, a5, a6, a7, a8⟩ = some b ∨ (∃ j, j < i ∧ j < ts.length ∧ AS j b) ∨ x + 1 ≤ b) ∧ (∀ b, v0'.ownBlock = some b → bkO lb (.slice a0 n c0) (.slice a1 n c1) RV SV .a = some b ∨ x + 1 ≤ b) ∧ (∀ b, v1'.ownBlock = some b → bkO lb (.slice a0 n c0) (.slice a1 n c1) RV SV .b = some b ∨ x + 1 ≤ b)) ∧ Hid (BxN wq x ⟨k, r1, r2, r3, a2, s1, s2, s3, a4, a5, a6, a7, a8⟩) ∧ Hid (Chs (fun b => bkO lb (.slice a0 n c0) (.slice a1 n c1) RV SV .l = some b ∨ bkO lb (.slice a0 n c0) (.slice a1 n c1) RV SV .a = some b ∨ bkO lb (.slice a0 n c0) (.slice a1 n c1) RV SV .b = some b) w wq)) (fun y _ => s2 - (intOf y).toNat)
      case atStart =>
        refine ⟨0, rfl, by omega, ⟨_, _, _, _, _, _, _, _, by simpa [nodesL] using HST1.out, fun p b hp hb => ?_, HNA.out, HNB.out⟩, HXd.out, HCH.out⟩
        rcases HKEY.out p b (by simpa [nodesL] using hp) hb with ⟨u1, u2, u3⟩ | ⟨u1, u2, u3⟩ | ⟨u1, u2, u3⟩ | ⟨u1, u2⟩ | ⟨u1, u2⟩
        · exact .inl ⟨p, u1, u2⟩
        · exact .inr (.inr (.inr (.inr u2)))
        · exact .inr (.inr (.inr (.inr u3)))
        · exact .inr (.inl u2)
        · exact .inr (.inr (.inl u2))
      case round =>
        obtain ⟨i, rfl, hi, HS, HXq, HCq⟩ := hrel
        obtain ⟨o0, o1, o2, o3, o4, o5, o6, o7, o8⟩ := nine' HXq.out
        have hxr : x < wr.heap.size := (Array.getElem?_eq_some_iff.1 HXq.out).1
        by_cases hil : i < s2
        · have b1 : decide ((i : Int) < (s2 : Int)) = true := by simp; omega
          have b2 : (i : Int) < (s2 : Int) := by omega
          have hlt : i < ts.length := by rw [← HE2.out]; exact hil
          have ad1 : IntKind.i64.wrap ((i : Int) + 1) = (i : Int) + 1 := by simp [IntKind.wrap, IntKind.bits, IntKind.signed]; have := hlen; have := HE2.out; omega
          have hkw : ∀ b, (Nv.rb ⟨k, r1, r2, r3, a2, s1, s2, s3, a4, a5, a6, a7, a8⟩ = some b ∨ Nv.sb ⟨k, r1, r2, r3, a2, s1, s2, s3, a4, a5, a6, a7, a8⟩ = some b ∨ ∃ i, i < ts.length ∧ AS i b) → wr.heap[b]? = w.heap[b]? := fun b hb => HCq.out.block b (by have := HAX.out b hb; omega) (by
            rintro (h | h | h)
            · exact HDIS.out .l b trivial h hb
            · exact HDIS.out .a b trivial h hb
            · exact HDIS.out .b b trivial h hb)
          obtain ⟨bs, ebs, eown, h9⟩ := row_nine (row_kept HSR.out (fun b hb => hkw b (.inr (.inl hb)))) (by simp) (by omega)
          obtain ⟨n0, n1, n2, n3, n4, n5, n6, n7, n8⟩ := h9 i (by simpa using hlt)
          simp only [List.getElem_map, List.getElem_range, Nat.zero_add] at n0 n1 n2 n3 n4 n5 n6 n7 n8
          subst ebs
          obtain ⟨v0', v1', RV', SV', ln', lm', XR', XS', hs1, hs2, hs3, hs4⟩ := HS.out
          have htk : nodesL (ts.take (i + 1)) = nodesL (ts.take i) + ts[i].nodes := nodesL_take ts i hlt
          have hnl : n + 1 + nodesL (ts.take i) + ts[i].nodes ≤ 1000000 := by have := nodesL_take_le ts (i + 1); omega
          have HC := HIH.out i hlt wr lb (n + 1 + nodesL (ts.take i)) v0' v1' RV' SV' ln' lm' XR' XS' (fun b hb => (hkw b (.inr (.inr ⟨i, hlt, hb⟩))).trans (HWA.out b (.inr (.inr ⟨i, hlt, hb⟩)))) hs1 (fun p b hp hb hA => by
            rcases hs2 p b hp hb with ⟨q, hq, h⟩ | h | h | ⟨j, hj, hj2, h⟩ | h
            · exact HDIS.out q b hq h (.inr (.inr ⟨i, hlt, hA⟩))
            · exact (HD3.out i b hlt hA).1 h
            · exact (HD3.out i b hlt hA).2 h
            · exact HD1.out j i b hj2 hlt (by omega) h hA
            · have := HAX.out b (.inr (.inr ⟨i, hlt, hA⟩)); omega) hnl (HFG.out i hlt)
          have HS2 := hid hs2
          have HS3 := hid hs3
          have HS4 := hid hs4
          have HTK := hid htk
          obtain ⟨P, hP⟩ : ∃ P, P = ND i := ⟨_, rfl⟩
          rw [← hP] at HC n0 n1 n2 n3 n4 n5 n6 n7 n8
          clear hs1 hs2 hs3 hs4 htk hP h9 HS hkw eown
          go_wp2_with (first | (go_at_call 34; (with_reducible refine HC.mono ?_); rintro e w2 ⟨rfl, hex, hch⟩; have HEX := hid hex; have HCH2 := hid hch; clear hex hch HC))
          have hlbx : lb < x := by omega
          have hfr : ∀ b, (bkO lb v0' v1' RV' SV' .l = some b ∨ bkO lb v0' v1' RV' SV' .a = some b ∨ bkO lb v0' v1' RV' SV' .b = some b) → (bkO lb (.slice a0 n c0) (.slice a1 n c1) RV SV .l = some b ∨ bkO lb (.slice a0 n c0) (.slice a1 n c1) RV SV .a = some b ∨ bkO lb (.slice a0 n c0) (.slice a1 n c1) RV SV .b = some b) ∨ x + 1 ≤ b := by
            rintro b (h | h | h)
            · exact .inl (.inl h)
            · exact (HS3.out b h).imp (fun h => .inr (.inl h)) id
            · exact (HS4.out b h).imp (fun h => .inr (.inr h)) id
          have hxo : ¬ (bkO lb (.slice a0 n c0) (.slice a1 n c1) RV SV .l = some x ∨ bkO lb (.slice a0 n c0) (.slice a1 n c1) RV SV .a = some x ∨ bkO lb (.slice a0 n c0) (.slice a1 n c1) RV SV .b = some x) := by
            rintro (h | h | h)
            · simp [bkO] at h; omega
            · exact hxa h
            · exact hxb h
          refine ⟨⟨i + 1, by push_cast; rfl, by omega, ?_, (HCH2.out.block x hxr (fun h => (hfr x h).elim hxo (by omega))).trans HXq.out, ⟨HCH2.out.os.trans HCq.out.os, HCH2.out.tape.trans HCq.out.tape, HCH2.out.output.trans HCq.out.output, Nat.le_trans HCq.out.size HCH2.out.size, fun b hb hn => (HCH2.out.block b (by have := HCq.out.size; omega) (fun h => (hfr b h).elim hn (by omega))).trans (HCq.out.block b hb hn)⟩⟩, by simp [intOf]; omega⟩
          obtain ⟨v0'', v1'', RV'', SV'', ln'', lm'', XR'', XS'', g1, g2, g3, g4⟩ := HEX.out
          rw [HTK.out, ← Nat.add_assoc]
          refine ⟨v0'', v1'', RV'', SV'', ln'', lm'', XR'', XS'', g1, fun p b hp hb => ?_, fun b hb => ?_, fun b hb => ?_⟩
          · rcases g2 p b hp hb with ⟨q, hq, h⟩ | h | h
            · rcases HS2.out q b hq h with h | h | h | ⟨j, hj, hj2, h⟩ | h
              · exact .inl h
              · exact .inr (.inl h)
              · exact .inr (.inr (.inl h))
              · exact .inr (.inr (.inr (.inl ⟨j, by omega, hj2, h⟩)))
              · exact .inr (.inr (.inr (.inr h)))
            · exact .inr (.inr (.inr (.inl ⟨i, by omega, hlt, h⟩)))
            · exact .inr (.inr (.inr (.inr (by omega))))
          · rcases g3 b hb with h | h
            · exact HS3.out b h
            · exact .inr (by omega)
          · rcases g4 b hb with h | h
            · exact HS4.out b h
            · exact .inr (by omega)
        · have b1 : decide ((i : Int) < (s2 : Int)) = false := by simp; omega
          obtain rfl : i = s2 := by omega
          go_wp2
          go_end0
          obtain ⟨v0', v1', RV', SV', ln', lm', XR', XS', hs1, hs2, hs3, hs4⟩ := HS.out
          have htl : ts.take i = ts := by rw [HE2.out, List.take_length]
          rw [htl] at hs1 hs2
          rw [← Nat.add_assoc]
          refine ⟨rfl, ⟨v0', v1', RV', SV', ⟨ln', lm', XR', XS', hs1⟩, fun p b hp hb => ?_, fun b hb => (hs3 b hb).imp id (fun h => by omega), fun b hb => (hs4 b hb).imp id (fun h => by omega)⟩, HCq.out⟩
          rcases hs2 p b hp hb with h | h | h | ⟨j, hj, hj2, h⟩ | h
          · exact .inl h
          · exact .inr (.inl (.inl h))
          · exact .inr (.inl (.inr (.inl h)))
          · exact .inr (.inl (.inr (.inr ⟨j, hj2, h⟩)))
          · exact .inr (.inr (by omega))
end Go.Proofs.Ytdidopgenhpakaa
/- HELPERS: one of the lists grows. -/
namespace Go.Proofs.Ytdidopgenhpakaa
open Go.RowKit
set_option linter.unusedVariables false
set_option linter.unusedSimpArgs false
theorem range_set (n i : Nat) (hi : i < n) (F : Nat → Value) (v : Value) : ((List.range n).map F).set i v = (List.range n).map (fun j => if j = i then v else F j) := by
  apply List.ext_getElem
  · simp
  · intro j h1 h2
    by_cases e : i = j
    · subst e; simp
    · rw [List.getElem_set_ne e]; simp; intro h; exact absurd h.symm e
theorem ST.growR {w wl w3 : World} {lb n g c : Nat} {v1 : Value} {RV SV : Nat → Value} {ln lm : Nat → Nat} {XR XS : Nat → List Value} {Bd : Nat} (h : ST w lb n (.slice (some ⟨g, 0, none⟩) n c) v1 RV SV ln lm XR XS Bd) (i : Nat) (hi : i < n) (xs : List Value) (v3 : Value)
    (hs : w.heap.size ≤ wl.heap.size) (hk : ∀ b, b < w.heap.size → wl.heap[b]? = w.heap[b]?) (hf : Frm wl w3 (RV i) v3) (hr : w3.ownsRow 0 63 2 v3 (ln i + 1) xs) :
    ST (w3.setCell ⟨g, i, none⟩ v3) lb n (.slice (some ⟨g, 0, none⟩) n c) v1 (fun j => if j = i then v3 else RV j) SV (fun j => if j = i then ln i + 1 else ln j) lm (fun j => if j = i then xs else XR j) XS (Bd + 1) ∧ ∀ p b, p.ok n → bkO lb (.slice (some ⟨g, 0, none⟩) n c) v1 (fun j => if j = i then v3 else RV j) SV p = some b → bkO lb (.slice (some ⟨g, 0, none⟩) n c) v1 RV SV p = some b ∨ w.heap.size ≤ b := by
  have hgl : g < w.heap.size := h.low .a g trivial rfl
  have hor : ∀ p b, p.ok n → bkO lb (.slice (some ⟨g, 0, none⟩) n c) v1 (fun j => if j = i then v3 else RV j) SV p = some b → bkO lb (.slice (some ⟨g, 0, none⟩) n c) v1 RV SV p = some b ∨ (p = .r i ∧ w.heap.size ≤ b) := by
    intro p b hp hb
    cases p with
    | l => exact .inl hb
    | a => exact .inl hb
    | b => exact .inl hb
    | r j =>
      by_cases e : j = i
      · subst e
        simp only [bkO, if_pos] at hb
        rcases hf.own b hb with h1 | h1
        · exact .inl h1
        · exact .inr ⟨rfl, by omega⟩
      · simp only [bkO, if_neg e] at hb
        exact .inl hb
    | s j => exact .inl hb
  have hgi : (RV i).ownBlock ≠ some g := fun e => by have := h.dd .a (.r i) g trivial hi rfl e; cases this
  have hold : ∀ p b, p.ok n → p ≠ .r i → p ≠ .a → bkO lb (.slice (some ⟨g, 0, none⟩) n c) v1 RV SV p = some b → (w3.setCell ⟨g, i, none⟩ v3).heap[b]? = w.heap[b]? := fun p b hp h1 h2 hb => by
    have hbl := h.low p b hp hb
    exact (Below.heap_setCell _ _ _ _ (fun e => h2 (h.dd p .a b hp trivial hb (by rw [e]; rfl)))).trans ((hf.block b (by omega) (fun e => h1 (h.dd p (.r i) b hp hi hb e))).trans (hk b hbl))
  have hv3 : v3.ownBlock ≠ some g := fun e => by
    rcases hf.own g e with h1 | h1
    · exact hgi h1
    · omega
  refine ⟨⟨(hold .l lb trivial (by intro e; cases e) (by intro e; cases e) rfl).trans h.ob, ?_, row_kept h.r1 (fun b hb => hold .b b trivial (by intro e; cases e) (by intro e; cases e) hb), fun j hj => ?_, fun j hj => row_kept (h.ls j hj) (fun b hb => hold (.s j) b hj (by intro e; cases e) (by intro e; cases e) hb), fun p q b hp hq h1 h2 => ?_, fun j hj => ?_⟩, fun p b hp hb => (hor p b hp hb).imp id (fun h => h.2)⟩
  · have hrow := row_setC (row_kept h.r0 (w' := w3) (fun b hb => (by cases hb; exact (hf.block g (by omega) hgi).trans (hk g hgl)))) i v3
    rwa [range_set n i hi] at hrow
  · by_cases e : j = i
    · subst e; simp only [if_pos]; exact own_setCell hr hv3
    · simp only [if_neg e]; exact row_kept (h.lr j hj) (fun b hb => hold (.r j) b hj (by intro e'; cases e'; exact e rfl) (by intro e'; cases e') hb)
  · rcases hor p b hp h1 with u | ⟨u1, u2⟩ <;> rcases hor q b hq h2 with v | ⟨v1, v2⟩
    · exact h.dd p q b hp hq u v
    · have := h.low p b hp u; omega
    · have := h.low q b hq v; omega
    · exact u1.trans v1.symm
  · have := h.bd j hj
    by_cases e : j = i
    · subst e; simp only [if_pos]; omega
    · simp only [if_neg e]; omega
theorem ST.growS {w wl w3 : World} {lb n g c : Nat} {v0 : Value} {RV SV : Nat → Value} {ln lm : Nat → Nat} {XR XS : Nat → List Value} {Bd : Nat} (h : ST w lb n v0 (.slice (some ⟨g, 0, none⟩) n c) RV SV ln lm XR XS Bd) (i : Nat) (hi : i < n) (xs : List Value) (v3 : Value)
    (hs : w.heap.size ≤ wl.heap.size) (hk : ∀ b, b < w.heap.size → wl.heap[b]? = w.heap[b]?) (hf : Frm wl w3 (SV i) v3) (hr : w3.ownsRow 0 25 9 v3 (lm i + 1) xs) :
    ST (w3.setCell ⟨g, i, none⟩ v3) lb n v0 (.slice (some ⟨g, 0, none⟩) n c) RV (fun j => if j = i then v3 else SV j) ln (fun j => if j = i then lm i + 1 else lm j) XR (fun j => if j = i then xs else XS j) (Bd + 1) ∧ ∀ p b, p.ok n → bkO lb v0 (.slice (some ⟨g, 0, none⟩) n c) RV (fun j => if j = i then v3 else SV j) p = some b → bkO lb v0 (.slice (some ⟨g, 0, none⟩) n c) RV SV p = some b ∨ w.heap.size ≤ b := by
  have hgl : g < w.heap.size := h.low .b g trivial rfl
  have hor : ∀ p b, p.ok n → bkO lb v0 (.slice (some ⟨g, 0, none⟩) n c) RV (fun j => if j = i then v3 else SV j) p = some b → bkO lb v0 (.slice (some ⟨g, 0, none⟩) n c) RV SV p = some b ∨ (p = .s i ∧ w.heap.size ≤ b) := by
    intro p b hp hb
    cases p with
    | l => exact .inl hb
    | a => exact .inl hb
    | b => exact .inl hb
    | s j =>
      by_cases e : j = i
      · subst e
        simp only [bkO, if_pos] at hb
        rcases hf.own b hb with h1 | h1
        · exact .inl h1
        · exact .inr ⟨rfl, by omega⟩
      · simp only [bkO, if_neg e] at hb
        exact .inl hb
    | r j => exact .inl hb
  have hgi : (SV i).ownBlock ≠ some g := fun e => by have := h.dd .b (.s i) g trivial hi rfl e; cases this
  have hold : ∀ p b, p.ok n → p ≠ .s i → p ≠ .b → bkO lb v0 (.slice (some ⟨g, 0, none⟩) n c) RV SV p = some b → (w3.setCell ⟨g, i, none⟩ v3).heap[b]? = w.heap[b]? := fun p b hp h1 h2 hb => by
    have hbl := h.low p b hp hb
    exact (Below.heap_setCell _ _ _ _ (fun e => h2 (h.dd p .b b hp trivial hb (by rw [e]; rfl)))).trans ((hf.block b (by omega) (fun e => h1 (h.dd p (.s i) b hp hi hb e))).trans (hk b hbl))
  have hv3 : v3.ownBlock ≠ some g := fun e => by
    rcases hf.own g e with h1 | h1
    · exact hgi h1
    · omega
  refine ⟨⟨(hold .l lb trivial (by intro e; cases e) (by intro e; cases e) rfl).trans h.ob, row_kept h.r0 (fun b hb => hold .a b trivial (by intro e; cases e) (by intro e; cases e) hb), ?_, fun j hj => row_kept (h.lr j hj) (fun b hb => hold (.r j) b hj (by intro e; cases e) (by intro e; cases e) hb), fun j hj => ?_, fun p q b hp hq h1 h2 => ?_, fun j hj => ?_⟩, fun p b hp hb => (hor p b hp hb).imp id (fun h => h.2)⟩
  · have hrow := row_setC (row_kept h.r1 (w' := w3) (fun b hb => (by cases hb; exact (hf.block g (by omega) hgi).trans (hk g hgl)))) i v3
    rwa [range_set n i hi] at hrow
  · by_cases e : j = i
    · subst e; simp only [if_pos]; exact own_setCell hr hv3
    · simp only [if_neg e]; exact row_kept (h.ls j hj) (fun b hb => hold (.s j) b hj (by intro e'; cases e'; exact e rfl) (by intro e'; cases e') hb)
  · rcases hor p b hp h1 with u | ⟨u1, u2⟩ <;> rcases hor q b hq h2 with v | ⟨v1, v2⟩
    · exact h.dd p q b hp hq u v
    · have := h.low p b hp u; omega
    · have := h.low q b hq v; omega
    · exact u1.trans v1.symm
  · have := h.bd j hj
    by_cases e : j = i
    · subst e; simp only [if_pos]; omega
    · simp only [if_neg e]; omega
end Go.Proofs.Ytdidopgenhpakaa
/- HELPERS: a region that draws its order: what only reads is taken first, in the text's order, where the rest keeps what it reads, but for the last operation, which waits for all. -/

namespace Go.Proofs.Ytdidopgenhpakaa
open Go Go.RowKit
set_option linter.unusedVariables false
section
variable {P : Program} {ops : Array Oper} {Q : Exit → Act → World → Prop} {md : Region.Mode} {S : World → Prop} {L : Nat}
def wpAnyX (P : Program) (md : Region.Mode) (ops : Array Oper) (Q : Exit → Act → World → Prop) (S : World → Prop) (L : Nat) : Nat → Array Bool → Act → World → Prop
  | 0, listed, a, w => Region.ready md ops listed = [] ∧ Q .normal a w
  | fuel + 1, listed, a, w =>
    (Region.ready md ops listed = [] → Q .normal a w) ∧
    ∀ i ∈ Region.ready md ops listed, wpOp P ops Q i (fun a' w' => (i ≠ L → S w') ∧ wpAnyX P md ops Q S L fuel (listed.setIfInBounds i true) a' w') a w
theorem wpAny_of_X : ∀ (fuel : Nat) (listed : Array Bool) (a : Act) (w : World), wpAnyX P md ops Q S L fuel listed a w → wpAny P md ops Q fuel listed a w
  | 0, _, _, _, h => h
  | fuel + 1, _, _, _, h => ⟨h.1, fun i hi => wpOp_mono (fun a' w' h' => wpAny_of_X fuel _ a' w' h'.2) (h.2 i hi)⟩
theorem wpAnyX_first {i : Nat} {oi : Oper} {v : Value} (hi : ops[i]? = some oi) (hsel : ∀ (j : Nat) (o : Oper) cs b, ops[j]? = some o → o.op ≠ .select cs b)
    (hQ : ∀ c a w, Q (.panic c) (a.put oi.dst v) w → Q (.panic c) a w) (hL : Region.waitsFor md ops L i = true) :
    ∀ (fuel : Nat) (listed : Array Bool) (a : Act) (w : World),
      (∀ j oj, ops[j]? = some oj → j ≠ i → listed.getD j true = false → (∀ e ∈ oj.after, Region.binds md e = true → e.on ≠ i) → oi.apart ops oj = true) →
      i ∈ Region.ready md ops listed → YieldsIf P ops S oi v a → S w →
      wpAnyX P md ops Q S L fuel (listed.setIfInBounds i true) (a.put oi.dst v) w → wpAnyX P md ops Q S L (fuel + 1) listed a w := by
  intro fuel
  induction fuel with
  | zero =>
    intro listed a w _ hr hy hS H
    refine ⟨fun h => (by rw [h] at hr; cases hr), fun j hj => ?_⟩
    by_cases hji : j = i
    · subst hji; exact hy.wpOp hi hS ⟨fun _ => hS, H⟩
    · have := ready_mono hj hji
      rw [H.1] at this
      cases this
  | succ fuel ih =>
    intro listed a w hfree hr hy hS H
    refine ⟨fun h => (by rw [h] at hr; cases hr), fun j hj => ?_⟩
    by_cases hji : j = i
    · subst hji; exact hy.wpOp hi hS ⟨fun _ => hS, H⟩
    · have h1 := H.2 j (ready_mono hj hji)
      obtain ⟨hjun, oj, hoj, hall⟩ := mem_ready.1 hj
      have hnot : ∀ e ∈ oj.after, Region.binds md e = true → e.on ≠ i := fun e he hb heq => by
        have h1 := hall e he hb
        have h0 := (mem_ready.1 hr).1
        rw [heq] at h1
        rcases Nat.lt_or_ge i listed.size with h' | h'
        · simp [h'] at h0 h1; rw [h0] at h1; cases h1
        · simp [Array.getElem?_eq_none h'] at h1
      have hjL : j ≠ L := fun e => by
        subst e
        obtain ⟨o', ho', e, he, hb, hon⟩ := Region.waitsFor_spec hL
        have : o' = oj := Option.some.inj (ho'.symm.trans hoj)
        subst this
        exact hnot e he hb hon
      have h2 := wpOp_putIf hoj (hfree j oj hoj hji hjun hnot) (fun cs b => hsel i oi cs b hi) (fun cs b => hsel j oj cs b hoj) hQ hy h1
      have hfree' : ∀ k ok, ops[k]? = some ok → k ≠ i → (listed.setIfInBounds j true).getD k true = false →
          (∀ e ∈ ok.after, Region.binds md e = true → e.on ≠ i) → oi.apart ops ok = true := fun k ok hk hki hun hno => by
        refine hfree k ok hk hki ?_ hno
        by_cases hjk : j = k
        · subst hjk; exact hjun
        · rw [getD_set_ne true hjk] at hun; exact hun
      refine wpOp_mono (fun a' w' h3 => ⟨fun _ => h3.2.1 hjL, ih (listed.setIfInBounds j true) a' w' hfree' (ready_mono hr (Ne.symm hji)) h3.1 (h3.2.1 hjL) ?_⟩) h2
      rw [Array.setIfInBounds_comm _ _ hji]
      exact h3.2.2
/-- the head: each operation yields, in every world that meets S -/
def wpLex (P : Program) (ops : Array Oper) (Q : Exit → Act → World → Prop) (S : World → Prop) (K : Act → Prop) : List Oper → Act → Prop
  | [], a => K a
  | o :: l, a => ∃ v, YieldsIf P ops S o v a ∧ (∀ c a w, Q (.panic c) (a.put o.dst v) w → Q (.panic c) a w) ∧ wpLex P ops Q S K l (a.put o.dst v)
theorem lex_cons {K : Act → Prop} {o : Oper} {l : List Oper} {a : Act} (v : Value) (hw : Region.wanted o (yielded ops a.tmps) = true) (hv : ∀ w, S w → (execOp a.eval o).run P w = .ok (.value v) w)
    (hQ : ∀ c a w, Q (.panic c) (a.put o.dst v) w → Q (.panic c) a w) (h : wpLex P ops Q S K l (a.put o.dst v)) : wpLex P ops Q S K (o :: l) a := ⟨v, .inl ⟨hw, hv⟩, hQ, h⟩
theorem lex_nil {K : Act → Prop} {a : Act} (h : K a) : wpLex P ops Q S K [] a := h
/-- in the text's order each may come up, is apart from all others, and the last one waits for it -/
def lexB (md : Region.Mode) (ops : Array Oper) (L : Nat) : Nat → Nat → Array Bool → Bool
  | 0, _, _ => true
  | f + 1, k, listed => (Region.ready md ops listed).contains k && Region.free md ops listed k && Region.waitsFor md ops L k && lexB md ops L f (k + 1) (listed.setIfInBounds k true)
def marks : Nat → Nat → Array Bool → Array Bool
  | 0, _, listed => listed
  | f + 1, k, listed => marks f (k + 1) (listed.setIfInBounds k true)
theorem wpAnyX_lex {g : Nat} {w : World} (hsel : Region.noSelect ops = true) (hS : S w) :
    ∀ (l : List Oper) (k : Nat) (listed : Array Bool) (a : Act), (∀ j, j < l.length → l[j]? = ops[k + j]?) → lexB md ops L l.length k listed = true →
    wpLex P ops Q S (fun a' => wpAnyX P md ops Q S L g (marks l.length k listed) a' w) l a → wpAnyX P md ops Q S L (l.length + g) listed a w
  | [], k, listed, a, _, _, h => by simpa [marks, wpLex] using h
  | o :: l, k, listed, a, hl, hB, h => by
    have h0 : ops[k]? = some o := by simpa using (hl 0 (by simp)).symm
    simp only [List.length_cons, lexB, Bool.and_eq_true] at hB
    obtain ⟨⟨⟨hr, hf⟩, hL⟩, hB'⟩ := hB
    obtain ⟨v, hy, hQ, hK⟩ := h
    rw [show (o :: l).length + g = (l.length + g) + 1 by simp only [List.length_cons]; omega]
    exact wpAnyX_first h0 (Region.noSelect_spec hsel) hQ hL (l.length + g) listed a w (Region.free_spec h0 hf) (by simpa using hr) hy hS
      (wpAnyX_lex hsel hS l (k + 1) _ _ (fun j hj => by have := hl (j + 1) (by simp; omega); simpa [Nat.add_assoc, Nat.add_comm 1 j] using this) hB' hK)
/-- the tail: one operation behind the other -/
def wpTail (P : Program) (ops : Array Oper) (Q : Exit → Act → World → Prop) (S : World → Prop) (L : Nat) : List Oper → Nat → Act → World → Prop
  | [], _, a, w => Q .normal a w
  | o :: l, k, a, w => ∀ K : Act → World → Prop, Hid (∀ a' w', (k ≠ L → S w') → wpTail P ops Q S L l (k + 1) a' w' → K a' w') → if Region.wanted o (yielded ops a.tmps) = true then Oper.wp P o a w K Q else K (a.put o.dst undef) w
theorem tail_cons {o : Oper} {l : List Oper} {k : Nat} {a : Act} {w : World} (h : ∀ K : Act → World → Prop, Hid (∀ a' w', (k ≠ L → S w') → wpTail P ops Q S L l (k + 1) a' w' → K a' w') → if Region.wanted o (yielded ops a.tmps) = true then Oper.wp P o a w K Q else K (a.put o.dst undef) w) : wpTail P ops Q S L (o :: l) k a w := h
theorem tail_nil {k : Nat} {a : Act} {w : World} (h : Q .normal a w) : wpTail P ops Q S L [] k a w := h
theorem wpAnyX_of_tail : ∀ (l : List Oper) (k : Nat) (listed : Array Bool) (a : Act) (w : World), (∀ j, l[j]? = ops[k + j]?) →
    Region.seqB md ops l.length k listed = true → wpTail P ops Q S L l k a w → wpAnyX P md ops Q S L l.length listed a w
  | [], _, _, _, _, _, hB, h => ⟨by simpa [Region.seqB] using hB, h⟩
  | o :: l, k, listed, a, w, hl, hB, h => by
    have h0 : ops[k]? = some o := by simpa using (hl 0).symm
    simp only [List.length_cons, Region.seqB, Bool.and_eq_true, decide_eq_true_eq] at hB
    refine ⟨fun h1 => absurd (hB.1.symm.trans h1) (by simp), fun j hj => ?_⟩
    rw [hB.1] at hj
    have : j = k := by simpa using hj
    subst this
    have h1 := h (fun a' w' => (j ≠ L → S w') ∧ wpAnyX P md ops Q S L l.length (listed.setIfInBounds j true) a' w') ((fun a' w' h1 h2 => ⟨h1, wpAnyX_of_tail l (j + 1) _ a' w' (fun i => by have := hl (i + 1); simpa [Nat.add_assoc, Nat.add_comm 1 i] using this) hB.2 h2⟩))
    unfold wpOp
    simp only [h0]
    split
    · rename_i hw; rw [if_pos hw] at h1; exact .inl h1
    · rename_i hw; rw [if_neg hw] at h1; exact h1
theorem wp_region_lex {id : Nat} {a : Act} {w : World} {l : List Oper} (n L : Nat) (S : World → Prop) (hm : P.follows .mixedOrders = true) (hsel : Region.noSelect l.toArray = true) (hn : n ≤ l.length) (hB : lexB .any l.toArray L n 0 (Array.replicate l.length false) = true)
    (hT : Region.seqB .any l.toArray (l.length - n) n (marks n 0 (Array.replicate l.length false)) = true) (hS : S w.drew)
    (h : wpLex P l.toArray Q S (fun a' => wpTail P l.toArray Q S L (l.drop n) n a' w.drew) (l.take n) a) : (Code.region id l.toArray true).wp P Q a w := by
  have htl : (l.take n).length = n := by simp; omega
  have hdl : (l.drop n).length = l.length - n := by simp
  have hlex : ∀ (l' : List Oper) (a : Act), wpLex P l.toArray Q S (fun a' => wpTail P l.toArray Q S L (l.drop n) n a' w.drew) l' a → wpLex P l.toArray Q S (fun a' => wpAnyX P .any l.toArray Q S L (l.length - n) (marks n 0 (Array.replicate l.length false)) a' w.drew) l' a := by
    intro l'
    induction l' with
    | nil => intro a h; have := wpAnyX_of_tail (md := .any) (ops := l.toArray) (Q := Q) (S := S) (L := L) (P := P) (l.drop n) n (marks n 0 (Array.replicate l.length false)) a w.drew (fun j => by simp [List.getElem?_drop]) (by rw [hdl]; exact hT) h; rw [hdl] at this; exact this
    | cons o l' ih => rintro a ⟨v, h1, h2, h3⟩; exact ⟨v, h1, h2, ih _ h3⟩
  have H := wpAnyX_lex (md := .any) (L := L) (Q := Q) (g := l.length - n) (P := P) (w := w.drew) hsel hS (l.take n) 0 (Array.replicate l.length false) a (fun j hj => by
    rw [htl] at hj
    simp [hj]) (by rw [htl]; exact hB) (by rw [htl]; exact hlex _ _ h)
  rw [htl, show n + (l.length - n) = l.length by omega] at H
  exact wp_region_any hm (by simpa using wpAny_of_X _ _ _ _ H)
end
end Go.Proofs.Ytdidopgenhpakaa
/- HELPERS: each list is written full, grows, and reads so. -/
namespace Go.Proofs.Ytdidopgenhpakaa
open Go.RowKit
set_option linter.unusedVariables false
set_option linter.unusedSimpArgs false
theorem row_setCells {base e size n b c : Nat} : ∀ (vs : List Value) (o : Nat) (w : World) (xs : List Value), w.ownsRow base e size (.slice (some ⟨b, 0, none⟩) n c) n xs → o + vs.length ≤ xs.length → (w.setCells b o vs).ownsRow base e size (.slice (some ⟨b, 0, none⟩) n c) n (xs.take o ++ vs ++ xs.drop (o + vs.length))
  | [], o, w, xs, h, _ => by simpa [World.setCells] using h
  | v :: vs, o, w, xs, h, hl => by
    have h1 := row_setC h o v
    have h2 := row_setCells vs (o + 1) (w.setCell ⟨b, o, none⟩ v) (xs.set o v) h1 (by simp at hl ⊢; omega)
    have e1 : (xs.set o v).take (o + 1) = xs.take o ++ [v] := by
      rw [List.take_succ_eq_append_getElem (by simp at hl ⊢; omega), List.take_set_of_le (Nat.le_refl _)]
      simp
    have e2 : (xs.set o v).drop (o + 1 + vs.length) = xs.drop (o + (v :: vs).length) := by
      rw [List.drop_set_of_lt (by omega)]
      simp only [List.length_cons]
      congr 1
      omega
    rw [e1, e2] at h2
    simpa [World.setCells] using h2
abbrev mkR (i : Nat) (m : Nat) : List (Int × Int) := (List.range m).map fun (k : Nat) => ((-1 - (i : Int)), (k : Int))
abbrev mkN (i k : Nat) : Nv := ⟨-1 - (i : Int), none, 0, 0, 0, none, 0, 0, 0, 0, false, (k : Int), ⟨#[]⟩⟩
abbrev mkS (i : Nat) (m : Nat) : List Nv := (List.range m).map (mkN i)
theorem mkR_succ (i m : Nat) : O2 (mkR i (m + 1)) = O2 (mkR i m) ++ [.int .i64 (-1 - (i : Int)), .int .i64 (m : Int)] := by
  simp [mkR, List.range_succ, O2]
theorem mkS_succ (i m : Nat) : (mkS i (m + 1)).flatMap Nv.cs = (mkS i m).flatMap Nv.cs ++ (mkN i m).cs := by
  simp [mkS, List.range_succ]
theorem mkR_len (i m : Nat) : (O2 (mkR i m)).length = m * 2 := by rw [O2_len]; simp
theorem mkS_len (i m : Nat) : ((mkS i m).flatMap Nv.cs).length = m * 9 := by rw [flat9_len]; simp
/-- the contents of one list of ranges change -/
theorem ST.setR {w w' : World} {lb n : Nat} {v0 v1 : Value} {RV SV : Nat → Value} {ln lm : Nat → Nat} {XR XS : Nat → List Value} {Bd : Nat} (h : ST w lb n v0 v1 RV SV ln lm XR XS Bd) (i : Nat) (hi : i < n) (xs : List Value) (hr : w'.ownsRow 0 63 2 (RV i) (ln i) xs) (hk : ∀ b, (RV i).ownBlock ≠ some b → w'.heap[b]? = w.heap[b]?) :
    ST w' lb n v0 v1 RV SV ln lm (fun j => if j = i then xs else XR j) XS Bd := by
  have hk' : ∀ p b, p.ok n → p ≠ .r i → bkO lb v0 v1 RV SV p = some b → w'.heap[b]? = w.heap[b]? := fun p b hp hne hb => hk b (fun h' => hne (h.dd p (.r i) b hp hi hb h'))
  refine ⟨(hk' .l lb trivial (by intro e; cases e) rfl).trans h.ob, row_kept h.r0 (fun b hb => hk' .a b trivial (by intro e; cases e) hb), row_kept h.r1 (fun b hb => hk' .b b trivial (by intro e; cases e) hb), fun j hj => ?_, fun j hj => row_kept (h.ls j hj) (fun b hb => hk' (.s j) b hj (by intro e; cases e) hb), h.dd, h.bd⟩
  by_cases e : j = i
  · subst e; simp only [if_pos]; exact hr
  · simp only [if_neg e]; exact row_kept (h.lr j hj) (fun b hb => hk' (.r j) b hj (by intro e'; cases e'; exact e rfl) hb)
theorem ST.setS {w w' : World} {lb n : Nat} {v0 v1 : Value} {RV SV : Nat → Value} {ln lm : Nat → Nat} {XR XS : Nat → List Value} {Bd : Nat} (h : ST w lb n v0 v1 RV SV ln lm XR XS Bd) (i : Nat) (hi : i < n) (xs : List Value) (hr : w'.ownsRow 0 25 9 (SV i) (lm i) xs) (hk : ∀ b, (SV i).ownBlock ≠ some b → w'.heap[b]? = w.heap[b]?) :
    ST w' lb n v0 v1 RV SV ln lm XR (fun j => if j = i then xs else XS j) Bd := by
  have hk' : ∀ p b, p.ok n → p ≠ .s i → bkO lb v0 v1 RV SV p = some b → w'.heap[b]? = w.heap[b]? := fun p b hp hne hb => hk b (fun h' => hne (h.dd p (.s i) b hp hi hb h'))
  refine ⟨(hk' .l lb trivial (by intro e; cases e) rfl).trans h.ob, row_kept h.r0 (fun b hb => hk' .a b trivial (by intro e; cases e) hb), row_kept h.r1 (fun b hb => hk' .b b trivial (by intro e; cases e) hb), fun j hj => row_kept (h.lr j hj) (fun b hb => hk' (.r j) b hj (by intro e; cases e) hb), fun j hj => ?_, h.dd, h.bd⟩
  by_cases e : j = i
  · subst e; simp only [if_pos]; exact hr
  · simp only [if_neg e]; exact row_kept (h.ls j hj) (fun b hb => hk' (.s j) b hj (by intro e'; cases e'; exact e rfl) hb)
/-- the cell of the list of lists -/
theorem ST.at0 {w : World} {lb n : Nat} {v0 v1 : Value} {RV SV : Nat → Value} {ln lm : Nat → Nat} {XR XS : Nat → List Value} {Bd : Nat} (h : ST w lb n v0 v1 RV SV ln lm XR XS Bd) (i : Nat) (hi : i < n) : ∃ g0 c0 g1 c1, v0 = .slice (some ⟨g0, 0, none⟩) n c0 ∧ v1 = .slice (some ⟨g1, 0, none⟩) n c1 ∧ w.cell? ⟨g0, i, none⟩ = some (RV i) ∧ w.cell? ⟨g1, i, none⟩ = some (SV i) := by
  have f : ∀ {e : TypeId} {v : Value} {F : Nat → Value}, w.ownsRow 0 e 1 v n ((List.range n).map F) → ∃ g c, v = .slice (some ⟨g, 0, none⟩) n c ∧ w.cell? ⟨g, i, none⟩ = some (F i) := by
    intro e v F hr
    rcases hr.2 with ⟨_, h0⟩ | ⟨g, cap, cur, rfl, _⟩
    · omega
    · refine ⟨g, cap, rfl, ?_⟩
      rw [hr.cellAt i (by omega)]
      simp [hi]
  obtain ⟨g0, c0, e0, h0⟩ := f h.r0
  obtain ⟨g1, c1, e1, h1⟩ := f h.r1
  exact ⟨g0, c0, g1, c1, e0, e1, h0, h1⟩
theorem take_write {xs vs L : List Value} {o : Nat} (h : xs.take o = L) (hl : o ≤ xs.length) : (xs.take o ++ vs ++ xs.drop (o + vs.length)).take (o + vs.length) = L ++ vs := by
  rw [List.take_append_of_le_length (by simp; omega), h]
  apply List.take_of_length_le
  rw [List.length_append, ← h]
  simp
  omega
theorem Chs.setCells {A : Nat → Prop} {b : Nat} (hA : A b) : ∀ (vs : List Value) (o : Nat) (w w' : World), Chs A w w' → Chs A w (w'.setCells b o vs)
  | [], _, _, _, h => h
  | v :: vs, o, w, w', h => Chs.setCells hA vs (o + 1) w _ (h.set (a := ⟨b, o, none⟩) hA v)
theorem neg_i (i : Nat) (hi : i ≤ 10000000) : IntKind.i64.wrap (-1 - (i : Int)) = -1 - (i : Int) := by simp [IntKind.wrap, IntKind.bits, IntKind.signed]; omega
theorem add_one (i : Nat) (hi : i ≤ 100000000) : IntKind.i64.wrap ((i : Int) + 1) = (i : Int) + 1 := by simp [IntKind.wrap, IntKind.bits, IntKind.signed]; omega
/-- all lists, each with a mark of its own -/
def PH (w wq : World) (lb n : Nat) (v0 v1 : Value) (RV SV : Nat → Value) (Bd : Nat) : Prop := ∃ (RV' SV' : Nat → Value) (ln' lm' : Nat → Nat), ST wq lb n v0 v1 RV' SV' ln' lm' (fun j => O2 (mkR j (ln' j))) (fun j => (mkS j (lm' j)).flatMap Nv.cs) Bd ∧ ∀ p b, p.ok n → bkO lb v0 v1 RV' SV' p = some b → bkO lb v0 v1 RV SV p = some b ∨ w.heap.size ≤ b
theorem frz_eq {w w' : World} {b : Nat} (h : w'.heap[b]? = w.heap[b]?) (o : Nat) : w'.frozen? ⟨b, o, none⟩ = w.frozen? ⟨b, o, none⟩ := by simp only [World.frozen?, h]
theorem PH.below {w wq wq' : World} {lb n : Nat} {v0 v1 : Value} {RV SV : Nat → Value} {Bd : Nat} (h : PH w wq lb n v0 v1 RV SV Bd) (hb : Below wq.heap.size wq wq') : PH w wq' lb n v0 v1 RV SV Bd := by
  obtain ⟨RV', SV', ln', lm', h1, h2⟩ := h
  exact ⟨RV', SV', ln', lm', h1.kept (fun p b hp hb' => hb.block b (h1.low p b hp hb')), h2⟩
set_option maxRecDepth 100000 in
set_option maxHeartbeats 16000000 in
theorem own18 {w : World} {lb n : Nat} {v0 v1 : Value} {RV SV : Nat → Value} {ln lm : Nat → Nat} {XR XS : Nat → List Value} (hST : ST w lb n v0 v1 RV SV ln lm XR XS 1000000) (hn : n ≤ 1000000) :
    Calls Try.prog 19 #[pt lb] w fun e w' => e = .returned (.bool true) ∧ Chs (fun b => ∃ p : Ky, p.ok n ∧ bkO lb v0 v1 RV SV p = some b) w w' := by
  obtain ⟨a0, c0, hv0, hc0⟩ := row_shape hST.r0
  obtain ⟨a1, c1, hv1, hc1⟩ := row_shape hST.r1
  subst hv0 hv1
  have HST := hid hST
  clear hST hc0 hc1
  go_enter Try.func19, Try.ntmps19
  go_wp2_with fail
  go_loopw [3] (fun y wq => ∃ i : Nat, y = .int .i64 (i : Int) ∧ i ≤ n ∧ Hid (∃ XR XS, ST wq lb n (.slice a0 n c0) (.slice a1 n c1) RV SV ln lm XR XS 1000000 ∧ ∀ j, j < i → XR j = O2 (mkR j (ln j)) ∧ XS j = (mkS j (lm j)).flatMap Nv.cs) ∧ Hid (Chs (fun b => ∃ p : Ky, p.ok n ∧ bkO lb (.slice a0 n c0) (.slice a1 n c1) RV SV p = some b) w wq)) (fun y _ => n - (intOf y).toNat)
  case atStart => exact ⟨0, rfl, by omega, ⟨XR, XS, HST.out, fun j hj => by omega⟩, Chs.refl _ _⟩
  case round =>
    obtain ⟨i, rfl, hi, HS, HC⟩ := hrel
    have hob : wr.heap[lb]? = some (.cells #[.slice a0 n c0, .slice a1 n c1] 36 (0, 0)) := by obtain ⟨XR, XS, h, _⟩ := HS.out; exact h.ob
    have l0 : wr.cell? ⟨lb, 0, none⟩ = some (.slice a0 n c0) := Joins.cell_of_block hob 0
    by_cases hil : i < n
    · obtain ⟨g0, g1, rfl, rfl⟩ : ∃ g0 g1, a0 = some ⟨g0, 0, none⟩ ∧ a1 = some ⟨g1, 0, none⟩ := by
        obtain ⟨XR, XS, h, _⟩ := HS.out
        obtain ⟨g0, c0', g1, c1', e0, e1, _, _⟩ := h.at0 i hil
        simp only [Value.slice.injEq] at e0 e1
        exact ⟨g0, g1, e0.1, e1.1⟩
      have b1 : decide ((i : Int) < (n : Int)) = true := by simp; omega
      have ad1 := add_one i (by omega)
      have ng := neg_i i (by omega)
      have b2 : (i : Int) < (n : Int) := by omega
      clear hob
      go_wp2_with fail
      clear l0
      obtain ⟨ra, rc, hrv, hrc⟩ : ∃ ra rc, RV i = .slice ra (ln i) rc ∧ True := by obtain ⟨XR, XS, h, _⟩ := HS.out; obtain ⟨a, c, e, _⟩ := row_shape (h.lr i hil); exact ⟨a, c, e, trivial⟩
      obtain ⟨sa, sc, hsv, hsc⟩ : ∃ sa sc, SV i = .slice sa (lm i) sc ∧ True := by obtain ⟨XR, XS, h, _⟩ := HS.out; obtain ⟨a, c, e, _⟩ := row_shape (h.ls i hil); exact ⟨a, c, e, trivial⟩
      obtain ⟨hbl, hbm⟩ : ln i ≤ 1000000 ∧ lm i ≤ 1000000 := by obtain ⟨XR, XS, h, _⟩ := HS.out; exact h.bd i hil
      have HRV := hid hrv
      have HSV := hid hsv
      clear hrv hrc hsv hsc
      go_loopw [4] (fun y wq => ∃ k : Nat, y = .int .i64 (k : Int) ∧ k ≤ ln i ∧ Hid (∃ XR XS, ST wq lb n (.slice (some ⟨g0, 0, none⟩) n c0) (.slice (some ⟨g1, 0, none⟩) n c1) RV SV ln lm XR XS 1000000 ∧ (∀ j, j < i → XR j = O2 (mkR j (ln j)) ∧ XS j = (mkS j (lm j)).flatMap Nv.cs) ∧ (XR i).take (k * 2) = O2 (mkR i k)) ∧ Hid (Chs (fun b => ∃ p : Ky, p.ok n ∧ bkO lb (.slice (some ⟨g0, 0, none⟩) n c0) (.slice (some ⟨g1, 0, none⟩) n c1) RV SV p = some b) w wq)) (fun y _ => ln i - (intOf y).toNat)
      case atStart => exact ⟨0, rfl, by omega, (by obtain ⟨XR, XS, h, h2⟩ := HS.out; exact ⟨XR, XS, h, h2, by simp [mkR]⟩), HC.out⟩
      case round =>
        clear HS HC
        obtain ⟨k, rfl, hk, HS, HC⟩ := hrel
        obtain ⟨XR, XS, h, h2, h3⟩ := HS.out
        have l0 : wr.cell? ⟨lb, 0, none⟩ = some (.slice (some ⟨g0, 0, none⟩) n c0) := Joins.cell_of_block h.ob 0
        obtain ⟨g0', c0', g1', c1', e0, e1, q0, q1⟩ := h.at0 i hil
        rw [HRV.out] at q0
        rw [HSV.out] at q1
        simp only [Value.slice.injEq, Option.some.injEq, Addr.mk.injEq] at e0 e1
        obtain ⟨⟨rfl, _⟩, _, rfl⟩ := e0
        obtain ⟨⟨rfl, _⟩, _, rfl⟩ := e1
        by_cases hkl : k < ln i
        · have b3 : decide ((k : Int) < (ln i : Int)) = true := by simp; omega
          have b4 : (k : Int) < (ln i : Int) := by omega
          have ad2 := add_one k (by omega)
          have hrow := h.lr i hil
          rw [HRV.out] at hrow
          obtain ⟨rb, hrb⟩ : ∃ rb, ra = some ⟨rb, 0, none⟩ := by
            rcases hrow.2 with ⟨_, e⟩ | ⟨g, cap, cur, e, _⟩
            · omega
            · simp only [Value.slice.injEq] at e; exact ⟨g, e.1⟩
          subst hrb
          have ht := row_there4 hrow (j := k * 2) (m := 2) (by omega)
          have hset := row_setCells [.int .i64 (-1 - (i : Int)), .int .i64 (k : Int)] (k * 2) wr (XR i) hrow (by have := hrow.1; simp; omega)
          have htk := take_write (vs := [.int .i64 (-1 - (i : Int)), .int .i64 (k : Int)]) h3 (by have := hrow.1; omega)
          have hnew := h.setR (w' := wr.setCells rb (k * 2) [.int .i64 (-1 - (i : Int)), .int .i64 (k : Int)]) i hil _ (by rw [HRV.out]; exact hset) (fun b hb => setCells_old rb _ _ _ b (by intro e; apply hb; rw [HRV.out, e]; rfl))
          have HNEW := hid hnew
          have HTK := hid htk
          have H2 := hid h2
          have hcc := Chs.setCells (A := (fun b => ∃ p : Ky, p.ok n ∧ bkO lb (.slice (some ⟨g0, 0, none⟩) n c0) (.slice (some ⟨g1, 0, none⟩) n c1) RV SV p = some b)) (b := rb) ⟨.r i, hil, by simp [bkO, HRV.out, Value.ownBlock]⟩ [.int .i64 (-1 - (i : Int)), .int .i64 (k : Int)] (k * 2) w wr HC.out
          have HCC := hid hcc
          clear h h2 h3 hrow hset htk hnew hcc HS
          go_wp2_with ((with_reducible refine store53 rfl (.tmp 44) (.tmp 43) rfl rb k (-1 - (i : Int)) (k : Int) ?_ ?_ ht ?_); (rfl); (rfl))
          refine ⟨⟨k + 1, by push_cast; rfl, by omega, ⟨_, XS, HNEW.out, fun j hj => ?_, ?_⟩, HCC.out⟩, by simp [intOf]; omega⟩
          · rw [if_neg (by omega)]; exact H2.out j hj
          · rw [if_pos rfl, mkR_succ, show (k + 1) * 2 = k * 2 + ([.int .i64 (-1 - (i : Int)), .int .i64 (k : Int)] : List Value).length by simp; omega]
            exact HTK.out
        · have b3 : decide ((k : Int) < (ln i : Int)) = false := by simp; omega
          obtain rfl : k = ln i := by omega
          have hx : XR i = O2 (mkR i (ln i)) := by
            rw [← h3]
            have := (h.lr i hil).1
            rw [List.take_of_length_le (by omega)]
          have HS' : Hid (∃ XR XS, ST wr lb n (.slice (some ⟨g0, 0, none⟩) n c0) (.slice (some ⟨g1, 0, none⟩) n c1) RV SV ln lm XR XS 1000000 ∧ (∀ j, j < i → XR j = O2 (mkR j (ln j)) ∧ XS j = (mkS j (lm j)).flatMap Nv.cs) ∧ (XS i).take (0 * 9) = (mkS i 0).flatMap Nv.cs ∧ XR i = O2 (mkR i (ln i))) := ⟨XR, XS, h, h2, by simp [mkS], hx⟩
          clear h h2 h3 hx HS
          go_wp2_with fail
          clear l0 q0 b3
          have HS := HS'
          clear HS'
          go_loopw [5] (fun y wq => ∃ k : Nat, y = .int .i64 (k : Int) ∧ k ≤ lm i ∧ Hid (∃ XR XS, ST wq lb n (.slice (some ⟨g0, 0, none⟩) n c0) (.slice (some ⟨g1, 0, none⟩) n c1) RV SV ln lm XR XS 1000000 ∧ (∀ j, j < i → XR j = O2 (mkR j (ln j)) ∧ XS j = (mkS j (lm j)).flatMap Nv.cs) ∧ (XS i).take (k * 9) = (mkS i k).flatMap Nv.cs ∧ XR i = O2 (mkR i (ln i))) ∧ Hid (Chs (fun b => ∃ p : Ky, p.ok n ∧ bkO lb (.slice (some ⟨g0, 0, none⟩) n c0) (.slice (some ⟨g1, 0, none⟩) n c1) RV SV p = some b) w wq)) (fun y _ => lm i - (intOf y).toNat)
          case atStart => exact ⟨0, rfl, by omega, HS.out, HC.out⟩
          case round =>
            clear HS HC
            obtain ⟨k, rfl, hk, HS, HC⟩ := hrel
            obtain ⟨XR, XS, h, h2, h3, h4⟩ := HS.out
            have l0 : wr.cell? ⟨lb, 1, none⟩ = some (.slice (some ⟨g1, 0, none⟩) n c1) := Joins.cell_of_block h.ob 1
            obtain ⟨g0', c0', g1', c1', e0, e1, q0, q1⟩ := h.at0 i hil
            rw [HRV.out] at q0
            rw [HSV.out] at q1
            simp only [Value.slice.injEq, Option.some.injEq, Addr.mk.injEq] at e0 e1
            obtain ⟨⟨rfl, _⟩, _, rfl⟩ := e0
            obtain ⟨⟨rfl, _⟩, _, rfl⟩ := e1
            by_cases hkl : k < lm i
            · have b3 : decide ((k : Int) < (lm i : Int)) = true := by simp; omega
              have b4 : (k : Int) < (lm i : Int) := by omega
              have ad2 := add_one k (by omega)
              have hrow := h.ls i hil
              rw [HSV.out] at hrow
              obtain ⟨rb, hrb⟩ : ∃ rb, sa = some ⟨rb, 0, none⟩ := by
                rcases hrow.2 with ⟨_, e⟩ | ⟨g, cap, cur, e, _⟩
                · omega
                · simp only [Value.slice.injEq] at e; exact ⟨g, e.1⟩
              subst hrb
              have ht := row_there4 hrow (j := k * 9) (m := 9) (by omega)
              have hset := row_setCells (mkN i k).cs (k * 9) wr (XS i) hrow (by have := hrow.1; simp; omega)
              have htk := take_write (vs := (mkN i k).cs) h3 (by have := hrow.1; omega)
              have hnew := h.setS (w' := wr.setCells rb (k * 9) (mkN i k).cs) i hil _ (by rw [HSV.out]; exact hset) (fun b hb => setCells_old rb _ _ _ b (by intro e; apply hb; rw [HSV.out, e]; rfl))
              have HNEW := hid hnew
              have HTK := hid htk
              have H2 := hid h2
              have hcc := Chs.setCells (A := (fun b => ∃ p : Ky, p.ok n ∧ bkO lb (.slice (some ⟨g0, 0, none⟩) n c0) (.slice (some ⟨g1, 0, none⟩) n c1) RV SV p = some b)) (b := rb) ⟨.s i, hil, by simp [bkO, HSV.out, Value.ownBlock]⟩ (mkN i k).cs (k * 9) w wr HC.out
              have HCC := hid hcc
              have H4 := hid h4
              clear h h2 h3 h4 hrow hset htk hnew hcc HS
              go_wp2_with ((with_reducible refine store25 rfl (.tmp 69) (.tmp 68) rfl rb k (mkN i k) ?_ ?_ ht ?_); (rfl); (rfl))
              refine ⟨⟨k + 1, by push_cast; rfl, by omega, ⟨XR, _, HNEW.out, fun j hj => ?_, ?_, H4.out⟩, HCC.out⟩, by simp [intOf]; omega⟩
              · rw [if_neg (by omega)]; exact H2.out j hj
              · rw [if_pos rfl, mkS_succ, show (k + 1) * 9 = k * 9 + ((mkN i k).cs : List Value).length by simp; omega]
                exact HTK.out
            · have b3 : decide ((k : Int) < (lm i : Int)) = false := by simp; omega
              obtain rfl : k = lm i := by omega
              have hx : XS i = (mkS i (lm i)).flatMap Nv.cs := by
                rw [← h3]
                have := (h.ls i hil).1
                rw [List.take_of_length_le (by omega)]
              have HFIN : Hid (∃ XR XS, ST wr lb n (.slice (some ⟨g0, 0, none⟩) n c0) (.slice (some ⟨g1, 0, none⟩) n c1) RV SV ln lm XR XS 1000000 ∧ ∀ j, j < i + 1 → XR j = O2 (mkR j (ln j)) ∧ XS j = (mkS j (lm j)).flatMap Nv.cs) := ⟨XR, XS, h, fun j hj => by
                by_cases e : j = i
                · subst e; exact ⟨h4, hx⟩
                · exact h2 j (by omega)⟩
              clear h h2 h3 h4 hx HS
              go_wp2
              exact ⟨⟨i + 1, by push_cast; rfl, by omega, HFIN.out, HC.out⟩, by simp [intOf]; omega⟩
    · have b1 : decide ((i : Int) < (n : Int)) = false := by simp; omega
      obtain rfl : n = i := by omega
      have HPH : Hid (PH w wr lb n (.slice a0 n c0) (.slice a1 n c1) RV SV 1000000) := by
        obtain ⟨XR, XS, h, h2⟩ := HS.out
        exact ⟨RV, SV, ln, lm, ⟨h.ob, h.r0, h.r1, fun j hj => by rw [← (h2 j hj).1]; exact h.lr j hj, fun j hj => by rw [← (h2 j hj).2]; exact h.ls j hj, h.dd, h.bd⟩, fun p b _ hb => .inl hb⟩
      obtain ⟨i5, hi5, hz50, hz51, hz52⟩ := info_parts info53
      obtain ⟨i2, hi2, hz20, hz21, hz22⟩ := info_parts info25
      clear HS hob
      go_wp2_with fail
      clear b1 l0
      go_loopw [6] (fun y wq => ∃ i : Nat, y = .int .i64 (i : Int) ∧ i ≤ n ∧ Hid (PH w wq lb n (.slice a0 n c0) (.slice a1 n c1) RV SV (1000000 + 10 * i)) ∧ Hid (Chs (fun b => ∃ p : Ky, p.ok n ∧ bkO lb (.slice a0 n c0) (.slice a1 n c1) RV SV p = some b) w wq)) (fun y _ => n - (intOf y).toNat)
      case atStart => exact ⟨0, rfl, by omega, HPH.out, HC.out⟩
      case round =>
        clear HPH HC
        obtain ⟨i, rfl, hi, HPH, HC⟩ := hrel
        have l0 : wr.cell? ⟨lb, 0, none⟩ = some (.slice a0 n c0) := by obtain ⟨_, _, _, _, h, _⟩ := HPH.out; exact Joins.cell_of_block h.ob 0
        by_cases hil : i < n
        · obtain ⟨g0, g1, rfl, rfl⟩ : ∃ g0 g1, a0 = some ⟨g0, 0, none⟩ ∧ a1 = some ⟨g1, 0, none⟩ := by
            obtain ⟨_, _, _, _, h, _⟩ := HPH.out
            obtain ⟨g0, c0', g1, c1', e0, e1, _, _⟩ := h.at0 i hil
            simp only [Value.slice.injEq] at e0 e1
            exact ⟨g0, g1, e0.1, e1.1⟩
          have b1 : decide ((i : Int) < (n : Int)) = true := by simp; omega
          have ad1 := add_one i (by omega)
          have ng := neg_i i (by omega)
          have b2 : (i : Int) < (n : Int) := by omega
          go_wp2_with fail
          clear l0
          go_loopw [7] (fun y wq => ∃ k : Nat, y = .int .i64 (k : Int) ∧ k ≤ 5 ∧ Hid (PH w wq lb n (.slice (some ⟨g0, 0, none⟩) n c0) (.slice (some ⟨g1, 0, none⟩) n c1) RV SV (1000000 + 10 * i + 2 * k)) ∧ Hid (Chs (fun b => ∃ p : Ky, p.ok n ∧ bkO lb (.slice (some ⟨g0, 0, none⟩) n c0) (.slice (some ⟨g1, 0, none⟩) n c1) RV SV p = some b) w wq)) (fun y _ => 5 - (intOf y).toNat)
          case atStart => exact ⟨0, rfl, by omega, HPH.out, HC.out⟩
          case round =>
            clear HPH HC
            obtain ⟨k, rfl, hk, HPH, HC⟩ := hrel
            by_cases hkl : k < 5
            · have b3 : decide ((k : Int) < 5) = true := by simp; omega
              have ad2 := add_one k (by omega)
              go_upto_region 18 with fail
              go_cut [] from 79 to 159 (fun wx => Hid (PH w wx lb n (.slice (some ⟨g0, 0, none⟩) n c0) (.slice (some ⟨g1, 0, none⟩) n c1) RV SV (1000000 + 10 * i + 2 * k + 1)) ∧ Hid (Chs (fun b => ∃ p : Ky, p.ok n ∧ bkO lb (.slice (some ⟨g0, 0, none⟩) n c0) (.slice (some ⟨g1, 0, none⟩) n c1) RV SV p = some b) w wx))
              case first =>
                obtain ⟨RV', SV', ln', lm', h, hor⟩ := HPH.out
                obtain ⟨ra, rc, hrv, _⟩ := row_shape (h.lr i hil)
                obtain ⟨g0', c0', g1', c1', e0, e1, q0, q1⟩ := h.at0 i hil
                simp only [Value.slice.injEq, Option.some.injEq, Addr.mk.injEq] at e0 e1
                obtain ⟨⟨rfl, _⟩, _, rfl⟩ := e0
                obtain ⟨⟨rfl, _⟩, _, rfl⟩ := e1
                have hm := (h.bd i hil).1
                have hrow := h.lr i hil
                have hgi : (RV' i).ownBlock ≠ some g0 := fun e => by have := h.dd .a (.r i) g0 trivial hil rfl e; cases this
                have hli : (RV' i).ownBlock ≠ some lb := fun e => by have := h.dd .l (.r i) lb trivial hil rfl e; cases this
                rw [hrv] at q0 hrow hgi hli
                obtain ⟨m, hme⟩ : ∃ m, m = ln' i := ⟨_, rfl⟩
                rw [← hme] at q0 hrow hm hgi hli
                have l0 : wr.cell? ⟨lb, 0, none⟩ = some (.slice (some ⟨g0, 0, none⟩) n c0) := Joins.cell_of_block h.ob 0
                have hlb : lb < wr.heap.size := h.low .l lb trivial rfl
                have hg0 : g0 < wr.heap.size := h.low .a g0 trivial rfl
                have hlg : lb ≠ g0 := fun e => by have := h.dd .l .a lb trivial trivial rfl (by rw [e]; rfl); cases this
                have hfz : wr.frozen? ⟨g0, i, none⟩ = false := h.r0.frozenAt i
                have HR0 : Hid ((wr.drew.alloc (.cells #[.int .i64 (-1 - (i : Int)), .int .i64 (m : Int)] 63)).ownsRow 0 63 2 (.slice ra m rc) m (O2 (mkR i m))) := (hrow.drew).alloc _
                have HH := hid h
                have HOR := hid hor
                have HRV := hid hrv
                have HME := hid hme
                clear h hor hrow hrv hme q1
                refine wp_region_lex 23 26 (fun W => W.cell? ⟨lb, 0, none⟩ = some (.slice (some ⟨g0, 0, none⟩) n c0) ∧ W.cell? ⟨g0, i, none⟩ = some (.slice ra m rc)) (by kernel_rfl) (by kernel_rfl) (by decide) (by kernel_rfl) (by kernel_rfl) ⟨by simpa using l0, by simpa using q0⟩ ?_
                simp only [List.take_succ_cons, List.take_zero, List.drop_succ_cons, List.drop_zero]
                iterate 23
                  refine lex_cons ?_ rfl (fun W hW => ?_) (fun _ _ _ h => h) ?_
                  rotate_left
                  · obtain ⟨s0, s1⟩ := hW
                    go_simp <;> with_reducible rfl
                  simp only [Act.put, List.setIfInBounds_toArray, List.set_cons_zero, List.set_cons_succ]
                refine lex_nil (tail_cons fun K hK => ?_)
                go_simp
                refine hK.out _ _ (fun _ => ⟨by simp [l0, hlb, World.cell?_alloc_lt], by simp [q0, hg0, World.cell?_alloc_lt]⟩) (tail_cons fun K hK => ?_)
                refine step_append_row rfl (.tmp 94) (.tmp 106) 22 rfl 0 63 i5 (.agg #[.int .i64 0, .int .i64 0]) 2 16 Try.underlying22 hi5 hz50 hz51 hz52 rfl (by decide) (.slice ra m rc) m (O2 (mkR i m)) (by simp [Act.eval, Act.put]) (by exact HR0.out) wr.heap.size 1 1 #[.int .i64 (-1 - (i : Int)), .int .i64 (m : Int)] 63 (by simp [Act.eval, Act.put]) (by exact heap_alloc_new wr.drew _) rfl (by decide) (by simp [Value.oneCell']) (by unfold maxLen; omega) (by omega) (by omega) ?_
                intro v3 w3 ho3 hf3
                obtain ⟨y1, y3, rfl, _⟩ := row_shape ho3.out
                have hz3 : wr.heap.size + 1 ≤ w3.heap.size := (by have := hf3.out.size; simpa using this)
                have e1 : w3.heap[lb]? = wr.heap[lb]? := (hf3.out.block lb (by (try simp) <;> omega) hli).trans (heap_alloc_old _ _ (by (try simp) <;> omega))
                have e2 : w3.heap[g0]? = wr.heap[g0]? := (hf3.out.block g0 (by (try simp) <;> omega) hgi).trans (heap_alloc_old _ _ (by (try simp) <;> omega))
                have p0 := (cell_eq e1 0).trans l0
                have p1 := (cell_eq e2 i).trans q0
                have p2 := (frz_eq e2 i).trans hfz
                have E1 := hid e1
                have E2 := hid e2
                clear e1 e2
                refine hK.out _ _ (fun _ => ⟨p0, p1⟩) (tail_cons fun K hK => ?_)
                simp only [Act.put, List.setIfInBounds_toArray, List.set_cons_zero, List.set_cons_succ]
                go_simp
                refine hK.out _ _ (fun _ => ⟨p0, p1⟩) (tail_cons fun K hK => ?_)
                simp only [Act.put, List.setIfInBounds_toArray, List.set_cons_zero, List.set_cons_succ]
                go_simp
                refine hK.out _ _ (fun h => absurd rfl h) (tail_nil ?_)
                all_goals go_wp2_with fail
                all_goals go_meet
                all_goals
                  have hwl : ∀ b, b < wr.heap.size → (wr.drew.alloc (.cells #[.int .i64 (-1 - (i : Int)), .int .i64 (m : Int)] 63)).heap[b]? = wr.heap[b]? := fun b hb => heap_alloc_old _ _ (by (try simp) <;> omega)
                  have hfr : Frm (wr.drew.alloc (.cells #[.int .i64 (-1 - (i : Int)), .int .i64 (m : Int)] 63)) w3 (RV' i) (.slice y1 (m + 1) y3) := by rw [HRV.out, ← HME.out]; exact hf3.out
                  obtain ⟨s1, s2⟩ := HH.out.growR i hil (O2 (mkR i (m + 1))) (.slice y1 (m + 1) y3) (by (try simp) <;> omega) hwl hfr (by rw [← HME.out, mkR_succ]; exact ho3.out)
                  have hor : ∀ b, (RV' i).ownBlock = some b → (∃ p : Ky, p.ok n ∧ bkO lb (.slice (some ⟨g0, 0, none⟩) n c0) (.slice (some ⟨g1, 0, none⟩) n c1) RV SV p = some b) ∨ w.heap.size ≤ b := fun b hb => (HOR.out (.r i) b hil hb).imp (fun h => ⟨.r i, hil, h⟩) id
                  refine ⟨⟨_, SV', _, lm', ⟨s1.ob, s1.r0, s1.r1, fun j hj => ?_, s1.ls, s1.dd, s1.bd⟩, fun p b hp hb => ?_⟩, ⟨hf3.out.os.trans HC.out.os, hf3.out.tape.trans HC.out.tape, hf3.out.output.trans HC.out.output, by have := HC.out.size; simp [World.setCell]; omega, fun b hb hn => ?_⟩⟩
                  · have := s1.lr j hj
                    by_cases e : j = i
                    · subst e; simp only [if_pos] at this ⊢; rw [← HME.out] at this ⊢; exact this
                    · simp only [if_neg e] at this ⊢; exact this
                  · rcases s2 p b hp hb with h1 | h1
                    · exact HOR.out p b hp h1
                    · right; have := HC.out.size; omega
                  · have hbr : b < wr.heap.size := by have := HC.out.size; omega
                    exact (Below.heap_setCell _ _ _ _ (fun e => hn ⟨.a, trivial, by rw [e]; rfl⟩)).trans ((hfr.block b (by (try simp) <;> omega) (fun h => (hor b h).elim hn (by omega))).trans ((hwl b hbr).trans (HC.out.block b hb hn)))
              case rest =>
                clear HPH HC
                obtain ⟨HPH, HC⟩ := hcut
                obtain ⟨V1, rfl⟩ : ∃ V1, V1 = wc := ⟨_, rfl⟩
                go_upto_region 19 with fail
                go_cut [110] from 79 to 159 (fun y wx => ∃ bb : Bool, y = .bool bb ∧ Hid (PH w wx lb n (.slice (some ⟨g0, 0, none⟩) n c0) (.slice (some ⟨g1, 0, none⟩) n c1) RV SV (1000000 + 10 * i + 2 * k + 1)) ∧ Hid (Chs (fun b => ∃ p : Ky, p.ok n ∧ bkO lb (.slice (some ⟨g0, 0, none⟩) n c0) (.slice (some ⟨g1, 0, none⟩) n c1) RV SV p = some b) w wx))
                case first =>
                  go_region
                  all_goals go_wp2_with fail
                  all_goals go_meet
                  all_goals
                    refine ⟨_, rfl, HPH.out.below ?_, HC.out.trans (Chs.of_below (A := fun _ => False) ?_) (fun _ h => h) (fun _ h => h.elim)⟩
                  all_goals (repeat (first | exact Below.refl _ _ | refine Below.setCell ?_ (by simp) _ | refine Below.alloc ?_ (by simp) _ | refine Below.drew ?_))
                case rest =>
                  clear HPH HC
                  obtain ⟨bb, rfl, HPH, HC⟩ := hcut
                  obtain ⟨V, rfl⟩ : ∃ V, V = wc := ⟨_, rfl⟩
                  obtain ⟨RV', SV', ln', lm', h, hor⟩ := HPH.out
                  obtain ⟨ra, rc, hrv, _⟩ := row_shape (h.ls i hil)
                  obtain ⟨g0', c0', g1', c1', e0, e1, q0, q1⟩ := h.at0 i hil
                  simp only [Value.slice.injEq, Option.some.injEq, Addr.mk.injEq] at e0 e1
                  obtain ⟨⟨rfl, _⟩, _, rfl⟩ := e0
                  obtain ⟨⟨rfl, _⟩, _, rfl⟩ := e1
                  have hm := (h.bd i hil).2
                  have hrow := h.ls i hil
                  have hgi : (SV' i).ownBlock ≠ some g1 := fun e => by have := h.dd .b (.s i) g1 trivial hil rfl e; cases this
                  have hli : (SV' i).ownBlock ≠ some lb := fun e => by have := h.dd .l (.s i) lb trivial hil rfl e; cases this
                  rw [hrv] at q1 hrow hgi hli
                  obtain ⟨m, hme⟩ : ∃ m, m = lm' i := ⟨_, rfl⟩
                  rw [← hme] at q1 hrow hm hgi hli
                  have l0 : V.cell? ⟨lb, 1, none⟩ = some (.slice (some ⟨g1, 0, none⟩) n c1) := Joins.cell_of_block h.ob 1
                  have hlb : lb < V.heap.size := h.low .l lb trivial rfl
                  have hg0 : g1 < V.heap.size := h.low .b g1 trivial rfl
                  have hlg : lb ≠ g1 := fun e => by have := h.dd .l .b lb trivial trivial rfl (by rw [e]; rfl); cases this
                  have hfz : V.frozen? ⟨g1, i, none⟩ = false := h.r1.frozenAt i
                  have HROW := hid hrow
                  have HH := hid h
                  have HOR := hid hor
                  have HRV := hid hrv
                  have HME := hid hme
                  clear h hor hrow hrv hme q0
                  cases bb with
                  | true =>
                    go_upto_region 20 with fail
                    have HR0 : Hid ((V.drew.alloc (.cells #[.int .i64 0, .slice none 0 0, .int .i64 0, .slice none 0 0, .int .i64 0, .int .i64 0, .bool false, .int .i64 0, .string ⟨#[]⟩] 25)).ownsRow 0 25 9 (.slice ra m rc) m ((mkS i m).flatMap Nv.cs)) := (HROW.out.drew).alloc _
                    refine wp_region_lex 19 22 (fun W => W.cell? ⟨lb, 1, none⟩ = some (.slice (some ⟨g1, 0, none⟩) n c1) ∧ W.cell? ⟨g1, i, none⟩ = some (.slice ra m rc)) (by kernel_rfl) (by kernel_rfl) (by decide) (by kernel_rfl) (by kernel_rfl) ⟨by simpa using l0, by simpa using q1⟩ ?_
                    simp only [List.take_succ_cons, List.take_zero, List.drop_succ_cons, List.drop_zero]
                    iterate 19
                      refine lex_cons ?_ rfl (fun W hW => ?_) (fun _ _ _ h => h) ?_
                      rotate_left
                      · obtain ⟨s0, s1⟩ := hW
                        go_simp <;> with_reducible rfl
                      simp only [Act.put, List.setIfInBounds_toArray, List.set_cons_zero, List.set_cons_succ]
                    refine lex_nil (tail_cons fun K hK => ?_)
                    go_simp
                    refine hK.out _ _ (fun _ => ⟨by simp [l0, hlb, World.cell?_alloc_lt], by simp [q1, hg0, World.cell?_alloc_lt]⟩) (tail_cons fun K hK => ?_)
                    refine step_append_row rfl (.tmp 117) (.tmp 130) 23 rfl 0 25 i2 Z9 9 112 Try.underlying23 hi2 hz20 hz21 hz22 rfl (by decide) (.slice ra m rc) m ((mkS i m).flatMap Nv.cs) (by simp [Act.eval, Act.put]) (by exact HR0.out) V.heap.size 1 1 #[.int .i64 0, .slice none 0 0, .int .i64 0, .slice none 0 0, .int .i64 0, .int .i64 0, .bool false, .int .i64 0, .string ⟨#[]⟩] 25 (by simp [Act.eval, Act.put]) (by exact heap_alloc_new V.drew _) rfl (by decide) (by simp [Value.oneCell']) (by unfold maxLen; omega) (by omega) (by omega) ?_
                    intro v3 w3 ho3 hf3
                    obtain ⟨y1, y3, rfl, _⟩ := row_shape ho3.out
                    have hz3 : V.heap.size + 1 ≤ w3.heap.size := (by have := hf3.out.size; simpa using this)
                    have e1 : w3.heap[lb]? = V.heap[lb]? := (hf3.out.block lb (by (try simp) <;> omega) hli).trans (heap_alloc_old _ _ (by (try simp) <;> omega))
                    have e2 : w3.heap[g1]? = V.heap[g1]? := (hf3.out.block g1 (by (try simp) <;> omega) hgi).trans (heap_alloc_old _ _ (by (try simp) <;> omega))
                    have p0 := (cell_eq e1 1).trans l0
                    have p1 := (cell_eq e2 i).trans q1
                    have p2 := (frz_eq e2 i).trans hfz
                    have E1 := hid e1
                    have E2 := hid e2
                    clear e1 e2
                    have hwl : ∀ b, b < V.heap.size → (V.drew.alloc (.cells #[.int .i64 0, .slice none 0 0, .int .i64 0, .slice none 0 0, .int .i64 0, .int .i64 0, .bool false, .int .i64 0, .string ⟨#[]⟩] 25)).heap[b]? = V.heap[b]? := fun b hb => heap_alloc_old _ _ (by (try simp) <;> omega)
                    have hfr : Frm (V.drew.alloc (.cells #[.int .i64 0, .slice none 0 0, .int .i64 0, .slice none 0 0, .int .i64 0, .int .i64 0, .bool false, .int .i64 0, .string ⟨#[]⟩] 25)) w3 (SV' i) (.slice y1 (m + 1) y3) := by rw [HRV.out, ← HME.out]; exact hf3.out
                    have HWL := hid hwl
                    have HFR := hid hfr
                    clear hwl hfr
                    refine hK.out _ _ (fun _ => ⟨p0, p1⟩) (tail_cons fun K hK => ?_)
                    simp only [Act.put, List.setIfInBounds_toArray, List.set_cons_zero, List.set_cons_succ]
                    go_simp
                    refine hK.out _ _ (fun _ => ⟨p0, p1⟩) (tail_cons fun K hK => ?_)
                    simp only [Act.put, List.setIfInBounds_toArray, List.set_cons_zero, List.set_cons_succ]
                    go_simp
                    refine hK.out _ _ (fun h => absurd rfl h) (tail_nil ?_)
                    obtain ⟨rb, hrb⟩ : ∃ rb, y1 = some ⟨rb, 0, none⟩ := by
                      rcases ho3.out.2 with ⟨_, e⟩ | ⟨g, cap, cur, e, _⟩
                      · omega
                      · simp only [Value.slice.injEq] at e; exact ⟨g, e.1⟩
                    subst hrb
                    have hv3 : (Value.slice (some ⟨rb, 0, none⟩) (m + 1) y3).ownBlock ≠ some g1 := fun e => by
                      rcases HFR.out.own g1 e with h1 | h1
                      · rw [HRV.out, ← HME.out] at h1; exact hgi h1
                      · simp at h1; omega
                    have hrow4 := own_setCell (a := ⟨g1, i, none⟩) (u := .slice (some ⟨rb, 0, none⟩) (m + 1) y3) ho3.out hv3
                    have ht := row_there4 hrow4 (j := m * 9) (m := 9) (by omega)
                    have b5 : (m : Int) < ((m + 1 : Nat) : Int) := by omega
                    have HROW4 := hid hrow4
                    clear hrow4
                    go_wp2_with ((with_reducible refine store25 rfl (.tmp 133) (.tmp 128) rfl rb m (mkN i m) ?_ ?_ ht ?_); (rfl); (rfl))
                    obtain ⟨s1, s2⟩ := HH.out.growS i hil ((mkS i m).flatMap Nv.cs ++ (Nv.cs ⟨0, none, 0, 0, 0, none, 0, 0, 0, 0, false, 0, ⟨#[]⟩⟩)) (.slice (some ⟨rb, 0, none⟩) (m + 1) y3) (by (try simp) <;> omega) HWL.out HFR.out (by rw [← HME.out]; exact ho3.out)
                    have hxs : ((mkS i m).flatMap Nv.cs ++ (Nv.cs ⟨0, none, 0, 0, 0, none, 0, 0, 0, 0, false, 0, ⟨#[]⟩⟩)).take (m * 9) ++ (mkN i m).cs ++ ((mkS i m).flatMap Nv.cs ++ (Nv.cs ⟨0, none, 0, 0, 0, none, 0, 0, 0, 0, false, 0, ⟨#[]⟩⟩)).drop (m * 9 + (mkN i m).cs.length) = (mkS i (m + 1)).flatMap Nv.cs := by
                      rw [mkS_succ, List.take_append_of_le_length (by rw [mkS_len]; exact Nat.le_refl _), List.take_of_length_le (by rw [mkS_len]; exact Nat.le_refl _), List.drop_of_length_le (by rw [List.length_append, mkS_len]; simp), List.append_nil]
                    have hset := row_setCells (mkN i m).cs (m * 9) _ _ HROW4.out (by rw [List.length_append]; have := mkS_len i m; simp at this ⊢; omega)
                    have s3 := s1.setS i hil ((mkS i (m + 1)).flatMap Nv.cs) (w' := (w3.setCell ⟨g1, i, none⟩ (.slice (some ⟨rb, 0, none⟩) (m + 1) y3)).setCells rb (m * 9) (mkN i m).cs) (by simp only [if_pos]; rw [← HME.out, ← hxs]; exact hset) (fun b hb => setCells_old rb _ _ _ b (by intro e; apply hb; simp only [if_pos]; rw [e]; rfl))
                    have hor : ∀ b, (SV' i).ownBlock = some b → (∃ p : Ky, p.ok n ∧ bkO lb (.slice (some ⟨g0, 0, none⟩) n c0) (.slice (some ⟨g1, 0, none⟩) n c1) RV SV p = some b) ∨ w.heap.size ≤ b := fun b hb => (HOR.out (.s i) b hil hb).imp (fun h => ⟨.s i, hil, h⟩) id
                    have hrb2 : (∃ p : Ky, p.ok n ∧ bkO lb (.slice (some ⟨g0, 0, none⟩) n c0) (.slice (some ⟨g1, 0, none⟩) n c1) RV SV p = some rb) ∨ w.heap.size ≤ rb := by
                      rcases HFR.out.own rb rfl with h1 | h1
                      · exact hor rb h1
                      · right; have := HC.out.size; simp at h1; omega
                    refine ⟨⟨k + 1, by push_cast; rfl, by omega, ⟨RV', _, ln', _, ⟨s3.ob, s3.r0, s3.r1, s3.lr, fun j hj => ?_, s3.dd, fun j hj => (by have := s3.bd j hj; omega)⟩, fun p b hp hb => ?_⟩, ⟨?_, ?_, ?_, ?_, fun b hb hn => ?_⟩⟩, by simp [intOf]; omega⟩
                    · have := s3.ls j hj
                      by_cases e : j = i
                      · subst e; simp only [if_pos] at this ⊢; rw [← HME.out] at this ⊢; exact this
                      · simp only [if_neg e] at this ⊢; exact this
                    · rcases s2 p b hp hb with h1 | h1
                      · exact HOR.out p b hp h1
                      · right; have := HC.out.size; omega
                    · exact (Below.setCells (B := 0) (b := rb) (Nat.zero_le _) (mkN i m).cs (m * 9) _ _ (Below.refl 0 _)).os.trans (hf3.out.os.trans HC.out.os)
                    · exact (Below.setCells (B := 0) (b := rb) (Nat.zero_le _) (mkN i m).cs (m * 9) _ _ (Below.refl 0 _)).tape.trans (hf3.out.tape.trans HC.out.tape)
                    · exact (Below.setCells (B := 0) (b := rb) (Nat.zero_le _) (mkN i m).cs (m * 9) _ _ (Below.refl 0 _)).output.trans (hf3.out.output.trans HC.out.output)
                    · have := HC.out.size; have := setCells_size rb (mkN i m).cs (m * 9) (w3.setCell ⟨g1, i, none⟩ (.slice (some ⟨rb, 0, none⟩) (m + 1) y3)); simp [World.setCell] at this ⊢; omega
                    · have hbr : b < V.heap.size := by have := HC.out.size; omega
                      exact (setCells_old rb _ _ _ b (fun e => by subst e; exact hrb2.elim hn (by omega))).trans ((Below.heap_setCell _ _ _ _ (fun e => hn ⟨.b, trivial, by rw [e]; rfl⟩)).trans ((HFR.out.block b (by (try simp) <;> omega) (fun h => (hor b h).elim hn (by omega))).trans ((HWL.out b hbr).trans (HC.out.block b hb hn))))
                  | false =>
                    go_upto_region 22 with fail
                    have HR0 : Hid ((V.drew.alloc (.cells #[.int .i64 (-1 - (i : Int)), .slice none 0 0, .int .i64 0, .slice none 0 0, .int .i64 0, .int .i64 0, .bool false, .int .i64 (m : Int), .string ⟨#[]⟩] 25)).ownsRow 0 25 9 (.slice ra m rc) m ((mkS i m).flatMap Nv.cs)) := (HROW.out.drew).alloc _
                    refine wp_region_lex 23 26 (fun W => W.cell? ⟨lb, 1, none⟩ = some (.slice (some ⟨g1, 0, none⟩) n c1) ∧ W.cell? ⟨g1, i, none⟩ = some (.slice ra m rc)) (by kernel_rfl) (by kernel_rfl) (by decide) (by kernel_rfl) (by kernel_rfl) ⟨by simpa using l0, by simpa using q1⟩ ?_
                    simp only [List.take_succ_cons, List.take_zero, List.drop_succ_cons, List.drop_zero]
                    iterate 23
                      refine lex_cons ?_ rfl (fun W hW => ?_) (fun _ _ _ h => h) ?_
                      rotate_left
                      · obtain ⟨s0, s1⟩ := hW
                        go_simp <;> with_reducible rfl
                      simp only [Act.put, List.setIfInBounds_toArray, List.set_cons_zero, List.set_cons_succ]
                    refine lex_nil (tail_cons fun K hK => ?_)
                    go_simp
                    refine hK.out _ _ (fun _ => ⟨by simp [l0, hlb, World.cell?_alloc_lt], by simp [q1, hg0, World.cell?_alloc_lt]⟩) (tail_cons fun K hK => ?_)
                    refine step_append_row rfl (.tmp 145) (.tmp 157) 23 rfl 0 25 i2 Z9 9 112 Try.underlying23 hi2 hz20 hz21 hz22 rfl (by decide) (.slice ra m rc) m ((mkS i m).flatMap Nv.cs) (by simp [Act.eval, Act.put]) (by exact HR0.out) V.heap.size 1 1 #[.int .i64 (-1 - (i : Int)), .slice none 0 0, .int .i64 0, .slice none 0 0, .int .i64 0, .int .i64 0, .bool false, .int .i64 (m : Int), .string ⟨#[]⟩] 25 (by simp [Act.eval, Act.put]) (by exact heap_alloc_new V.drew _) rfl (by decide) (by simp [Value.oneCell']) (by unfold maxLen; omega) (by omega) (by omega) ?_
                    intro v3 w3 ho3 hf3
                    obtain ⟨y1, y3, rfl, _⟩ := row_shape ho3.out
                    have hz3 : V.heap.size + 1 ≤ w3.heap.size := (by have := hf3.out.size; simpa using this)
                    have e1 : w3.heap[lb]? = V.heap[lb]? := (hf3.out.block lb (by (try simp) <;> omega) hli).trans (heap_alloc_old _ _ (by (try simp) <;> omega))
                    have e2 : w3.heap[g1]? = V.heap[g1]? := (hf3.out.block g1 (by (try simp) <;> omega) hgi).trans (heap_alloc_old _ _ (by (try simp) <;> omega))
                    have p0 := (cell_eq e1 1).trans l0
                    have p1 := (cell_eq e2 i).trans q1
                    have p2 := (frz_eq e2 i).trans hfz
                    have E1 := hid e1
                    have E2 := hid e2
                    clear e1 e2
                    have hwl : ∀ b, b < V.heap.size → (V.drew.alloc (.cells #[.int .i64 (-1 - (i : Int)), .slice none 0 0, .int .i64 0, .slice none 0 0, .int .i64 0, .int .i64 0, .bool false, .int .i64 (m : Int), .string ⟨#[]⟩] 25)).heap[b]? = V.heap[b]? := fun b hb => heap_alloc_old _ _ (by (try simp) <;> omega)
                    have hfr : Frm (V.drew.alloc (.cells #[.int .i64 (-1 - (i : Int)), .slice none 0 0, .int .i64 0, .slice none 0 0, .int .i64 0, .int .i64 0, .bool false, .int .i64 (m : Int), .string ⟨#[]⟩] 25)) w3 (SV' i) (.slice y1 (m + 1) y3) := by rw [HRV.out, ← HME.out]; exact hf3.out
                    have HWL := hid hwl
                    have HFR := hid hfr
                    clear hwl hfr
                    refine hK.out _ _ (fun _ => ⟨p0, p1⟩) (tail_cons fun K hK => ?_)
                    simp only [Act.put, List.setIfInBounds_toArray, List.set_cons_zero, List.set_cons_succ]
                    go_simp
                    refine hK.out _ _ (fun _ => ⟨p0, p1⟩) (tail_cons fun K hK => ?_)
                    simp only [Act.put, List.setIfInBounds_toArray, List.set_cons_zero, List.set_cons_succ]
                    go_simp
                    refine hK.out _ _ (fun h => absurd rfl h) (tail_nil ?_)
                    go_wp2_with fail
                    obtain ⟨s1, s2⟩ := HH.out.growS i hil ((mkS i (m + 1)).flatMap Nv.cs) (.slice y1 (m + 1) y3) (by (try simp) <;> omega) HWL.out HFR.out (by rw [← HME.out, mkS_succ]; exact ho3.out)
                    have hor : ∀ b, (SV' i).ownBlock = some b → (∃ p : Ky, p.ok n ∧ bkO lb (.slice (some ⟨g0, 0, none⟩) n c0) (.slice (some ⟨g1, 0, none⟩) n c1) RV SV p = some b) ∨ w.heap.size ≤ b := fun b hb => (HOR.out (.s i) b hil hb).imp (fun h => ⟨.s i, hil, h⟩) id
                    refine ⟨⟨k + 1, by push_cast; rfl, by omega, ⟨RV', _, ln', _, ⟨s1.ob, s1.r0, s1.r1, s1.lr, fun j hj => ?_, s1.dd, fun j hj => (by have := s1.bd j hj; omega)⟩, fun p b hp hb => ?_⟩, ⟨hf3.out.os.trans HC.out.os, hf3.out.tape.trans HC.out.tape, hf3.out.output.trans HC.out.output, by have := HC.out.size; simp [World.setCell]; omega, fun b hb hn => ?_⟩⟩, by simp [intOf]; omega⟩
                    · have := s1.ls j hj
                      by_cases e : j = i
                      · subst e; simp only [if_pos] at this ⊢; rw [← HME.out] at this ⊢; exact this
                      · simp only [if_neg e] at this ⊢; exact this
                    · rcases s2 p b hp hb with h1 | h1
                      · exact HOR.out p b hp h1
                      · right; have := HC.out.size; omega
                    · have hbr : b < V.heap.size := by have := HC.out.size; omega
                      exact (Below.heap_setCell _ _ _ _ (fun e => hn ⟨.b, trivial, by rw [e]; rfl⟩)).trans ((HFR.out.block b (by (try simp) <;> omega) (fun h => (hor b h).elim hn (by omega))).trans ((HWL.out b hbr).trans (HC.out.block b hb hn)))
            · have b3 : decide ((k : Int) < 5) = false := by simp; omega
              obtain rfl : k = 5 := by omega
              go_wp2
              exact ⟨⟨i + 1, by push_cast; rfl, by omega, (by have := HPH.out; rwa [show 1000000 + 10 * i + 2 * 5 = 1000000 + 10 * (i + 1) by omega] at this), HC.out⟩, by simp [intOf]; omega⟩
        · have b1 : decide ((i : Int) < (n : Int)) = false := by simp; omega
          obtain rfl : n = i := by omega
          go_wp2_with fail
          clear b1 l0
          go_loopw [8] (fun y wq => ∃ i : Nat, y = .int .i64 (i : Int) ∧ i ≤ n ∧ Hid (PH w wq lb n (.slice a0 n c0) (.slice a1 n c1) RV SV (1000000 + 10 * n)) ∧ Hid (Chs (fun b => ∃ p : Ky, p.ok n ∧ bkO lb (.slice a0 n c0) (.slice a1 n c1) RV SV p = some b) w wq)) (fun y _ => n - (intOf y).toNat)
          case atStart => exact ⟨0, rfl, by omega, HPH.out, HC.out⟩
          case round =>
            clear HPH HC
            obtain ⟨i, rfl, hi, HPH, HC⟩ := hrel
            have l0 : wr.cell? ⟨lb, 0, none⟩ = some (.slice a0 n c0) := by obtain ⟨_, _, _, _, h, _⟩ := HPH.out; exact Joins.cell_of_block h.ob 0
            by_cases hil : i < n
            · obtain ⟨g0, g1, rfl, rfl⟩ : ∃ g0 g1, a0 = some ⟨g0, 0, none⟩ ∧ a1 = some ⟨g1, 0, none⟩ := by
                obtain ⟨_, _, _, _, h, _⟩ := HPH.out
                obtain ⟨g0, c0', g1, c1', e0, e1, _, _⟩ := h.at0 i hil
                simp only [Value.slice.injEq] at e0 e1
                exact ⟨g0, g1, e0.1, e1.1⟩
              have b1 : decide ((i : Int) < (n : Int)) = true := by simp; omega
              have ad1 := add_one i (by omega)
              have ng := neg_i i (by omega)
              have b2 : (i : Int) < (n : Int) := by omega
              go_wp2_with fail
              clear l0
              obtain ⟨RV', SV', ln', lm', h, hor⟩ := HPH.out
              obtain ⟨ra, rc, hrv, _⟩ := row_shape (h.lr i hil)
              obtain ⟨sa, sc, hsv, _⟩ := row_shape (h.ls i hil)
              have hbl := (h.bd i hil).1
              have hbm := (h.bd i hil).2
              have HRV := hid hrv
              have HSV := hid hsv
              have HOR := hid hor
              have HST := hid h
              clear h hor hrv hsv HPH
              go_loopw [9] (fun y wq => ∃ k : Nat, y = .int .i64 (k : Int) ∧ k ≤ ln' i ∧ Hid (ST wq lb n (.slice (some ⟨g0, 0, none⟩) n c0) (.slice (some ⟨g1, 0, none⟩) n c1) RV' SV' ln' lm' (fun j => O2 (mkR j (ln' j))) (fun j => (mkS j (lm' j)).flatMap Nv.cs) (1000000 + 10 * n)) ∧ Hid (Chs (fun b => ∃ p : Ky, p.ok n ∧ bkO lb (.slice (some ⟨g0, 0, none⟩) n c0) (.slice (some ⟨g1, 0, none⟩) n c1) RV SV p = some b) w wq)) (fun y _ => ln' i - (intOf y).toNat)
              case atStart => exact ⟨0, rfl, by omega, HST.out, HC.out⟩
              case round =>
                clear HST HC
                obtain ⟨k, rfl, hk, HST, HC⟩ := hrel
                have l0 : wr.cell? ⟨lb, 0, none⟩ = some (.slice (some ⟨g0, 0, none⟩) n c0) := Joins.cell_of_block HST.out.ob 0
                obtain ⟨g0', c0', g1', c1', e0, e1, q0, q1⟩ := HST.out.at0 i hil
                simp only [Value.slice.injEq, Option.some.injEq, Addr.mk.injEq] at e0 e1
                obtain ⟨⟨rfl, _⟩, _, rfl⟩ := e0
                obtain ⟨⟨rfl, _⟩, _, rfl⟩ := e1
                rw [HRV.out] at q0
                clear q1
                by_cases hkl : k < ln' i
                · have b3 : decide ((k : Int) < (ln' i : Int)) = true := by simp; omega
                  have b4 : (k : Int) < (ln' i : Int) := by omega
                  have ad2 := add_one k (by omega)
                  have hrow := HST.out.lr i hil
                  rw [HRV.out] at hrow
                  obtain ⟨rb, hrb⟩ : ∃ rb, ra = some ⟨rb, 0, none⟩ := by
                    rcases hrow.2 with ⟨_, e⟩ | ⟨g, cap, cur, e, _⟩
                    · omega
                    · simp only [Value.slice.injEq] at e; exact ⟨g, e.1⟩
                  subst hrb
                  obtain ⟨r0, r1⟩ := O2_at (mkR i (ln' i)) k (by simpa using hkl)
                  have m0 : wr.cell? ⟨rb, k * 2, none⟩ = some (.int .i64 (-1 - (i : Int))) := by rw [hrow.cellAt (k * 2) (by omega), r0]; simp [mkR]
                  have m1 : wr.cell? ⟨rb, k * 2 + 1, none⟩ = some (.int .i64 (k : Int)) := by rw [hrow.cellAt (k * 2 + 1) (by omega), r1]; simp [mkR]
                  have hneq := fun W' => rng_neq (-1 - (i : Int)) (k : Int) W'
                  have hgd := fun x y W' => rng_guard x y (-1 - (i : Int)) (k : Int) (-1 - (i : Int)) (k : Int) W'
                  clear hrow r0 r1
                  go_wp2
                  exact ⟨⟨k + 1, by push_cast; rfl, by omega, HST.out, HC.out⟩, by simp [intOf]; omega⟩
                · have b3 : decide ((k : Int) < (ln' i : Int)) = false := by simp; omega
                  obtain rfl : k = ln' i := by omega
                  go_wp2_with fail
                  clear l0 q0 b3
                  go_loopw [10] (fun y wq => ∃ k : Nat, y = .int .i64 (k : Int) ∧ k ≤ lm' i ∧ Hid (ST wq lb n (.slice (some ⟨g0, 0, none⟩) n c0) (.slice (some ⟨g1, 0, none⟩) n c1) RV' SV' ln' lm' (fun j => O2 (mkR j (ln' j))) (fun j => (mkS j (lm' j)).flatMap Nv.cs) (1000000 + 10 * n)) ∧ Hid (Chs (fun b => ∃ p : Ky, p.ok n ∧ bkO lb (.slice (some ⟨g0, 0, none⟩) n c0) (.slice (some ⟨g1, 0, none⟩) n c1) RV SV p = some b) w wq)) (fun y _ => lm' i - (intOf y).toNat)
                  case atStart => exact ⟨0, rfl, by omega, HST.out, HC.out⟩
                  case round =>
                    clear HST HC
                    obtain ⟨k, rfl, hk, HST, HC⟩ := hrel
                    have l1 : wr.cell? ⟨lb, 1, none⟩ = some (.slice (some ⟨g1, 0, none⟩) n c1) := Joins.cell_of_block HST.out.ob 1
                    obtain ⟨g0', c0', g1', c1', e0, e1, q0, q1⟩ := HST.out.at0 i hil
                    simp only [Value.slice.injEq, Option.some.injEq, Addr.mk.injEq] at e0 e1
                    obtain ⟨⟨rfl, _⟩, _, rfl⟩ := e0
                    obtain ⟨⟨rfl, _⟩, _, rfl⟩ := e1
                    rw [HSV.out] at q1
                    clear q0
                    by_cases hkl : k < lm' i
                    · have b3 : decide ((k : Int) < (lm' i : Int)) = true := by simp; omega
                      have b4 : (k : Int) < (lm' i : Int) := by omega
                      have ad2 := add_one k (by omega)
                      have hrow := HST.out.ls i hil
                      rw [HSV.out] at hrow
                      obtain ⟨rb, hrb⟩ : ∃ rb, sa = some ⟨rb, 0, none⟩ := by
                        rcases hrow.2 with ⟨_, e⟩ | ⟨g, cap, cur, e, _⟩
                        · omega
                        · simp only [Value.slice.injEq] at e; exact ⟨g, e.1⟩
                      subst hrb
                      have m0 : wr.cell? ⟨rb, k * 9, none⟩ = some (.int .i64 (-1 - (i : Int))) := by
                        rw [hrow.cellAt (k * 9) (by omega)]
                        have := flat9 (mkS i (lm' i)) k 0 (by simpa using hkl) (by omega)
                        rw [Nat.add_zero] at this
                        rw [this]; simp [mkS]
                      have m1 : wr.cell? ⟨rb, k * 9 + 7, none⟩ = some (.int .i64 (k : Int)) := by
                        rw [hrow.cellAt (k * 9 + 7) (by omega), flat9 (mkS i (lm' i)) k 7 (by simpa using hkl) (by omega)]; simp [mkS]
                      clear hrow
                      go_wp2
                      exact ⟨⟨k + 1, by push_cast; rfl, by omega, HST.out, HC.out⟩, by simp [intOf]; omega⟩
                    · have b3 : decide ((k : Int) < (lm' i : Int)) = false := by simp; omega
                      go_wp2
                      exact ⟨⟨i + 1, by push_cast; rfl, by omega, ⟨RV', SV', ln', lm', HST.out, HOR.out⟩, HC.out⟩, by simp [intOf]; omega⟩
            · have b1 : decide ((i : Int) < (n : Int)) = false := by simp; omega
              go_wp2
              go_ret
              exact ⟨rfl, HC.out⟩
end Go.Proofs.Ytdidopgenhpakaa
namespace Go.Proofs.Ytdidopgenhpakaa
open Go.RowKit Go.Lk
set_option linter.unusedVariables false
set_option linter.unusedSimpArgs false
theorem TP.build {w : World} {A : Nat → Prop} {N : Nv} {R : List (Int × Int)} {ts : List Tn} {MS : List Nv} {b1 b2 : Nat} (ok : N.ok) (hRk : ∀ x ∈ R, I64ok x.1 ∧ I64ok x.2) (rr : w.ownsRow b1 63 2 (.slice N.r1 N.r2 N.r3) R.length (O2 R)) (hA1 : ∀ b, N.rb = some b → A b)
    (sr : w.ownsRow b2 25 9 (.slice N.s1 N.s2 N.s3) ts.length (MS.flatMap Nv.cs)) (hl : MS.length = ts.length) (hA2 : ∀ b, N.sb = some b → A b) (hk : ∀ i (hi : i < ts.length), TP w A (MS.getD i default) ts[i]) : TP w A N (.mk N.k R N.a2 ts N.a4 N.a5 N.a6 N.a7 N.a8) := by
  refine .mk (ND := fun i => MS.getD i default) ok (row_len rr) (fun hn => ?_) hRk (row_len sr) (fun hp => ?_) hk
  · rcases rr.2 with ⟨e, h0⟩ | ⟨b, cap, cur, e, _⟩
    · exact absurd (List.length_eq_zero_iff.1 h0) hn
    · have hrow := rr
      rw [e] at hrow
      have e' := e
      simp only [Value.slice.injEq] at e
      refine ⟨b, 0, e.1, hA1 b (by show (Value.slice N.r1 N.r2 N.r3).ownBlock = some b; rw [e']; rfl), fun i hi => ?_⟩
      have := O2_at R i hi
      rw [Nat.zero_add, hrow.cellAt (i * 2) (by omega), hrow.cellAt (i * 2 + 1) (by omega)]
      exact this
  · obtain ⟨b, e1, e2, h9⟩ := row_nine sr hl.symm hp
    refine ⟨b, 0, e1, hA2 b e2, fun i hi => ?_⟩
    have := h9 i (by omega)
    simp only [List.getD_eq_getElem?_getD, List.getElem?_eq_getElem (show i < MS.length by omega), Option.getD_some]
    exact this
theorem getD_snoc (MS : List Nv) (M : Nv) (j i : Nat) (hl : MS.length = i) (hj : j < i + 1) : (MS ++ [M]).getD j default = if j = i then M else MS.getD j default := by
  by_cases e : j = i
  · subst e; subst hl; simp [List.getD_eq_getElem?_getD]
  · rw [if_neg e, List.getD_eq_getElem?_getD, List.getElem?_append_left (by omega), List.getD_eq_getElem?_getD]
set_option maxRecDepth 100000 in
set_option maxHeartbeats 8000000 in
theorem copy16 {w0 : World} {B : Nat} {N : Nv} {t : Tn} (h : TI w0 B N t) : t.nodes ≤ 200000 → t.small = true → ∀ (w : World), B ≤ w.heap.size → (∀ b, b < B → w.heap[b]? = w0.heap[b]?) →
    Calls Try.prog 18 #[N.v] w fun e w' => ∃ M, e = .returned (Nv.v M) ∧ TP w' (fun b => w.heap.size ≤ b ∧ b < w'.heap.size) M t ∧ Below w.heap.size w w' := by
  induction h with
  | @mk N R ts ND ok hr hR hRk hs hS hk ih =>
  intro hno hsm w hB hw
  simp only [Tn.small, Bool.and_eq_true, decide_eq_true_eq] at hsm
  simp only [Tn.nodes] at hno
  have hR5 := hsm.1
  have IH : ∀ i (hi : i < ts.length) (w : World), B ≤ w.heap.size → (∀ b, b < B → w.heap[b]? = w0.heap[b]?) → Calls Try.prog 18 #[(ND i).v] w fun e w' => ∃ M, e = .returned (Nv.v M) ∧ TP w' (fun b => w.heap.size ≤ b ∧ b < w'.heap.size) M ts[i] ∧ Below w.heap.size w w' := fun i hi => ih i hi (by have := nodes_get ts i hi; omega) (smallL_get hsm.2 i hi)
  have hlen : ts.length ≤ 200000 := by have := nodes_ge ts; omega
  have HRL : Hid (N.r2 = R.length) := hr
  have hr2 : N.r2 * 16 ≤ 140737488351232 := by omega
  have HRW : Hid (∀ w1 : World, (∀ b, b < B → w1.heap[b]? = w0.heap[b]?) → R2 w1 B N.r1 R) := fun w1 h1 => hR.kept h1
  have HOK := hid ok
  obtain ⟨k, r1, r2, r3, a2, s1, s2, s3, a4, a5, a6, a7, a8⟩ := N
  dsimp only at hs hS HRL HRW hr2
  have hm2 : s2 ≤ 200000 := by omega
  have HW := hid hw
  have HS := hid hS
  have HIH := hid IH
  have HL := hid hs
  obtain ⟨i5, hi5, hz50, hz51, hz52⟩ := info_parts info53
  obtain ⟨i2, hi2, hz20, hz21, hz22⟩ := info_parts info25
  clear ok hr hR hk hS hw ih hs IH hno hlen hR5 hsm
  have HSRC : Hid (∀ V : World, (∀ b, b < B → V.heap[b]? = w0.heap[b]?) → 0 < r2 → ∃ b f, r1 = some ⟨b, f, none⟩ ∧ ∀ j u, (O2 R)[j]? = some u → V.cell? ⟨b, f + j, none⟩ = some u) := fun V hV hp => (HRW.out V hV).src (by have := HRL.out; omega)
  have HO2 : Hid ((O2 R).length = r2 * 2) := (O2_len R).trans (by rw [HRL.out])
  go_enter Try.func18, Try.ntmps18
  go_upto_region 2 with fail
  obtain ⟨W, hW⟩ : ∃ W, W = (w.alloc (.cells #[.int .i64 k, .slice r1 r2 r3, .int .i64 a2, .slice s1 s2 s3, .int .i64 a4, .int .i64 a5, .bool a6, .int .i64 a7, .string a8] 25)).alloc (.cells #[.int .i64 0, .slice none 0 0, .int .i64 0, .slice none 0 0, .int .i64 0, .int .i64 0, .bool false, .int .i64 0, .string ⟨#[]⟩] 25) := ⟨_, rfl⟩
  rw [← hW]
  have hX : BxN W w.heap.size ⟨k, r1, r2, r3, a2, s1, s2, s3, a4, a5, a6, a7, a8⟩ := by rw [hW]; exact (heap_alloc_old _ _ (by simp)).trans (heap_alloc_new w _)
  have hY : BxZ W (w.heap.size + 1) := by rw [hW]; exact two_new w _ _ _
  have hb : Below w.heap.size w W := by rw [hW]; exact below_two' w _ _
  have hsW : W.heap.size = w.heap.size + 2 := by rw [hW]; simp
  obtain ⟨x, hx⟩ : ∃ x, x = w.heap.size := ⟨_, rfl⟩
  rw [← hx] at hX hY hb hsW ⊢
  have HX := hid hX
  have HY := hid hY
  have HB := hid hb
  have HSW := hid hsW
  have HXE := hid hx
  have hxl : x < W.heap.size := by omega
  have hwkW : ∀ b, b < B → W.heap[b]? = w0.heap[b]? := fun b hb' => (hb.block b (by omega)).trans (HW.out b hb')
  have HWK := hid hwkW
  have HSR := hid (HSRC.out W hwkW)
  obtain ⟨q0, q1, q2, q3, q4, q5, q6, q7, q8⟩ := nine' hX
  clear hX hY hb hsW hx hW hwkW HSRC
  go_upto_region 3 with (at_builtin; refine wpList_append_nil rfl (.tmp 7) (.tmp 9) 22 rfl 63 i5 (.agg #[.int .i64 0, .int .i64 0]) 2 16 Try.underlying22 hi5 hz50 hz51 hz52 rfl (by decide) rfl r1 r2 r3 (O2 R) rfl HO2.out HSR.out (O2_one R) (by unfold maxLen; omega) (by omega) ?_; intro v4 wc ho4 hb4 hl4; obtain ⟨c1, c3, rfl, hc3⟩ := row_shape ho4.out; have HC3 := hid hc3; clear hc3)
  have HRR : Hid (wc.ownsRow W.heap.size 63 2 (.slice c1 r2 c3) r2 (O2 R)) := ho4.out
  have HBW : Hid (Below W.heap.size W wc) := hb4.out
  clear ho4 hb4 hl4 HSR HO2 q0 q1 q2 q3 q4 q5 q6 q7 q8
  have hwl : W.heap.size ≤ wc.heap.size := HBW.out.size
  go_wp2_with fail
  go_loopw [4, 5] (fun u y wq => ∃ (i : Nat) (z1 : Option Addr) (z3 : Nat), u = .slice z1 i z3 ∧ y = .int .i64 (i : Int) ∧ i ≤ s2 ∧ Hid (∃ MS : List Nv, MS.length = i ∧ wq.ownsRow W.heap.size 25 9 (.slice z1 i z3) i (MS.flatMap Nv.cs) ∧ ∀ j, j < i → TP wq (fun b => W.heap.size ≤ b ∧ b < wq.heap.size ∧ (Value.slice z1 i z3).ownBlock ≠ some b) (MS.getD j default) (ts.getD j default)) ∧ Hid (∀ b, (Value.slice z1 i z3).ownBlock = some b → (Value.slice c1 r2 c3).ownBlock ≠ some b) ∧ Hid (wq.ownsRow W.heap.size 63 2 (.slice c1 r2 c3) r2 (O2 R)) ∧ Hid (Below W.heap.size W wq)) (fun _ y _ => s2 - (intOf y).toNat)
  case atStart => exact ⟨0, none, 0, rfl, rfl, by omega, ⟨[], rfl, World.ownsRow_nil _ _ _ _, fun j hj => by omega⟩, (fun b hb => by cases hb), HRR.out, HBW.out⟩
  case round =>
    obtain ⟨i, z1, z3, rfl, rfl, hi, HST, HUR, HRq, HBq⟩ := hrel
    have hXq : BxN wr x ⟨k, r1, r2, r3, a2, s1, s2, s3, a4, a5, a6, a7, a8⟩ := (HBq.out.block x hxl).trans HX.out
    obtain ⟨q0, q1, q2, q3, q4, q5, q6, q7, q8⟩ := nine' hXq
    have hwl' : W.heap.size ≤ wr.heap.size := by have := HBq.out.size; omega
    have hxr : x < wr.heap.size := by omega
    by_cases hil : i < s2
    · have b1 : decide ((i : Int) < (s2 : Int)) = true := by simp; omega
      have b2 : (i : Int) < (s2 : Int) := by omega
      have ad1 : IntKind.i64.wrap ((i : Int) + 1) = (i : Int) + 1 := by simp [IntKind.wrap, IntKind.bits, IntKind.signed]; omega
      have hlt : i < ts.length := by rw [← HL.out]; exact hil
      obtain ⟨b, o, hs1, hb, hc⟩ := HS.out (by omega)
      subst hs1
      have hwk : ∀ b, b < B → wr.heap[b]? = w0.heap[b]? := fun b hb => (HBq.out.block b (by have := HSW.out; have := HXE.out; omega)).trans (HWK.out b hb)
      obtain ⟨n0, n1, n2, n3, n4, n5, n6, n7, n8⟩ := (hc i hlt).kept (hwk b hb)
      have HC := HIH.out i hlt wr (by have := HSW.out; have := HXE.out; omega) hwk
      obtain ⟨P, hP⟩ : ∃ P, P = ND i := ⟨_, rfl⟩
      rw [← hP] at HC n0 n1 n2 n3 n4 n5 n6 n7 n8
      obtain ⟨MS, hS0, hS1, hS2⟩ := HST.out
      have HS0 := hid hS0
      have HS1 := hid hS1
      have HS2 := hid hS2
      clear hc hP hwk hXq HST hS0 hS1 hS2
      go_wp2_with (first | (go_at_call 18; (with_reducible refine HC.mono ?_); rintro e w2 ⟨M, rfl, hM, hb2⟩; have HM := hid hM; have HB2 := hid hb2; have hz2 : wr.heap.size ≤ w2.heap.size := hb2.size; have HO1 : Hid (((w2.alloc (.cells #[.int .i64 M.k, .slice M.r1 M.r2 M.r3, .int .i64 M.a2, .slice M.s1 M.s2 M.s3, .int .i64 M.a4, .int .i64 M.a5, .bool M.a6, .int .i64 M.a7, .string M.a8] 25)).alloc (.cells #[.int .i64 M.k, .slice M.r1 M.r2 M.r3, .int .i64 M.a2, .slice M.s1 M.s2 M.s3, .int .i64 M.a4, .int .i64 M.a5, .bool M.a6, .int .i64 M.a7, .string M.a8] 25)).ownsRow W.heap.size 25 9 (.slice z1 i z3) i (MS.flatMap Nv.cs)) := ((row_kept HS1.out (fun b hb => hb2.block b (HS1.out.lt b hb).2)).alloc _).alloc _; have HLt : Hid (((w2.alloc (.cells #[.int .i64 M.k, .slice M.r1 M.r2 M.r3, .int .i64 M.a2, .slice M.s1 M.s2 M.s3, .int .i64 M.a4, .int .i64 M.a5, .bool M.a6, .int .i64 M.a7, .string M.a8] 25)).alloc (.cells #[.int .i64 M.k, .slice M.r1 M.r2 M.r3, .int .i64 M.a2, .slice M.s1 M.s2 M.s3, .int .i64 M.a4, .int .i64 M.a5, .bool M.a6, .int .i64 M.a7, .string M.a8] 25)).ownsRow 0 25 9 (.slice (some ⟨w2.heap.size + 1, 0, none⟩) 1 1) 1 (Nv.cs M)) := (by have := World.ownsRow_lit (base := 0) (e := 25) (size := 9) (w2.alloc (.cells #[.int .i64 M.k, .slice M.r1 M.r2 M.r3, .int .i64 M.a2, .slice M.s1 M.s2 M.s3, .int .i64 M.a4, .int .i64 M.a5, .bool M.a6, .int .i64 M.a7, .string M.a8] 25)) #[.int .i64 M.k, .slice M.r1 M.r2 M.r3, .int .i64 M.a2, .slice M.s1 M.s2 M.s3, .int .i64 M.a4, .int .i64 M.a5, .bool M.a6, .int .i64 M.a7, .string M.a8] 1 (by omega) (by unfold maxLen; omega) rfl; have e : (w2.alloc (.cells #[.int .i64 M.k, .slice M.r1 M.r2 M.r3, .int .i64 M.a2, .slice M.s1 M.s2 M.s3, .int .i64 M.a4, .int .i64 M.a5, .bool M.a6, .int .i64 M.a7, .string M.a8] 25)).heap.size = w2.heap.size + 1 := (by simp); rw [e] at this; exact this); clear hM hb2 HC) | (at_builtin; refine wpList_append_row rfl (.tmp 24) (.tmp 26) 23 rfl W.heap.size 25 i2 Z9 9 112 Try.underlying23 hi2 hz20 hz21 hz22 rfl (by decide) (.slice z1 i z3) i (MS.flatMap Nv.cs) rfl HO1.out (.slice (some ⟨w2.heap.size + 1, 0, none⟩) 1 1) 1 0 (Nv.cs M) rfl HLt.out (by omega) (one9 M) (by unfold maxLen; omega) (by omega) (by (try simp) <;> omega) ?_; intro v3 w3 ho3 hf3 _; obtain ⟨y1, y3, rfl, _⟩ := row_shape ho3.out))
      have hz3 : w2.heap.size + 2 ≤ w3.heap.size := by have := hf3.out.size; simpa using this
      have hk3 : ∀ b, b < w2.heap.size → (Value.slice z1 i z3).ownBlock ≠ some b → w3.heap[b]? = w2.heap[b]? := fun b hb hn => (hf3.out.block b (by (try simp) <;> omega) hn).trans ((heap_alloc_old _ _ (by (try simp) <;> omega)).trans (heap_alloc_old _ _ hb))
      have hkr : ∀ b, b < wr.heap.size → (Value.slice z1 i z3).ownBlock ≠ some b → w3.heap[b]? = wr.heap[b]? := fun b hb hn => (hk3 b (by omega) hn).trans (HB2.out.block b hb)
      have hown3 : ∀ b, (Value.slice y1 (i + 1) y3).ownBlock = some b → (Value.slice z1 i z3).ownBlock = some b ∨ w2.heap.size ≤ b := fun b hb => by
        rcases hf3.out.own b hb with h | h
        · exact .inl h
        · right; simp at h; omega
      refine ⟨⟨i + 1, y1, y3, rfl, by push_cast; rfl, by omega, ⟨MS ++ [M], by simp [HS0.out], ?_, fun j hj => ?_⟩, fun b hb h => ?_, row_kept HRq.out (fun b hb => hkr b (HRq.out.lt b hb).2 (fun h => HUR.out b h hb)), ⟨hf3.out.os.trans (HB2.out.os.trans HBq.out.os), hf3.out.tape.trans (HB2.out.tape.trans HBq.out.tape), hf3.out.output.trans (HB2.out.output.trans HBq.out.output), by have := HBq.out.size; omega, fun b hb => (hkr b (by omega) (fun h => by have := (HS1.out.lt b h).1; omega)).trans (HBq.out.block b hb)⟩⟩, by simp [intOf]; omega⟩
      · rw [List.flatMap_append]
        simpa using ho3.out
      · rw [getD_snoc MS M j i HS0.out hj]
        by_cases e : j = i
        · subst e
          rw [if_pos rfl]
          rw [getD_lt hlt]
          refine HM.out.kept (fun b hb => hk3 b hb.2 (fun h => by have := (HS1.out.lt b h).2; have := hb.1; omega)) (fun b hb => ⟨by have := hb.1; omega, by have := hb.2; omega, fun h => ?_⟩)
          rcases hown3 b h with h3 | h3
          · have := (HS1.out.lt b h3).2; have := hb.1; omega
          · have := hb.2; omega
        · rw [if_neg e]
          refine (HS2.out j (by omega)).kept (fun b hb => hkr b hb.2.1 hb.2.2) (fun b hb => ⟨hb.1, by have := hb.2.1; omega, fun h => ?_⟩)
          rcases hown3 b h with h3 | h3
          · exact hb.2.2 h3
          · have := hb.2.1; omega
      · rcases hown3 b hb with h3 | h3
        · exact HUR.out b h3 h
        · have := (HRq.out.lt b h).2; omega
    · have b1 : decide ((i : Int) < (s2 : Int)) = false := by simp; omega
      obtain rfl : i = s2 := by omega
      obtain ⟨MS, hS0, hS1, hS2⟩ := HST.out
      have HS0 := hid hS0
      have HS1 := hid hS1
      have HS2 := hid hS2
      have hYq : BxZ wr (x + 1) := (HBq.out.block (x + 1) (by have := HSW.out; omega)).trans HY.out
      have f1 := Joins.unfrozen_of_block hXq 1
      have f3 := Joins.unfrozen_of_block hXq 3
      obtain ⟨y0, yy1, y2, yy3, y4, y5, y6, y7, y8⟩ := nine' hYq
      have g0 := Joins.unfrozen_of_block hYq 0
      have g1 := Joins.unfrozen_of_block hYq 1
      have g2 := Joins.unfrozen_of_block hYq 2
      have g3 := Joins.unfrozen_of_block hYq 3
      have g4 := Joins.unfrozen_of_block hYq 4
      have g5 := Joins.unfrozen_of_block hYq 5
      have g6 := Joins.unfrozen_of_block hYq 6
      have g7 := Joins.unfrozen_of_block hYq 7
      have g8 := Joins.unfrozen_of_block hYq 8
      have HYq := hid hYq
      clear hXq hYq HST hS0 hS1 hS2
      go_wp2
      obtain ⟨X, hX⟩ : ∃ X, X = (wr.setCell ⟨x, 1, none⟩ (.slice c1 r2 c3)).setCell ⟨x, 3, none⟩ (.slice z1 i z3) := ⟨_, rfl⟩
      rw [← hX]
      have hXo : ∀ b, b ≠ x → X.heap[b]? = wr.heap[b]? := fun b hb => by rw [hX]; exact (Below.heap_setCell _ _ _ _ hb).trans (Below.heap_setCell _ _ _ _ hb)
      have hXb : Below x w X := by rw [hX]; exact ((HB.out.trans (Joins.below_le HBq.out (by omega))).setCell (by exact Nat.le_refl _) _).setCell (by exact Nat.le_refl _) _
      have hXs : X.heap.size = wr.heap.size := by rw [hX]; simp [World.setCell]
      obtain ⟨y1', y2', y3', y4'⟩ := nineSet4 X (x + 1) (.int .i64 k) (.slice c1 r2 c3) (.int .i64 a2) (.slice z1 i z3) (.int .i64 a4) (.int .i64 a5) (.bool a6) (.int .i64 a7) (.string a8) ((hXo _ (by omega)).trans HYq.out)
      obtain ⟨Y, hY⟩ : ∃ Y, Y = (((((((((X.setCell ⟨x + 1, 0, none⟩ (.int .i64 k)).setCell ⟨x + 1, 1, none⟩ (.slice c1 r2 c3)).setCell ⟨x + 1, 2, none⟩ (.int .i64 a2)).setCell ⟨x + 1, 3, none⟩ (.slice z1 i z3)).setCell ⟨x + 1, 4, none⟩ (.int .i64 a4)).setCell ⟨x + 1, 5, none⟩ (.int .i64 a5)).setCell ⟨x + 1, 6, none⟩ (.bool a6)).setCell ⟨x + 1, 7, none⟩ (.int .i64 a7)).setCell ⟨x + 1, 8, none⟩ (.string a8)) := ⟨_, rfl⟩
      rw [← hY] at y1' y2' y3' y4'
      have y4'' := y4' hXb (by omega)
      rw [← hY]
      refine bodyPost_ret (results_cell_row rfl _ _ (x + 1) 25 _ (0, 0) _ rfl y1' Try.underlying25 rfl (by kernel_rfl)) rfl ?_
      have hkeep : ∀ b, W.heap.size ≤ b → Y.heap[b]? = wr.heap[b]? := fun b hb => (y2' b (by have := HSW.out; omega)).trans (hXo b (by omega))
      have hYs : Y.heap.size = wr.heap.size := y3'.trans hXs
      have hRlen : r2 = R.length := HRL.out
      rw [← HXE.out]
      obtain ⟨_, z3', ez, hz31, hz32⟩ := row_shape HS1.out
      simp only [Value.slice.injEq] at ez
      obtain ⟨rfl, _, rfl⟩ := ez
      refine ⟨⟨k, c1, r2, c3, a2, z1, i, z3, a4, a5, a6, a7, a8⟩, rfl, TP.build (N := ⟨k, c1, r2, c3, a2, z1, i, z3, a4, a5, a6, a7, a8⟩) (R := R) (ts := ts) (MS := MS) (b1 := W.heap.size) (b2 := W.heap.size) ⟨HOK.out.k, HOK.out.a2, HOK.out.a4, HOK.out.a5, HOK.out.a7, HOK.out.a8, HC3.out, ⟨hz31, hz32⟩⟩ hRk (by rw [← hRlen]; exact row_kept HRq.out (fun b hb => hkeep b (HRq.out.lt b hb).1)) (fun b hb => ⟨by have := (HRq.out.lt b hb).1; omega, by rw [hYs]; exact (HRq.out.lt b hb).2⟩) (by rw [← HL.out]; exact row_kept HS1.out (fun b hb => hkeep b (HS1.out.lt b hb).1)) (by rw [HS0.out]; exact HL.out) (fun b hb => ⟨by have := (HS1.out.lt b hb).1; omega, by rw [hYs]; exact (HS1.out.lt b hb).2⟩) (fun j hj => ?_), y4''⟩
      rw [← getD_lt hj]
      exact (HS2.out j (by have := HL.out; omega)).kept (fun b hb => hkeep b hb.1) (fun b hb => ⟨by have := hb.1; omega, by rw [hYs]; exact hb.2.1⟩)
end Go.Proofs.Ytdidopgenhpakaa
