/- HELPERS: two lists of parses that hold the same are the same. -/
import Derived.Test.YtnpocciioedgpaaK10
/- HELPERS: the places' numbers. -/
namespace Go.Proofs.Ytnpocciioedgpaa
open Go.RowKit
set_option linter.unusedVariables false
set_option linter.unusedSimpArgs false
theorem range_app (n a b : Nat) : List.range' n a ++ List.range' (n + a) b = List.range' n (a + b) := by
  rw [List.range'_append_1]
mutual
theorem num_lbs : ∀ (t : Tn) (n : Nat), (t.num n).lbs = List.range' n t.nodes
  | .mk k R a s mn mx lz ix nm, n => by
    simp only [Tn.num, Lt.lbs, Tn.nodes]
    rw [numL_lbs s (n + 1), Nat.add_comm 1 (nodesL s), List.range'_succ]
theorem numL_lbs : ∀ (ts : List Tn) (n : Nat), lbsL (numL ts n) = List.range' n (nodesL ts)
  | [], n => by simp [numL, lbsL, nodesL]
  | t :: ts, n => by
    simp only [numL, lbsL, nodesL]
    rw [num_lbs t n, numL_lbs ts (n + t.nodes), range_app]
end
mutual
theorem ents_lbs : ∀ (t : Tn) (n : Nat) (B : Way) (up : Int) (nth : Nat), ((t.num n).ents B up nth).map (fun e => e.t.lb) = List.range' n t.nodes
  | .mk k R a s mn mx lz ix nm, n, B, up, nth => by
    simp only [Tn.num, Lt.ents, Tn.nodes, List.map_cons]
    rw [entsL_lbs s (n + 1), Nat.add_comm 1 (nodesL s), List.range'_succ]
    rfl
theorem entsL_lbs : ∀ (ts : List Tn) (n : Nat) (p : Lt) (B : Way) (i : Nat), (entsL p B (numL ts n) i).map (fun e => e.t.lb) = List.range' n (nodesL ts)
  | [], n, p, B, i => by simp [numL, entsL, nodesL]
  | t :: ts, n, p, B, i => by
    simp only [numL, entsL, nodesL, List.map_append]
    rw [ents_lbs t n, entsL_lbs ts (n + t.nodes), range_app]
end
theorem num_nodup (t : Tn) (n : Nat) : (t.num n).lbs.Nodup := by rw [num_lbs]; exact List.nodup_range' ..
theorem ents_len (t : Tn) (n : Nat) (B : Way) (up : Int) (nth : Nat) : ((t.num n).ents B up nth).length = t.nodes := by
  have := congrArg List.length (ents_lbs t n B up nth)
  simpa using this
theorem ents_lt {t : Tn} {n : Nat} {B : Way} {up : Int} {nth : Nat} {e : Pl} (he : e ∈ (t.num n).ents B up nth) : n ≤ e.t.lb ∧ e.t.lb < n + t.nodes := by
  have h : e.t.lb ∈ List.range' n t.nodes := by rw [← ents_lbs t n B up nth]; exact List.mem_map.2 ⟨e, he, rfl⟩
  rw [List.mem_range'_1] at h
  exact h
/-- the place of that number -/
theorem ents_at (t : Tn) (n : Nat) (B : Way) (up : Int) (nth : Nat) (j : Nat) (hj : j < ((t.num n).ents B up nth).length) : (((t.num n).ents B up nth)[j]).t.lb = n + j := by
  have h := congrArg (fun l => l[j]?) (ents_lbs t n B up nth)
  have hn : j < t.nodes := by rw [ents_len] at hj; exact hj
  simp only [List.getElem?_map, List.getElem?_eq_getElem hj, Option.map_some] at h
  rw [List.getElem?_range' hn] at h
  simpa using h
end Go.Proofs.Ytnpocciioedgpaa
/- HELPERS: the places as they are laid, one behind the other; what laying leaves. -/
namespace Go.Proofs.Ytnpocciioedgpaa
open Go.RowKit
set_option linter.unusedVariables false
set_option linter.unusedSimpArgs false
/-- two lists, one by one -/
inductive A2 {α β : Type} (R : α → β → Prop) : List α → List β → Prop
  | nil : A2 R [] []
  | cons {a : α} {b : β} {l : List α} {m : List β} (h : R a b) (t : A2 R l m) : A2 R (a :: l) (b :: m)
theorem A2.mono {α β : Type} {R R' : α → β → Prop} (hR : ∀ a b, R a b → R' a b) {l : List α} {m : List β} (h : A2 R l m) : A2 R' l m := by
  induction h with
  | nil => exact .nil
  | cons h _ ih => exact .cons (hR _ _ h) ih
theorem A2.app {α β : Type} {R : α → β → Prop} {l l' : List α} {m m' : List β} (h : A2 R l m) (h' : A2 R l' m') : A2 R (l ++ l') (m ++ m') := by
  induction h with
  | nil => exact h'
  | cons h _ ih => exact .cons h ih
theorem A2.len {α β : Type} {R : α → β → Prop} {l : List α} {m : List β} (h : A2 R l m) : l.length = m.length := by
  induction h with
  | nil => rfl
  | cons h _ ih => simp [ih]
theorem A2.get {α β : Type} {R : α → β → Prop} {l : List α} {m : List β} (h : A2 R l m) : ∀ (j : Nat) (hj : j < m.length), ∃ (hl : j < l.length), R l[j] m[j] := by
  induction h with
  | nil => intro j hj; simp at hj
  | cons h _ ih =>
    intro j hj
    cases j with
    | zero => exact ⟨by simp, h⟩
    | succ j =>
      obtain ⟨h1, h2⟩ := ih j (by simpa using hj)
      exact ⟨by simp; omega, h2⟩
/-- what is laid of a place -/
structure Pq where
  M : Nv
  sv : Value
  up : Int
  nth : Int
abbrev Pq.cs (q : Pq) : List Value := [.int .i64 q.M.k, .slice q.M.r1 q.M.r2 q.M.r3, .int .i64 q.M.a2, .slice q.M.s1 q.M.s2 q.M.s3, .int .i64 q.M.a4, .int .i64 q.M.a5, .bool q.M.a6, .int .i64 q.M.a7, .string q.M.a8, q.sv, .int .i64 q.up, .int .i64 q.nth]
theorem flat12_len (L : List Pq) : (L.flatMap Pq.cs).length = L.length * 12 := by
  induction L with
  | nil => rfl
  | cons M L ih =>
    have e : (Pq.cs M).length = 12 := rfl
    rw [List.flatMap_cons, List.length_append, ih, e, List.length_cons]
    omega
theorem flat12 (L : List Pq) : ∀ (j k : Nat) (hj : j < L.length), k < 12 → (L.flatMap Pq.cs)[j * 12 + k]? = (Pq.cs L[j])[k]? := by
  induction L with
  | nil => intro j k hj; simp at hj
  | cons M L ih =>
    intro j k hj hk
    rw [List.flatMap_cons]
    have e9 : (Pq.cs M).length = 12 := rfl
    cases j with
    | zero => rw [List.getElem?_append_left (by rw [e9]; omega)]; simp
    | succ j =>
      rw [List.getElem?_append_right (by rw [e9]; omega)]
      have := ih j k (by simpa using hj) hk
      rw [e9, show (j + 1) * 12 + k - 12 = j * 12 + k by omega, this]
      rfl
/-- a place's subs set -/
theorem flat12_set (L L' : List Pq) (q : Pq) (v : Value) : ((L ++ q :: L').flatMap Pq.cs).set (L.length * 12 + 9) v = (L ++ { q with sv := v } :: L').flatMap Pq.cs := by
  rw [List.flatMap_append, List.flatMap_append, List.flatMap_cons, List.flatMap_cons]
  rw [List.set_append_right _ _ (by rw [flat12_len]; omega), flat12_len, show L.length * 12 + 9 - L.length * 12 = 9 by omega]
  rfl
theorem row_setN {w : World} {base e size n b cap : Nat} {xs : List Value} (h : w.ownsRow base e size (.slice (some ⟨b, 0, none⟩) n cap) n xs) (k : Nat) (x : Value) : (w.setCell ⟨b, k, none⟩ x).ownsRow base e size (.slice (some ⟨b, 0, none⟩) n cap) n (xs.set k x) ∧ w.frozen? ⟨b, k, none⟩ = false := by
  have hl := h.1
  rcases h.2 with ⟨h, _⟩ | ⟨g, cap', cur, he, hb, hgg, h1, h2, h3, h4⟩
  · cases h
  · simp only [Value.slice.injEq, Option.some.injEq, Addr.mk.injEq] at he
    obtain ⟨⟨rfl, _⟩, _, rfl⟩ := he
    refine ⟨⟨by simp [hl], .inr ⟨b, cap, cur.setIfInBounds k x, rfl, hb, Joins.block_setCell hgg _, h1, h2, by simpa using h3, ?_⟩⟩, Joins.unfrozen_of_block hgg k⟩
    simp only [Array.toList_setIfInBounds]
    rw [List.take_set, h4]
/-- the hunt while its places are laid -/
structure LM (hb B0 : Nat) (c1 c2 c3 c4 : Value) (W : World) (v : Value) (L : List Pq) : Prop where
  box : W.heap[hb]? = some (.cells #[v, c1, c2, c3, c4] 42 (0, 0))
  row : W.ownsRow B0 64 12 v L.length (L.flatMap Pq.cs)
  hbl : hb < B0
  bs : B0 ≤ W.heap.size
/-- what laying leaves -/
structure LF (hb B0 : Nat) (W W' : World) : Prop where
  os : W'.os = W.os
  tape : W'.tape = W.tape
  output : W'.output = W.output
  size : W.heap.size ≤ W'.heap.size
  low : ∀ (b : Nat), b < B0 → b ≠ hb → W'.heap[b]? = W.heap[b]?
  typ : ∀ (b : Nat) (cur : Array Value) (T : Nat), (T = 3 ∨ T = 28) → W.heap[b]? = some (.cells cur T (0, 0)) → W'.heap[b]? = some (.cells cur T (0, 0))
theorem LF.refl (hb B0 : Nat) (W : World) : LF hb B0 W W := ⟨rfl, rfl, rfl, Nat.le_refl _, fun _ _ _ => rfl, fun _ _ _ _ h => h⟩
theorem LF.trans {hb B0 : Nat} {a b c : World} (h : LF hb B0 a b) (k : LF hb B0 b c) : LF hb B0 a c := ⟨k.os.trans h.os, k.tape.trans h.tape, k.output.trans h.output, Nat.le_trans h.size k.size, fun i hi hn => (k.low i hi hn).trans (h.low i hi hn), fun i cur T hT x => k.typ i cur T hT (h.typ i cur T hT x)⟩
theorem LF.of_below {hb B0 : Nat} {W W' : World} (h : Below W.heap.size W W') (hN : B0 ≤ W.heap.size) : LF hb B0 W W' :=
  ⟨h.os, h.tape, h.output, h.size, fun b hb _ => h.block b (by omega), fun b cur T _ hx => (h.block b (Array.getElem?_eq_some_iff.1 hx).1).trans hx⟩
/-- nothing but blocks that were not there -/
theorem LF.of_new {hb B0 : Nat} {W a c : World} (h : LF hb B0 W a) (hN : B0 ≤ W.heap.size) (k : Below W.heap.size a c) : LF hb B0 W c :=
  ⟨k.os.trans h.os, k.tape.trans h.tape, k.output.trans h.output, Nat.le_trans h.size k.size, fun b hb hn => (k.block b (by omega)).trans (h.low b hb hn), fun b cur T hT hx => (k.block b (Array.getElem?_eq_some_iff.1 hx).1).trans (h.typ b cur T hT hx)⟩
theorem LF.rw {hb B0 : Nat} {W W' : World} {v : Value} {L : List Int} (f : LF hb B0 W W') (h : Rw W v L) : Rw W' v L := by
  rcases h with h | ⟨h0, h⟩
  · exact .inl h
  · refine .inr ⟨h0, h.1, ?_⟩
    rcases h.2 with hn | ⟨g, cap, cur, hv, hb, hg, rest⟩
    · exact .inl hn
    · exact .inr ⟨g, cap, cur, hv, hb, f.typ g cur 3 (.inl rfl) hg, rest⟩
theorem LF.own {hb B0 base n : Nat} {W W' : World} {v : Value} {xs : List Value} (f : LF hb B0 W W') (h : W.ownsRow base 3 1 v n xs) : W'.ownsRow base 3 1 v n xs := by
  refine ⟨h.1, ?_⟩
  rcases h.2 with hn | ⟨g, cap, cur, hv, hb, hg, rest⟩
  · exact .inl hn
  · exact .inr ⟨g, cap, cur, hv, hb, f.typ g cur 3 (.inl rfl) hg, rest⟩
/-- a place that was laid -/
structure Lq (A : Nat → Prop) (W : World) (q : Pq) (e : Pl) : Prop where
  tp : TP W A q.M e.t.tn
  sv : ∃ sa sc, q.sv = .slice sa e.t.sub.length sc
  rw : Rw W q.sv (e.t.sub.map fun t => (t.lb : Int))
  up : q.up = e.up
  nth : q.nth = (e.nth : Int)
theorem Lq.kept {A : Nat → Prop} {hb B0 : Nat} {W W' : World} {q : Pq} {e : Pl} (h : Lq A W q e) (f : LF hb B0 W W') (hA : ∀ b, A b → b < B0 ∧ b ≠ hb) : Lq A W' q e :=
  ⟨h.tp.kept (fun b hb => f.low b (hA b hb).1 (hA b hb).2) (fun b hb => hb), h.sv, f.rw h.rw, h.up, h.nth⟩
/-- one place more, while the hunt's box is set -/
theorem LM.push {hb B0 : Nat} {c1 c2 c3 c4 : Value} {W W3 : World} {v v' : Value} {L : List Pq} {q : Pq} {o : Obj} (h : LM hb B0 c1 c2 c3 c4 W v L) (hm : Moved (W.alloc o) W3 v v') (ho : W3.ownsRow B0 64 12 v' (L.length + 1) (L.flatMap Pq.cs ++ Pq.cs q)) :
    LM hb B0 c1 c2 c3 c4 (W3.setCell ⟨hb, 0, none⟩ v') v' (L ++ [q]) ∧ LF hb B0 W (W3.setCell ⟨hb, 0, none⟩ v') := by
  have hbl := (Array.getElem?_eq_some_iff.1 h.box).1
  have hs3 : W.heap.size + 1 ≤ W3.heap.size := by have := moved_size hm; simpa using this
  have old : ∀ k, k < W.heap.size → v.ownBlock ≠ some k → W3.heap[k]? = W.heap[k]? := fun k hk hne => (moved_old' hm (by simp; omega) hne).trans (heap_alloc_old W _ hk)
  have hb3 : W3.heap[hb]? = some (.cells #[v, c1, c2, c3, c4] 42 (0, 0)) := (old hb hbl (own_ne h.row h.box (by decide))).trans h.box
  have set : ∀ k, k ≠ hb → (W3.setCell ⟨hb, 0, none⟩ v').heap[k]? = W3.heap[k]? := fun k hk => Below.heap_setCell _ _ _ _ hk
  have hbs := h.bs
  refine ⟨⟨Joins.block_setCell (i := 0) hb3 _, ?_, h.hbl, by simp [World.setCell]; omega⟩, ?_, ?_, ?_, by simp [World.setCell]; omega, fun b hb1 hb2 => ?_, fun b cur T hT hx => ?_⟩
  · rw [List.length_append, List.flatMap_append]
    simp only [List.length_cons, List.length_nil, List.flatMap_cons, List.flatMap_nil, List.append_nil]
    exact own_setCell ho (own_ne ho hb3 (by decide))
  · rcases hm with ⟨_, h⟩ | ⟨_, h⟩ <;> exact h.os
  · rcases hm with ⟨_, h⟩ | ⟨_, h⟩ <;> exact h.tape
  · rcases hm with ⟨_, h⟩ | ⟨_, h⟩ <;> exact h.output
  · exact (set b hb2).trans (old b (by omega) (fun e => by have := (h.row.lt b e).1; omega))
  · refine (set b (fun e => ?_)).trans ((old b (Array.getElem?_eq_some_iff.1 hx).1 (own_ne h.row hx (by rcases hT with rfl | rfl <;> decide))).trans hx)
    rw [e, h.box] at hx
    simp at hx
    rcases hT with rfl | rfl <;> exact absurd hx.2 (by decide)
/-- a place's subs are set -/
theorem LM.setSub {hb B0 pb n vc : Nat} {c1 c2 c3 c4 : Value} {W : World} {L L' : List Pq} {q : Pq} (h : LM hb B0 c1 c2 c3 c4 W (.slice (some ⟨pb, 0, none⟩) n vc) (L ++ q :: L')) (hn : n = (L ++ q :: L').length) (u : Value) :
    LM hb B0 c1 c2 c3 c4 (W.setCell ⟨pb, L.length * 12 + 9, none⟩ u) (.slice (some ⟨pb, 0, none⟩) n vc) (L ++ { q with sv := u } :: L') ∧ LF hb B0 W (W.setCell ⟨pb, L.length * 12 + 9, none⟩ u) := by
  have hrow := h.row
  rw [← hn] at hrow
  obtain ⟨h1, h2⟩ := row_setN hrow (L.length * 12 + 9) u
  have hpb := (h.row.lt pb rfl)
  have hne : hb ≠ pb := by have := h.hbl; omega
  have set : ∀ k, k ≠ pb → (W.setCell ⟨pb, L.length * 12 + 9, none⟩ u).heap[k]? = W.heap[k]? := fun k hk => Below.heap_setCell _ _ _ _ hk
  refine ⟨⟨(set hb hne).trans h.box, ?_, h.hbl, by simp [World.setCell]; exact h.bs⟩, rfl, rfl, rfl, by simp [World.setCell], fun b hb1 hb2 => set b (by omega), fun b cur T hT hx => ?_⟩
  · rw [flat12_set] at h1
    rw [show (L ++ { q with sv := u } :: L').length = n by rw [hn]; simp]
    exact h1
  · refine (set b (fun e => ?_)).trans hx
    exact own_ne h.row hx (by rcases hT with rfl | rfl <;> decide) (by rw [e]; rfl)
/-- what is read of a place -/
theorem LM.at {hb B0 pb n vc : Nat} {c1 c2 c3 c4 : Value} {W : World} {L : List Pq} (h : LM hb B0 c1 c2 c3 c4 W (.slice (some ⟨pb, 0, none⟩) n vc) L) (j : Nat) (hj : j < L.length) : P12 W pb j L[j].M L[j].sv L[j].up L[j].nth := by
  have hn : n = L.length := by
    obtain ⟨a, c, e, _⟩ := row_form h.row
    simp only [Value.slice.injEq] at e
    exact e.2.1
  have hrow := h.row
  rw [← hn] at hrow
  have c : ∀ k, k < 12 → W.cell? ⟨pb, j * 12 + k, none⟩ = (Pq.cs L[j])[k]? := fun k hk => by
    rw [hrow.cellAt (j * 12 + k) (by omega), flat12 L j k hj hk]
  exact ⟨c 0 (by omega), c 1 (by omega), c 2 (by omega), c 3 (by omega), c 4 (by omega), c 5 (by omega), c 6 (by omega), c 7 (by omega), c 8 (by omega), c 9 (by omega), c 10 (by omega), c 11 (by omega)⟩
theorem numL_snoc : ∀ (ts : List Tn) (t : Tn) (n : Nat), numL (ts ++ [t]) n = numL ts n ++ [t.num (n + nodesL ts)]
  | [], t, n => by simp [numL, nodesL]
  | u :: ts, t, n => by
    simp only [List.cons_append, numL, nodesL]
    rw [numL_snoc ts t (n + u.nodes), Nat.add_assoc]
theorem numL_len : ∀ (ts : List Tn) (n : Nat), (numL ts n).length = ts.length
  | [], n => rfl
  | t :: ts, n => by simp only [numL, List.length_cons, numL_len ts]
theorem entsL_snoc (p : Lt) (B : Way) (t : Lt) : ∀ (ts : List Lt) (i : Nat), entsL p B (ts ++ [t]) i = entsL p B ts i ++ t.ents (subB p B (i + ts.length)) (p.lb : Int) (i + ts.length)
  | [], i => by simp [entsL]
  | u :: ts, i => by
    simp only [List.cons_append, entsL, List.length_cons]
    rw [entsL_snoc p B t ts (i + 1), List.append_assoc, show i + 1 + ts.length = i + (ts.length + 1) by omega]
theorem num_lb (t : Tn) (n : Nat) : (t.num n).lb = n := by cases t; simp [Tn.num, Lt.lb]
theorem num_sub (k : Int) (R : List (Int × Int)) (a : Int) (ts : List Tn) (mn mx : Int) (lz : Bool) (ix : Int) (nm : ByteArray) (n : Nat) : ((Tn.mk k R a ts mn mx lz ix nm).num n).sub = numL ts (n + 1) := by simp [Tn.num, Lt.sub]
theorem info64 : (Try.prog.info? 64).map (fun i => (i.zero, i.size, i.bytes)) = some (some (.agg #[.int .i64 0, .slice none 0 0, .int .i64 0, .slice none 0 0, .int .i64 0, .int .i64 0, .bool false, .int .i64 0, .string ⟨#[]⟩, .slice none 0 0, .int .i64 0, .int .i64 0]), 12, 152) := by kernel_rfl
end Go.Proofs.Ytnpocciioedgpaa
/- HELPERS: the places of a tree are laid. -/
namespace Go.Proofs.Ytnpocciioedgpaa
open Go.RowKit
set_option linter.unusedVariables false
set_option linter.unusedSimpArgs false
theorem LM.below {hb B0 : Nat} {c1 c2 c3 c4 : Value} {W W' : World} {v : Value} {L : List Pq} (h : LM hb B0 c1 c2 c3 c4 W v L) (k : Below W.heap.size W W') : LM hb B0 c1 c2 c3 c4 W' v L :=
  ⟨(k.block _ (Array.getElem?_eq_some_iff.1 h.box).1).trans h.box, row_kept h.row (fun b hb => k.block b (h.row.lt b hb).2), h.hbl, Nat.le_trans h.bs k.size⟩
theorem news12 (w2 : World) (q : Pq) : ∀ j y, (Pq.cs q)[j]? = some y → (w2.alloc (.cells #[.int .i64 q.M.k, .slice q.M.r1 q.M.r2 q.M.r3, .int .i64 q.M.a2, .slice q.M.s1 q.M.s2 q.M.s3, .int .i64 q.M.a4, .int .i64 q.M.a5, .bool q.M.a6, .int .i64 q.M.a7, .string q.M.a8, q.sv, .int .i64 q.up, .int .i64 q.nth] 64)).cell? ((⟨w2.heap.size, 0, none⟩ : Addr).add j) = some y := by
  intro j y hj
  have hl : j < 12 := by have := (List.getElem?_eq_some_iff.1 hj).1; simpa using this
  have e : ((⟨w2.heap.size, 0, none⟩ : Addr).add j) = ⟨w2.heap.size, j, none⟩ := by by_cases e : j = 0 <;> simp [Addr.add, e]
  rw [e, Joins.cell_of_block (heap_alloc_new w2 _) j]
  simpa using hj
theorem one12 (q : Pq) (h : q.sv.oneCell' = true) : ∀ u ∈ Pq.cs q, u.oneCell' = true := by
  intro u hu
  simp only [Pq.cs, List.mem_cons, List.not_mem_nil, or_false] at hu
  rcases hu with rfl | rfl | rfl | rfl | rfl | rfl | rfl | rfl | rfl | rfl | rfl | rfl <;> first | rfl | exact h
theorem LM.moved {hb B0 : Nat} {c1 c2 c3 c4 : Value} {W W2 : World} {v : Value} {L : List Pq} (h : LM hb B0 c1 c2 c3 c4 W v L) {base n : Nat} {u u' : Value} {xs : List Value} {o : Obj} (hu : W.ownsRow base 3 1 u n xs) (hm : Moved (W.alloc o) W2 u u') : LM hb B0 c1 c2 c3 c4 W2 v L := by
  have hs2 := moved_size hm
  simp at hs2
  have old : ∀ k, k < W.heap.size → u.ownBlock ≠ some k → W2.heap[k]? = W.heap[k]? := fun k hk hne => (moved_old' hm (by simp; omega) hne).trans (heap_alloc_old W _ hk)
  have hbl := (Array.getElem?_eq_some_iff.1 h.box).1
  refine ⟨(old hb hbl (own_ne hu h.box (by decide))).trans h.box, row_kept h.row (fun b hb => ?_), h.hbl, by have := h.bs; omega⟩
  rcases h.row.2 with ⟨e, _⟩ | ⟨g, cap, cur, e, _, hg, _⟩
  · subst e; simp [Value.ownBlock] at hb
  · subst e
    simp [Value.ownBlock] at hb
    subst hb
    exact old _ (Array.getElem?_eq_some_iff.1 hg).1 (own_ne hu hg (by decide))
/-- the blocks below, and the rows of numbers that were made, but one, are still there -/
def Rob (hb B0 N0 : Nat) (u : Value) (w wx : World) : Prop := (∀ b, b < B0 → b ≠ hb → wx.heap[b]? = w.heap[b]?) ∧ ∀ (b : Nat) (cur : Array Value), N0 ≤ b → u.ownBlock ≠ some b → w.heap[b]? = some (.cells cur 3 (0, 0)) → wx.heap[b]? = some (.cells cur 3 (0, 0))
theorem Rob.refl (hb B0 N0 : Nat) (u : Value) (w : World) : Rob hb B0 N0 u w w := ⟨fun _ _ _ => rfl, fun _ _ _ _ h => h⟩
/-- between two Subs -/
def LInv (hb B0 : Nat) (c1 c2 c3 c4 : Value) (A : Nat → Prop) (W : World) (nc : Array Value) (L : List Pq) (q0 : Pq) (ts : List Tn) (i : Nat) (u : Value) (wq : World) : Prop :=
  ∃ va vn vc QS, LM hb B0 c1 c2 c3 c4 wq (.slice (some ⟨va, 0, none⟩) vn vc) (L ++ q0 :: QS) ∧ vn = L.length + 1 + nodesL (ts.take i) ∧ vn = (L ++ q0 :: QS).length ∧ LF hb B0 W wq ∧ wq.heap[W.heap.size]? = some (.cells nc 28 (0, 0)) ∧ wq.ownsRow (W.heap.size + 1) 3 1 u i (I64 ((numL (ts.take i) (L.length + 1)).map fun t => (t.lb : Int))) ∧ (i = 0 → u = .slice none 0 0) ∧ ∀ (p : Lt) (Bw : Way), p.lb = L.length → ∀ wx, Rob hb B0 W.heap.size u wq wx → A2 (Lq A wx) QS (entsL p Bw (numL (ts.take i) (L.length + 1)) 0)
theorem LInv.next {hb B0 : Nat} {c1 c2 c3 c4 : Value} {A : Nat → Prop} {W wr w2 w3 : World} {nc : Array Value} {L : List Pq} {q0 : Pq} {ts : List Tn} {i : Nat} {u u' v3 : Value} {vn : Nat} {QS QS' : List Pq} {o : Obj} (hi : i < ts.length) (hB : B0 ≤ W.heap.size)
    (g2 : vn = L.length + 1 + nodesL (ts.take i)) (g3 : vn = (L ++ q0 :: QS).length) (g4 : LF hb B0 W wr) (g5 : wr.heap[W.heap.size]? = some (.cells nc 28 (0, 0))) (g6 : wr.ownsRow (W.heap.size + 1) 3 1 u i (I64 ((numL (ts.take i) (L.length + 1)).map fun t => (t.lb : Int))))
    (g7 : ∀ (p : Lt) (Bw : Way), p.lb = L.length → ∀ wx, Rob hb B0 W.heap.size u wr wx → A2 (Lq A wx) QS (entsL p Bw (numL (ts.take i) (L.length + 1)) 0))
    (hm : Moved (wr.alloc o) w2 u u') (ho : w2.ownsRow (W.heap.size + 1) 3 1 u' (i + 1) (I64 ((numL (ts.take i) (L.length + 1)).map fun t => (t.lb : Int)) ++ [.int .i64 (vn : Int)])) (hbel : Below (W.heap.size + 1) wr w2)
    (hL3 : LM hb B0 c1 c2 c3 c4 w3 v3 ((L ++ q0 :: QS) ++ QS')) (hF3 : LF hb B0 w2 w3) (hA3 : ∀ Bw wx, Rob hb B0 w2.heap.size (.slice none 0 0) w3 wx → A2 (Lq A wx) QS' ((ts[i].num vn).ents Bw (L.length : Int) i)) :
    LInv hb B0 c1 c2 c3 c4 A W nc L q0 ts (i + 1) u' w3 := by
  have hsz := hbel.size
  have hs2 := moved_size hm
  simp at hs2
  obtain ⟨vb, vc3, rfl⟩ := Joins.ownsRow_form hL3.row (by simp; omega)
  have ht : ts.take (i + 1) = ts.take i ++ [ts[i]] := List.take_succ_eq_append_getElem hi
  have hnum : numL (ts.take (i + 1)) (L.length + 1) = numL (ts.take i) (L.length + 1) ++ [ts[i].num vn] := by rw [ht, numL_snoc, g2]
  have hQ : QS'.length = ts[i].nodes := by
    have h := (hA3 .through w3 (Rob.refl _ _ _ _ _)).len
    rw [ents_len] at h
    exact h
  refine ⟨vb, ((L ++ q0 :: QS) ++ QS').length, vc3, QS ++ QS', ?_, ?_, ?_, ?_, ?_, ?_, fun h => by omega, ?_⟩
  · have h := hL3
    rw [List.append_assoc, List.cons_append] at h
    rw [List.append_assoc, List.cons_append]
    exact h
  · rw [nodesL_take ts i hi, List.length_append, ← g3, hQ]
    omega
  · simp
  · refine (g4.of_new hB (Joins.below_le hbel (by omega))).trans hF3
  · exact hF3.typ _ _ 28 (.inr rfl) ((hbel.block _ (by omega)).trans g5)
  · have h := hF3.own ho
    rw [hnum, List.map_append]
    simp only [List.map_cons, List.map_nil, num_lb]
    have e : I64 (List.map (fun t => (t.lb : Int)) (numL (List.take i ts) (L.length + 1)) ++ [(vn : Int)]) = I64 (List.map (fun t => (t.lb : Int)) (numL (List.take i ts) (L.length + 1))) ++ [.int .i64 (vn : Int)] := by simp [I64]
    rw [e]
    exact h
  · intro p Bw hp wx hR
    have hlow : ∀ b, b < B0 → b ≠ hb → wx.heap[b]? = wr.heap[b]? := fun b h1 h2 => (hR.1 b h1 h2).trans ((hF3.low b h1 h2).trans (hbel.block b (by omega)))
    rw [hnum, entsL_snoc, Nat.zero_add, numL_len, List.length_take, Nat.min_eq_left (by omega)]
    refine (g7 p Bw hp wx ⟨hlow, fun b cur h1 h2 h3 => ?_⟩).app ?_
    · have hbl := (Array.getElem?_eq_some_iff.1 h3).1
      have e2 : w2.heap[b]? = some (.cells cur 3 (0, 0)) := (moved_old' hm (by simp; omega) h2).trans ((heap_alloc_old wr _ hbl).trans h3)
      refine hR.2 b cur h1 (fun e => ?_) (hF3.typ b cur 3 (.inl rfl) e2)
      rcases hm with ⟨h, _⟩ | ⟨h, _⟩
      · exact h2 (h ▸ e)
      · rw [h] at e
        simp at e
        omega
    · rw [hp]
      refine hA3 _ wx ⟨fun b h1 h2 => hR.1 b h1 h2, fun b cur h1 _ h3 => hR.2 b cur (by have := g4.size; omega) (fun e => ?_) h3⟩
      have := (ho.lt b e).2
      omega
set_option maxRecDepth 100000 in
set_option maxHeartbeats 8000000 in
theorem lay16 {hb B0 : Nat} {c1 c2 c3 c4 : Value} {A : Nat → Prop} (hA : ∀ b, A b → b < B0 ∧ b ≠ hb) {W0 : World} {N : Nv} {t : Tn} (h : TP W0 A N t) : ∀ (W : World) (v : Value) (L : List Pq) (up : Int) (nth : Nat), (∀ b, A b → W.heap[b]? = W0.heap[b]?) → LM hb B0 c1 c2 c3 c4 W v L → L.length + t.nodes ≤ 300000 → -1 ≤ up → up ≤ 300000 → nth ≤ 300000 →
    Calls Try.prog 16 #[.pointer (some ⟨hb, 0, none⟩), N.v, .int .i64 up, .int .i64 (nth : Int)] W fun e w' => e = .returned (.tuple #[]) ∧ ∃ v' QS, LM hb B0 c1 c2 c3 c4 w' v' (L ++ QS) ∧ LF hb B0 W w' ∧ ∀ Bw wx, Rob hb B0 W.heap.size (.slice none 0 0) w' wx → A2 (Lq A wx) QS ((t.num L.length).ents Bw up nth) := by
  induction h with
  | @mk N R ts ND ok hr hR hRk hs hS hk ih =>
  intro W v L up nth hW hL hno hu1 hu2 hnt
  simp only [Tn.nodes] at hno
  have hTP : TP W A N (.mk N.k R N.a2 ts N.a4 N.a5 N.a6 N.a7 N.a8) := (TP.mk ok hr hR hRk hs hS hk).kept hW (fun b hb => hb)
  have HTP := hid hTP
  have HIH := hid ih
  have HAA := hid hA
  have HW := hid hW
  obtain ⟨k, r1, r2, r3, a2, s1, s2, s3, a4, a5, a6, a7, a8⟩ := N
  simp only at hs hS
  have hlen : ts.length ≤ 300000 := by have := nodes_ge ts; omega
  have hm2 : s2 ≤ 300000 := by omega
  have HL := hid hs
  have HS := hid hS
  have HNO := hid hno
  obtain ⟨va, vc, rfl, _, _⟩ := row_form hL.row
  obtain ⟨ln, hln⟩ : ∃ ln, ln = L.length := ⟨_, rfl⟩
  rw [← hln] at hL hno ⊢
  have HLN := hid hln
  have hbl := (Array.getElem?_eq_some_iff.1 hL.box).1
  obtain ⟨q0, hq0⟩ : ∃ q0 : Pq, q0 = ⟨⟨k, r1, r2, r3, a2, s1, s2, s3, a4, a5, a6, a7, a8⟩, .slice none 0 0, up, (nth : Int)⟩ := ⟨_, rfl⟩
  obtain ⟨nc, hnc⟩ : ∃ nc : Array Value, nc = #[.int .i64 k, .slice r1 r2 r3, .int .i64 a2, .slice s1 s2 s3, .int .i64 a4, .int .i64 a5, .bool a6, .int .i64 a7, .string a8] := ⟨_, rfl⟩
  obtain ⟨V1, hV1⟩ : ∃ V1, V1 = W.alloc (.cells #[.int .i64 k, .slice r1 r2 r3, .int .i64 a2, .slice s1 s2 s3, .int .i64 a4, .int .i64 a5, .bool a6, .int .i64 a7, .string a8] 28) := ⟨_, rfl⟩
  have hVb : Below W.heap.size W V1 := by rw [hV1]; exact Joins.below_alloc1 W _
  have hVs : V1.heap.size = W.heap.size + 1 := by rw [hV1]; simp
  have hVn : V1.heap[W.heap.size]? = some (.cells #[.int .i64 k, .slice r1 r2 r3, .int .i64 a2, .slice s1 s2 s3, .int .i64 a4, .int .i64 a5, .bool a6, .int .i64 a7, .string a8] 28 (0, 0)) := by rw [hV1]; exact heap_alloc_new W _
  have hL1 := hL.below hVb
  obtain ⟨k0, -, -, -, -⟩ := box5 hL1.box
  have ku := Joins.unfrozen_of_block hL1.box 0
  obtain ⟨n0, n1, n2, n3, n4, n5, n6, n7, n8⟩ := nine' hVn
  obtain ⟨nb, hnb⟩ : ∃ nb, nb = W.heap.size := ⟨_, rfl⟩
  obtain ⟨i0, hi0, hz0, hz1, hz2⟩ := info_parts info64
  obtain ⟨i3, hi3, hy0, hy1, hy2⟩ := info_parts info3
  have HVB := hid hVb
  have HVS := hid hVs
  have HVN := hid hVn
  have HL1 := hid hL1
  have HBL := hid hbl
  have HQ0 := hid hq0
  have HNC := hid hnc
  have HBS := hid hL.bs
  have HV1 := hid hV1
  clear ok hr hR hRk hk hS hW ih hs hTP hA hL hln hVb hVs hVn hL1 hq0 hnc hV1 hbl hnb
  go_enter Try.func16, Try.ntmps16
  go_upto_region 1 with fail
  rw [← HV1.out]
  go_upto_region 2 with fail
  have HSV : Hid (∀ V, Below V1.heap.size V1 V → V.cell? ⟨hb, 0, none⟩ = some (.slice va ln vc) ∧ V.cell? ⟨W.heap.size, 0, none⟩ = some (.int .i64 k) ∧ V.cell? ⟨W.heap.size, 1, none⟩ = some (.slice r1 r2 r3) ∧ V.cell? ⟨W.heap.size, 2, none⟩ = some (.int .i64 a2) ∧ V.cell? ⟨W.heap.size, 3, none⟩ = some (.slice s1 s2 s3) ∧ V.cell? ⟨W.heap.size, 4, none⟩ = some (.int .i64 a4) ∧ V.cell? ⟨W.heap.size, 5, none⟩ = some (.int .i64 a5) ∧ V.cell? ⟨W.heap.size, 6, none⟩ = some (.bool a6) ∧ V.cell? ⟨W.heap.size, 7, none⟩ = some (.int .i64 a7) ∧ V.cell? ⟨W.heap.size, 8, none⟩ = some (.string a8)) := fun V hV => by
    have e1 := hV.block hb (by have := HBL.out; have := HVS.out; omega)
    have e2 := (hV.block W.heap.size (by have := HVS.out; omega)).trans HVN.out
    obtain ⟨m0, m1, m2, m3, m4, m5, m6, m7, m8⟩ := nine' e2
    exact ⟨(cell_eq e1 _).trans k0, m0, m1, m2, m3, m4, m5, m6, m7, m8⟩
  refine wp_region_lexK [0, 1, 2, 3, 4, 5, 6, 7, 8] [9, 10, 11, 12, 13] 13 (fun V => V.cell? ⟨hb, 0, none⟩ = some (.slice va ln vc) ∧ V.cell? ⟨W.heap.size, 0, none⟩ = some (.int .i64 k) ∧ V.cell? ⟨W.heap.size, 1, none⟩ = some (.slice r1 r2 r3) ∧ V.cell? ⟨W.heap.size, 2, none⟩ = some (.int .i64 a2) ∧ V.cell? ⟨W.heap.size, 3, none⟩ = some (.slice s1 s2 s3) ∧ V.cell? ⟨W.heap.size, 4, none⟩ = some (.int .i64 a4) ∧ V.cell? ⟨W.heap.size, 5, none⟩ = some (.int .i64 a5) ∧ V.cell? ⟨W.heap.size, 6, none⟩ = some (.bool a6) ∧ V.cell? ⟨W.heap.size, 7, none⟩ = some (.int .i64 a7) ∧ V.cell? ⟨W.heap.size, 8, none⟩ = some (.string a8)) (by kernel_rfl) (by kernel_rfl) rfl (by kernel_rfl) (by kernel_rfl) ⟨k0, n0, n1, n2, n3, n4, n5, n6, n7, n8⟩ ?_
  simp only [opsAt, opsNo, List.getElem?_toArray, List.getElem?_cons_zero, List.getElem?_cons_succ]
  iterate 9
    refine lex_cons ?_ rfl (fun V hV => ?_) (fun _ _ _ h => h) ?_
    rotate_left
    · obtain ⟨q0, q1, q2, q3, q4, q5, q6, q7, q8, q9⟩ := hV
      go_simp <;> with_reducible rfl
    simp only [Act.put, List.setIfInBounds_toArray, List.set_cons_zero, List.set_cons_succ]
  refine lex_nil (tailK_cons fun K hK => ?_)
  go_simp
  have hBD : Below V1.heap.size V1 V1.drew := ⟨rfl, rfl, rfl, Nat.le_refl _, fun _ _ => rfl⟩
  have hBA : Below V1.heap.size V1 (V1.drew.alloc (.cells #[.int .i64 k, .slice r1 r2 r3, .int .i64 a2, .slice s1 s2 s3, .int .i64 a4, .int .i64 a5, .bool a6, .int .i64 a7, .string a8, .slice none 0 0, .int .i64 up, .int .i64 (nth : Int)] 64)) := hBD.trans (Joins.below_alloc1 V1.drew _)
  refine hK.out _ _ (fun _ => HSV.out _ hBA) (tailK_cons fun K hK => ?_)
  clear hBA
  have hrowD : V1.drew.ownsRow B0 64 12 (.slice va ln vc) ln (L.flatMap Pq.cs) := by have h := HL1.out.row; rw [← HLN.out] at h; exact row_kept h fun b hb => rfl
  refine step_append rfl (.tmp 20) (.tmp 25) 40 rfl B0 64 i0 (.agg #[.int .i64 0, .slice none 0 0, .int .i64 0, .slice none 0 0, .int .i64 0, .int .i64 0, .bool false, .int .i64 0, .string ⟨#[]⟩, .slice none 0 0, .int .i64 0, .int .i64 0]) 12 152 Try.underlying40 hi0 hz0 hz1 hz2 rfl (by decide) (.slice va ln vc) ln (L.flatMap Pq.cs) rfl (hrowD.alloc _) ⟨V1.heap.size, 0, none⟩ 1 1 (Pq.cs q0) rfl rfl (by decide) ?_ ?_ (by unfold maxLen; omega) (by omega) (by have := HBS.out; have := HVS.out; simp; omega) ?_
  · rw [HQ0.out]
    exact news12 V1.drew _
  · rw [HQ0.out]
    exact one12 _ rfl
  intro v' w4 ho4 hm4
  have hLD : LM hb B0 c1 c2 c3 c4 V1.drew (.slice va ln vc) L := HL1.out.below hBD
  have hpush := hLD.push (q := q0) hm4.out (by rw [← HLN.out]; exact ho4.out)
  have HPU := hid hpush
  obtain ⟨pb, pc, rfl⟩ := Joins.ownsRow_form ho4.out (by omega)
  have hb4 : w4.heap[hb]? = some (.cells #[.slice va ln vc, c1, c2, c3, c4] 42 (0, 0)) := by
    have hbl := (Array.getElem?_eq_some_iff.1 hLD.box).1
    exact (moved_old' hm4.out (by simp at hbl ⊢; omega) (own_ne hLD.row hLD.box (by decide))).trans ((heap_alloc_old V1.drew _ hbl).trans hLD.box)
  have hn4 : w4.heap[W.heap.size]? = some (.cells #[.int .i64 k, .slice r1 r2 r3, .int .i64 a2, .slice s1 s2 s3, .int .i64 a4, .int .i64 a5, .bool a6, .int .i64 a7, .string a8] 28 (0, 0)) := by
    have hnl := HVS.out
    exact (moved_old' hm4.out (by simp; omega) (own_ne hLD.row (HVN.out) (by decide))).trans ((heap_alloc_old V1.drew _ (by show W.heap.size < V1.heap.size; omega)).trans HVN.out)
  obtain ⟨p0, -, -, -, -⟩ := box5 hb4
  have pu := Joins.unfrozen_of_block hb4 0
  have HN4 := hid hn4
  have hSW : w4.cell? ⟨hb, 0, none⟩ = some (.slice va ln vc) ∧ w4.cell? ⟨W.heap.size, 0, none⟩ = some (.int .i64 k) ∧ w4.cell? ⟨W.heap.size, 1, none⟩ = some (.slice r1 r2 r3) ∧ w4.cell? ⟨W.heap.size, 2, none⟩ = some (.int .i64 a2) ∧ w4.cell? ⟨W.heap.size, 3, none⟩ = some (.slice s1 s2 s3) ∧ w4.cell? ⟨W.heap.size, 4, none⟩ = some (.int .i64 a4) ∧ w4.cell? ⟨W.heap.size, 5, none⟩ = some (.int .i64 a5) ∧ w4.cell? ⟨W.heap.size, 6, none⟩ = some (.bool a6) ∧ w4.cell? ⟨W.heap.size, 7, none⟩ = some (.int .i64 a7) ∧ w4.cell? ⟨W.heap.size, 8, none⟩ = some (.string a8) := ⟨p0, nine' hn4⟩
  have HSW := hid hSW
  clear hLD hpush hb4 hn4 ho4 hm4 hrowD hSW hBD
  refine hK.out _ _ (fun _ => HSW.out) (tailK_cons fun K hK => ?_)
  simp only [Act.put, List.setIfInBounds_toArray, List.set_cons_zero, List.set_cons_succ]
  go_simp
  refine hK.out _ _ (fun _ => HSW.out) (tailK_cons fun K hK => ?_)
  simp only [Act.put, List.setIfInBounds_toArray, List.set_cons_zero, List.set_cons_succ]
  go_simp
  refine hK.out _ _ (fun _ => HSW.out) (tailK_cons fun K hK => ?_)
  simp only [Act.put, List.setIfInBounds_toArray, List.set_cons_zero, List.set_cons_succ]
  go_simp
  refine hK.out _ _ (fun h => absurd rfl h) (tailK_nil ?_)
  try simp only [Act.put, List.setIfInBounds_toArray, List.set_cons_zero, List.set_cons_succ]
  obtain ⟨V4, hV4⟩ : ∃ V4, V4 = w4.setCell ⟨hb, 0, none⟩ (.slice (some ⟨pb, 0, none⟩) (ln + 1) pc) := ⟨_, rfl⟩
  have hinv : LInv hb B0 c1 c2 c3 c4 A W nc L q0 ts 0 (.slice none 0 0) V4 := by
    obtain ⟨g1, g2⟩ := HPU.out
    have hhb : W.heap.size ≠ hb := by have := HBL.out; omega
    refine ⟨pb, ln + 1, pc, [], by rw [hV4]; exact g1, by simp [nodesL, ← HLN.out], by simp [← HLN.out], ?_, ?_, ?_, fun _ => rfl, fun p Bw hp wx _ => ?_⟩
    · rw [hV4]
      have f1 : LF hb B0 W V1.drew := LF.of_below (HVB.out.trans ⟨rfl, rfl, rfl, Nat.le_refl _, fun _ _ => rfl⟩) HBS.out
      exact f1.trans g2
    · rw [hV4, HNC.out]
      exact (Below.heap_setCell _ _ _ _ hhb).trans HN4.out
    · simp only [List.take_zero, numL, List.map_nil]
      exact World.ownsRow_nil _ _ _ _
    · simp only [List.take_zero, numL, entsL]
      exact .nil
  have HINV := hid hinv
  rw [← hV4]
  clear hinv hV4 p0 pu k0 ku n0 n1 n2 n3 n4 n5 n6 n7 n8 HSW HPU HN4
  go_wp2_with fail
  go_loopw [9, 10] (fun u y wq => ∃ (i : Nat) (u1 : Option Addr) (u3 : Nat), u = .slice u1 i u3 ∧ y = .int .i64 (i : Int) ∧ i ≤ s2 ∧ Hid (LInv hb B0 c1 c2 c3 c4 A W nc L q0 ts i (.slice u1 i u3) wq)) (fun u y _ => s2 - (intOf y).toNat)
  case atStart => exact ⟨0, none, 0, rfl, rfl, by omega, HINV⟩
  case round =>
    clear HINV
    obtain ⟨i, u1, u3, rfl, rfl, hi, HI⟩ := hrel
    obtain ⟨va', vn, vc', QS, g1, g2, g3, g4, g5, g6, g8, g7⟩ := HI.out
    rw [HNC.out] at g5
    obtain ⟨o0, o1, o2, o3, o4, o5, o6, o7, o8⟩ := nine' g5
    obtain ⟨z0, -, -, -, -⟩ := box5 g1.box
    have hvn : vn ≤ 300000 ∧ ln + 1 ≤ vn := by have := nodesL_take_le ts i; have := HLN.out; have := HNO.out; omega
    have hbs : W.heap.size + 1 ≤ wr.heap.size := by have := (Array.getElem?_eq_some_iff.1 g5).1; omega
    by_cases hil : i < s2
    · have b1 : decide ((i : Int) < (s2 : Int)) = true := by simp; omega
      have b2 : (i : Int) < (s2 : Int) := by omega
      have hlt : i < ts.length := by rw [← HL.out]; exact hil
      obtain ⟨b, o, hs1, hb', hc⟩ := HS.out (by omega)
      subst hs1
      have ad1 : IntKind.i64.wrap ((i : Int) + 1) = (i : Int) + 1 := by simp [IntKind.wrap, IntKind.bits, IntKind.signed]; omega
      obtain ⟨P, hP⟩ : ∃ P, P = ND i := ⟨_, rfl⟩
      have hst : ∀ (w2 : World) (v' : Value), Moved (wr.alloc (.cells #[.int .i64 (vn : Int)] 3)) w2 (.slice u1 i u3) v' → LM hb B0 c1 c2 c3 c4 w2 (.slice (some ⟨va', 0, none⟩) vn vc') (L ++ q0 :: QS) ∧ Below (W.heap.size + 1) wr w2 ∧ w2.heap[W.heap.size]? = wr.heap[W.heap.size]? ∧ LF hb B0 W w2 ∧ (∀ b, A b → w2.heap[b]? = W0.heap[b]?) ∧ wr.heap.size + 1 ≤ w2.heap.size := fun w2 v' hm => by
        have hbl := (Array.getElem?_eq_some_iff.1 g1.box).1
        have hs2 := moved_size hm
        simp at hs2
        have hbel : Below (W.heap.size + 1) wr w2 := (moved_below (w2 := wr) (W := wr) (Joins.below_le (Joins.below_alloc1 wr (.cells #[.int .i64 (vn : Int)] 3)) hbs) (by simp; omega) (fun k hk => (g6.lt k hk).1) hm).1
        have hbase := HBS.out
        have f3 : LF hb B0 W w2 := g4.of_new hbase (Joins.below_le hbel (by omega))
        exact ⟨g1.moved g6 hm, hbel, hbel.block _ (by omega), f3, fun b hb => (f3.low b (HAA.out b hb).1 (HAA.out b hb).2).trans (HW.out b hb), by omega⟩
      have HST := hid hst
      have hCall : ∀ w2, LM hb B0 c1 c2 c3 c4 w2 (.slice (some ⟨va', 0, none⟩) vn vc') (L ++ q0 :: QS) → (∀ b, A b → w2.heap[b]? = W0.heap[b]?) → Calls Try.prog 16 #[.pointer (some ⟨hb, 0, none⟩), P.v, .int .i64 (ln : Int), .int .i64 (i : Int)] w2 fun e w' => e = .returned (.tuple #[]) ∧ ∃ v' QS', LM hb B0 c1 c2 c3 c4 w' v' ((L ++ q0 :: QS) ++ QS') ∧ LF hb B0 w2 w' ∧ ∀ Bw wx, Rob hb B0 w2.heap.size (.slice none 0 0) w' wx → A2 (Lq A wx) QS' ((ts[i].num vn).ents Bw (ln : Int) i) := fun w2 h1 h2 => by
        have h := HIH.out i hlt w2 _ _ (ln : Int) i h2 h1 (by rw [← g3]; have := nodesL_take ts i hlt; have := nodesL_take_le ts (i + 1); have := HLN.out; have := HNO.out; omega) (by omega) (by omega) (by omega)
        rw [← g3, ← hP] at h
        exact h
      have HCA := hid hCall
      have hNc : ∀ w2, (∀ b, A b → w2.heap[b]? = W0.heap[b]?) → N9 w2 b o i P := fun w2 h2 => by rw [hP]; exact (hc i hlt).kept (h2 b hb')
      have HNCL := hid hNc
      have HG5 := hid g5
      have HG6 := hid g6
      have HG := hid (⟨g1, g2, g3, g4, g7⟩ : _ ∧ _ ∧ _ ∧ _ ∧ _)
      obtain ⟨LB, hLB⟩ : ∃ LB, LB = (numL (ts.take i) (L.length + 1)).map fun t => (t.lb : Int) := ⟨_, rfl⟩
      rw [← hLB] at HG6
      have HLB := hid hLB
      clear hst hCall hNc hP hc g1 g2 g3 g4 g5 g6 g7 g8 hLB HI
      go_upto_region 8 with (first | (at_builtin; refine wpList_append_move rfl (.tmp 36) (.tmp 42) 29 rfl (W.heap.size + 1) 3 i3 (.int .i64 0) 8 Try.underlying29 hi3 hy0 hy1 hy2 rfl (.slice u1 i u3) i (I64 LB) rfl (HG6.out.alloc _) ⟨wr.heap.size, 0, none⟩ 1 1 [.int .i64 (vn : Int)] rfl rfl (by decide) (by intro j y hj; match j, hj with | 0, hj => (simp at hj; subst hj; simp [Addr.add])) (by intro y hy; simp at hy; subst hy; rfl) (by unfold maxLen; omega) (by omega) (by simp; omega) ?_; intro v' w2 ho2 hm2; obtain ⟨ub, uc, rfl⟩ := Joins.ownsRow_form ho2.out (by omega)))
      obtain ⟨t1, t2, t3, t4, t5, t6⟩ := HST.out w2 _ hm2.out
      have HC := HCA.out w2 t1 t5
      obtain ⟨m0, m1, m2, m3, m4, m5, m6, m7, m8⟩ := HNCL.out w2 t5
      have cs3 := (cell_eq t3 3).trans o3
      have HT1 := hid t1
      have HT2 := hid t2
      have HT3 := hid t3
      have HT4 := hid t4
      clear t1 t2 t3 t4 t5 o0 o1 o2 o3 o4 o5 o6 o7 o8 z0
      go_wp2_with (first | (go_at_call 16; (with_reducible refine HC.mono ?_); rintro e w3 ⟨rfl, v3, QS', hL3, hF3, hA3⟩; have HL3 := hid hL3; have HF3 := hid hF3; have HA3 := hid hA3; clear hL3 hF3 hA3 HC m0 m1 m2 m3 m4 m5 m6 m7 m8 cs3))
      have hnx : LInv hb B0 c1 c2 c3 c4 A W nc L q0 ts (i + 1) (.slice (some ⟨ub, 0, none⟩) (i + 1) uc) w3 := by
        obtain ⟨g1, g2, g3, g4, g7⟩ := HG.out
        have h5 := HG5.out
        rw [← HNC.out] at h5
        have h6 := HG6.out
        have h7 := ho2.out
        rw [HLB.out] at h6 h7
        have h8 := HA3.out
        rw [HLN.out] at h8
        exact LInv.next hlt HBS.out g2 g3 g4 h5 h6 g7 hm2.out h7 HT2.out HL3.out HF3.out h8
      exact ⟨⟨i + 1, _, _, rfl, by push_cast; rfl, by omega, hnx⟩, by simp [intOf]; omega⟩
    · have b1 : decide ((i : Int) < (s2 : Int)) = false := by simp; omega
      obtain rfl : i = s2 := by omega
      have hP := g1.at ln (by rw [← g3]; omega)
      simp only [P12] at hP
      obtain ⟨-, -, -, -, -, -, -, -, -, h9o, -, -⟩ := hP
      obtain ⟨sv9, h9⟩ : ∃ x, wr.cell? ⟨va', ln * 12 + 9, none⟩ = some x := ⟨_, h9o⟩
      clear h9o
      have f9 := (row_setN (by have h := g1.row; rw [← g3] at h; exact h) (ln * 12 + 9) (.slice u1 i u3)).2
      have i1 : (ln : Int) < (vn : Int) := by omega
      have hset := g1.setSub g3 (.slice u1 i u3)
      rw [← HLN.out] at hset
      have HSE := hid hset
      have HG := hid (⟨g4, g6, g8, g7⟩ : _ ∧ _ ∧ _ ∧ _)
      clear hset g1 g2 g3 g4 g5 g6 g7 g8 HI
      go_wp2_with fail
      go_end0
      obtain ⟨e1, e2⟩ := HSE.out
      obtain ⟨g4, g6, g8, g7⟩ := HG.out
      have hll := HL.out
      rw [List.take_of_length_le (by omega)] at g6 g7
      rw [← HLN.out] at g6 g7
      refine ⟨rfl, _, _, e1, g4.trans e2, fun Bw wx hR => ?_⟩
      simp only [Tn.num, Lt.ents]
      refine .cons ⟨?_, ⟨u1, u3, by simp only [Lt.sub, numL_len]; rw [hll]⟩, ?_, by rw [HQ0.out], by rw [HQ0.out]⟩ ?_
      · simp only [Lt.tn, numL_tn]
        rw [HQ0.out]
        exact HTP.out.kept (fun b hb => (hR.1 b (HAA.out b hb).1 (HAA.out b hb).2).trans ((e2.low b (HAA.out b hb).1 (HAA.out b hb).2).trans (g4.low b (HAA.out b hb).1 (HAA.out b hb).2))) (fun b hb => hb)
      · simp only [Lt.sub]
        by_cases hz : i = 0
        · refine .inl ⟨g8 hz, ?_⟩
          rw [hz] at hll
          rw [List.length_eq_zero_iff.1 hll.symm]
          rfl
        · refine .inr ⟨by rw [List.length_map, numL_len]; omega, ?_⟩
          rw [List.length_map, numL_len, ← hll]
          refine ⟨g6.1, ?_⟩
          rcases g6.2 with ⟨_, h0⟩ | ⟨g, cap, cur, h1, h2, h3, h4⟩
          · exact absurd h0 hz
          · exact .inr ⟨g, cap, cur, h1, by omega, hR.2 g cur (by omega) (by simp [Value.ownBlock]) (e2.typ g cur 3 (.inl rfl) h3), h4⟩
      · refine g7 _ Bw rfl wx ⟨fun b h1 h2 => (hR.1 b h1 h2).trans (e2.low b h1 h2), fun b cur h1 _ h3 => hR.2 b cur h1 (by simp [Value.ownBlock]) (e2.typ b cur 3 (.inl rfl) h3)⟩
end Go.Proofs.Ytnpocciioedgpaa
/- HELPERS: what holds of the places of a tree. -/
namespace Go.Proofs.Ytnpocciioedgpaa
open Go.RowKit
set_option linter.unusedVariables false
set_option linter.unusedSimpArgs false
theorem ents_nodes : ∀ (T : Lt) (B : Way) (up : Int) (nth : Nat), ∀ e ∈ T.ents B up nth, e.t.tn.nodes ≤ T.tn.nodes := by
  refine Lt.rec' ?_
  intro T ih B up nth e he
  rw [ents_eq] at he
  rcases List.mem_cons.1 he with rfl | he
  · exact Nat.le_refl _
  · obtain ⟨j, hj, hx⟩ := (entsL_mem _ _ _ _ _).1 he
    have h1 := ih _ (List.getElem_mem hj) _ _ _ e hx
    have h2 : (T.sub[j]).tn.nodes ≤ T.tn.nodes := by
      obtain ⟨lb, k, R, a, s, mn, mx, lz, ix, nm⟩ := T
      simp only [Lt.sub] at hj ⊢
      simp only [Lt.tn, Tn.nodes, tnL_map]
      have := nodes_get (s.map Lt.tn) j (by simpa using hj)
      simp only [List.getElem_map] at this
      omega
    omega
theorem ents_gi {G : Int} : ∀ (T : Lt) (B : Way) (up : Int) (nth : Nat), T.tn.gi ≤ G → ∀ e ∈ T.ents B up nth, e.t.tn.gi ≤ G := by
  refine Lt.rec' ?_
  intro T ih B up nth hg e he
  rw [ents_eq] at he
  rcases List.mem_cons.1 he with rfl | he
  · exact hg
  · obtain ⟨j, hj, hx⟩ := (entsL_mem _ _ _ _ _).1 he
    refine ih _ (List.getElem_mem hj) _ _ _ ?_ e hx
    obtain ⟨lb, k, R, a, s, mn, mx, lz, ix, nm⟩ := T
    simp only [Lt.sub] at hj ⊢
    simp only [Lt.tn, Tn.gi, tnL_map] at hg
    have := (giL_ge (s.map Lt.tn) ix).2 j (by simpa using hj)
    simp only [List.getElem_map] at this
    omega
/-- WHAT THE HUNT ASKS OF THE PLACES -/
theorem hck_of {t : Tn} {C : HC} (hf : t.fine = true) (hL : C.L = (t.num 0).ents (.once 1 .through) (-1) 0) (heo : (t.num 0).eo C.E (.once 1 .through)) (hn : C.n = t.nodes) (hnn : t.nodes ≤ 300000) (htn : C.tn ≤ 64) (htl : C.tn = C.tx.length) (hk2 : 2 ≤ C.K ∧ C.K ≤ 1002) (hg : 2 * t.gi + 1 < C.K) : HCk C := by
  have hft : (t.num 0).tn.fine = true := by rw [num_tn]; exact hf
  refine ⟨?_, ?_, ?_, ?_, ?_, by omega, ?_, htn, htl, hk2, ?_⟩
  · intro e he i hi
    rw [hL] at he ⊢
    exact ents_child _ _ _ _ e he i hi
  · intro e he
    rw [hL] at he
    rcases ents_parent _ _ _ _ e he with rfl | ⟨p, hp, i, hi, h⟩
    · exact .inl ⟨rfl, rfl⟩
    · exact .inr ⟨p, by rw [hL]; exact hp, i, hi, h⟩
  · intro e he
    rw [hL] at he
    exact ents_fine _ _ _ _ hft e he
  · intro e he
    rw [hL] at he
    exact ents_eo _ _ _ _ hft heo e he
  · intro e he
    rw [hL] at he
    have := ents_lt he
    omega
  · intro e he
    rw [hL] at he
    have h1 := ents_nodes _ _ _ _ e he
    rw [num_tn] at h1
    obtain ⟨⟨lb, k, R, a, s, mn, mx, lz, ix, nm⟩, B, up, nth⟩ := e
    simp only [Lt.sub]
    simp only [Lt.tn, Tn.nodes, tnL_map] at h1
    have := nodes_ge (s.map Lt.tn)
    simp only [List.length_map] at this
    omega
  · intro lb k R a s mn mx lz ix nm B up nth he hk
    have hF := node_fine (ents_fine _ _ _ _ hft _ (by rw [← hL]; exact he))
    have h1 := ents_gi (G := t.gi) (t.num 0) (.once 1 .through) (-1) 0 (by rw [num_tn]; exact Int.le_refl _) _ (by rw [← hL]; exact he)
    simp only [Lt.tn, Tn.gi] at h1
    have := (giL_ge (tnL s) ix).1
    exact ⟨(hF.grp hk).2.1, by omega⟩
end Go.Proofs.Ytnpocciioedgpaa
/- HELPERS: a tree unfolded: it may be, its counts are x*, x+, x?, its nodes are few; its parses are there, and they are the tree's. -/
namespace Go.Proofs.Ytnpocciioedgpaa
open Go.RowKit
set_option linter.unusedVariables false
set_option linter.unusedSimpArgs false
theorem nb_loop (mn mx : Int) (lz : Bool) (h : mn = 0 ∧ mx = -1 ∨ mn = 1 ∧ mx = -1 ∨ mn = 0 ∧ mx = 1) : nodeB 6 [] 0 1 mn mx lz 0 ⟨#[]⟩ = true := by
  rcases h with ⟨rfl, rfl⟩ | ⟨rfl, rfl⟩ | ⟨rfl, rfl⟩ <;> simp [nodeB, bareB, ByteArray.toList, ByteArray.toList.loop, ByteArray.size]
theorem nb_empty : nodeB 1 [] 0 0 0 0 false 0 ⟨#[]⟩ = true := by simp [nodeB, bareB, ByteArray.toList, ByteArray.toList.loop, ByteArray.size]
theorem nb_cat (n : Nat) (h : 2 ≤ n) : nodeB 4 [] 0 n 0 0 false 0 ⟨#[]⟩ = true := by simp [nodeB, bareB, ByteArray.toList, ByteArray.toList.loop, ByteArray.size, h]
theorem fineL_allx : ∀ {l : List Tn}, (∀ x ∈ l, x.fine = true) → fineL l = true
  | [], _ => rfl
  | t :: ts, h => by simp only [fineL, Bool.and_eq_true]; exact ⟨h t (List.mem_cons_self ..), fineL_allx fun x hx => h x (List.mem_cons_of_mem _ hx)⟩
theorem fine_row {l : List Tn} (h : ∀ x ∈ l, x.fine = true) : (rowN l).fine = true := by
  match l, h with
  | [], _ => simp only [rowN, Tn.fine, List.length_nil, nb_empty, fineL]; rfl
  | [x], h => exact h x (by simp)
  | x :: y :: l, h =>
    simp only [rowN, Tn.fine, Bool.and_eq_true]
    exact ⟨nb_cat _ (by simp), fineL_allx h⟩
theorem fine_loop {x : Tn} (h : x.fine = true) {mn mx : Int} (lz : Bool) (hm : mn = 0 ∧ mx = -1 ∨ mn = 1 ∧ mx = -1 ∨ mn = 0 ∧ mx = 1) : (loopN x mn mx lz).fine = true := by
  simp only [loopN, Tn.fine, List.length_cons, List.length_nil, Bool.and_eq_true, fineL, h]
  exact ⟨nb_loop mn mx lz hm, by trivial⟩
theorem fine_opt {x : Tn} (h : x.fine = true) (lz : Bool) : ∀ k, (optN x lz k).fine = true
  | 0 => fine_loop h lz (.inr (.inr ⟨rfl, rfl⟩))
  | k + 1 => fine_loop (fine_row fun y hy => by simp at hy; rcases hy with rfl | rfl; exact h; exact fine_opt h lz k) lz (.inr (.inr ⟨rfl, rfl⟩))
theorem fine_spr {x : Tn} (h : x.fine = true) {mn mx : Int} (lz : Bool) (h0 : 0 ≤ mn) : (sprN x mn mx lz).fine = true := by
  unfold sprN
  split
  · split
    · exact fine_loop h lz (by omega)
    · refine fine_row fun y hy => ?_
      rcases List.mem_append.1 hy with hy | hy
      · rw [List.eq_of_mem_replicate hy]; exact h
      · simp at hy; rw [hy]; exact fine_loop h lz (.inr (.inl ⟨rfl, rfl⟩))
  · refine fine_row fun y hy => ?_
    rcases List.mem_append.1 hy with hy | hy
    · rw [List.eq_of_mem_replicate hy]; exact h
    · split at hy
      · simp at hy; rw [hy]; exact fine_opt h lz _
      · cases hy
mutual
/-- the counts are x*, x+, x? -/
def Tn.sfT : Tn → Prop
  | .mk k R a s mn mx lz ix nm => (k = 6 → (mn = 0 ∧ mx = -1 ∨ mn = 1 ∧ mx = -1) ∨ mn = 0 ∧ mx = 1) ∧ sfTL s
def sfTL : List Tn → Prop
  | [] => True
  | t :: ts => t.sfT ∧ sfTL ts
end
theorem sfTL_all : ∀ {l : List Tn}, (∀ x ∈ l, x.sfT) → sfTL l
  | [], _ => trivial
  | t :: ts, h => ⟨h t (List.mem_cons_self ..), sfTL_all fun x hx => h x (List.mem_cons_of_mem _ hx)⟩
mutual
theorem num_sf : ∀ (t : Tn) (n : Nat), t.sfT → (t.num n).sf
  | .mk k R a s mn mx lz ix nm, n, h => by
    simp only [Tn.sfT] at h
    simp only [Tn.num, Lt.sf]
    exact ⟨h.1, numL_sf s (n + 1) h.2⟩
theorem numL_sf : ∀ (ts : List Tn) (n : Nat), sfTL ts → sfL (numL ts n)
  | [], n, h => by simp only [numL, sfL]
  | t :: ts, n, h => by
    simp only [sfTL] at h
    simp only [numL, sfL]
    exact ⟨num_sf t n h.1, numL_sf ts _ h.2⟩
end
theorem sf_row {l : List Tn} (h : ∀ x ∈ l, x.sfT) : (rowN l).sfT := by
  match l, h with
  | [], _ => simp only [rowN, Tn.sfT, sfTL]; exact ⟨fun h => absurd h (by decide), trivial⟩
  | [x], h => exact h x (by simp)
  | x :: y :: l, h =>
    simp only [rowN, Tn.sfT]
    exact ⟨fun h => absurd h (by decide), sfTL_all h⟩
theorem sf_loop {x : Tn} (h : x.sfT) {mn mx : Int} (lz : Bool) (hm : mn = 0 ∧ mx = -1 ∨ mn = 1 ∧ mx = -1 ∨ mn = 0 ∧ mx = 1) : (loopN x mn mx lz).sfT := by
  simp only [loopN, Tn.sfT, sfTL]
  exact ⟨fun _ => by omega, h, trivial⟩
theorem sf_opt {x : Tn} (h : x.sfT) (lz : Bool) : ∀ k, (optN x lz k).sfT
  | 0 => sf_loop h lz (.inr (.inr ⟨rfl, rfl⟩))
  | k + 1 => sf_loop (sf_row fun y hy => by simp at hy; rcases hy with rfl | rfl; exact h; exact sf_opt h lz k) lz (.inr (.inr ⟨rfl, rfl⟩))
theorem sf_spr {x : Tn} (h : x.sfT) {mn mx : Int} (lz : Bool) (h0 : 0 ≤ mn) : (sprN x mn mx lz).sfT := by
  unfold sprN
  split
  · split
    · exact sf_loop h lz (by omega)
    · refine sf_row fun y hy => ?_
      rcases List.mem_append.1 hy with hy | hy
      · rw [List.eq_of_mem_replicate hy]; exact h
      · simp at hy; rw [hy]; exact sf_loop h lz (.inr (.inl ⟨rfl, rfl⟩))
  · refine sf_row fun y hy => ?_
    rcases List.mem_append.1 hy with hy | hy
    · rw [List.eq_of_mem_replicate hy]; exact h
    · split at hy
      · simp at hy; rw [hy]; exact sf_opt h lz _
      · cases hy
mutual
theorem spread_ok : ∀ (t : Tn), t.fine = true → t.spread.fine = true ∧ t.spread.sfT
  | .mk k R a s mn mx lz ix nm, h => by
    simp only [Tn.fine, Bool.and_eq_true] at h
    have hF := fine_node h.1
    obtain ⟨i1, i2⟩ := spreadL_ok s h.2
    by_cases hk : k = 6
    · obtain ⟨q1, q2, q3, q4⟩ := hF.rep hk
      obtain ⟨x, rfl⟩ : ∃ t, s = [t] := List.length_eq_one_iff.1 q1
      simp only [Tn.spread, hk, if_true, spreadL]
      simp only [spreadL, fineL, sfTL, Bool.and_eq_true] at i1 i2
      exact ⟨fine_spr i1.1 lz q2, sf_spr i2.1 lz q2⟩
    · simp only [Tn.spread, if_neg hk, Tn.fine, Tn.sfT, Bool.and_eq_true]
      refine ⟨⟨?_, i1⟩, fun e => absurd e hk, i2⟩
      rw [spreadL_map, List.length_map]
      exact h.1
theorem spreadL_ok : ∀ (ts : List Tn), fineL ts = true → fineL (spreadL ts) = true ∧ sfTL (spreadL ts)
  | [], _ => ⟨rfl, trivial⟩
  | t :: ts, h => by
    simp only [fineL, Bool.and_eq_true] at h
    obtain ⟨a1, a2⟩ := spread_ok t h.1
    obtain ⟨b1, b2⟩ := spreadL_ok ts h.2
    simp only [spreadL, fineL, sfTL, Bool.and_eq_true]
    exact ⟨⟨a1, b1⟩, a2, b2⟩
end
theorem nodes_row (l : List Tn) : (rowN l).nodes ≤ 1 + nodesL l := by
  match l with
  | [] => simp [rowN, Tn.nodes, nodesL]
  | [x] => simp [rowN, nodesL]
  | x :: y :: l => simp [rowN, Tn.nodes]
theorem nodes_repl (x : Tn) : ∀ c, nodesL (List.replicate c x) = c * x.nodes
  | 0 => by simp [nodesL]
  | c + 1 => by rw [List.replicate_succ, nodesL, nodes_repl x c, Nat.succ_mul]; omega
theorem nodes_loop (x : Tn) (mn mx : Int) (lz : Bool) : (loopN x mn mx lz).nodes = 1 + x.nodes := by simp [loopN, Tn.nodes, nodesL]
theorem nodes_opt (x : Tn) (lz : Bool) : ∀ k, (optN x lz k).nodes ≤ (k + 1) * x.nodes + 2 * k + 1
  | 0 => by rw [optN, nodes_loop]; omega
  | k + 1 => by
    have h1 := nodes_opt x lz k
    have h2 := nodes_row [x, optN x lz k]
    rw [optN, nodes_loop]
    simp only [nodesL] at h2
    rw [Nat.succ_mul (k + 1)]
    omega
theorem nodes_spr {x : Tn} {n : Nat} (hx : x.nodes + 2 ≤ 3 * n) {mn mx : Int} (lz : Bool) (h0 : 0 ≤ mn) (h1 : mx = -1 ∨ mn ≤ mx) : (sprN x mn mx lz).nodes + 2 ≤ 3 * repN mn mx n := by
  unfold sprN repN
  by_cases c : mx < 0
  · have hm : mx = -1 := by omega
    rw [if_pos c, if_pos hm]
    split
    · rw [nodes_loop]
      have h3 : max mn.toNat 1 = 1 := by omega
      rw [h3]
      omega
    · have h2 := nodes_row (List.replicate (mn - 1).toNat x ++ [loopN x 1 (-1) lz])
      rw [nodesL_app, nodes_repl] at h2
      simp only [nodesL, nodes_loop] at h2
      have h3 : max mn.toNat 1 = (mn - 1).toNat + 1 := by omega
      rw [h3]
      generalize (mn - 1).toNat = c at *
      have h4 := Nat.mul_le_mul_left c hx
      have h5 : c * (x.nodes + 2) = c * x.nodes + 2 * c := by rw [Nat.mul_add]; omega
      have h6 : c * (3 * n) = 3 * (c * n) := by rw [Nat.mul_left_comm]
      have h7 : (c + 1) * n = c * n + n := Nat.succ_mul _ _
      rw [h5, h6] at h4
      rw [h7]
      clear h5 h6 h7
      generalize c * x.nodes = A at *
      generalize c * n = C at *
      omega
  · have hm : ¬ mx = -1 := by omega
    rw [if_neg c, if_neg hm]
    have h4 := Nat.mul_le_mul_left mn.toNat hx
    have h5 : mn.toNat * (x.nodes + 2) = mn.toNat * x.nodes + 2 * mn.toNat := by rw [Nat.mul_add]; omega
    have h6 : mn.toNat * (3 * n) = 3 * (mn.toNat * n) := by rw [Nat.mul_left_comm]
    rw [h5, h6] at h4
    by_cases d : mn < mx
    · rw [if_pos d]
      have h2 := nodes_row (List.replicate mn.toNat x ++ [optN x lz (mx - mn - 1).toNat])
      rw [nodesL_app, nodes_repl] at h2
      simp only [nodesL] at h2
      have h7 := nodes_opt x lz (mx - mn - 1).toNat
      have e : (mx - mn).toNat = (mx - mn - 1).toNat + 1 := by omega
      rw [e]
      generalize (mx - mn - 1).toNat = k at *
      have h8 := Nat.mul_le_mul_left (k + 1) hx
      have h9 : (k + 1) * (x.nodes + 2) = (k + 1) * x.nodes + 2 * (k + 1) := by rw [Nat.mul_add]; omega
      have h10 : (k + 1) * (3 * n) = 3 * ((k + 1) * n) := by rw [Nat.mul_left_comm]
      have h11 : (k + 1) * (1 + n) = (k + 1) + (k + 1) * n := by rw [Nat.mul_add]; omega
      rw [h9, h10] at h8
      rw [h11]
      generalize (k + 1) * x.nodes = A at *
      generalize (k + 1) * n = C at *
      generalize mn.toNat * x.nodes = A' at *
      generalize mn.toNat * n = C' at *
      omega
    · rw [if_neg d, List.append_nil]
      have e : (mx - mn).toNat = 0 := by omega
      rw [e]
      rcases Nat.lt_or_ge mn.toNat 2 with g | g
      · rcases Nat.lt_or_ge mn.toNat 1 with g' | g'
        · have : mn.toNat = 0 := by omega
          rw [this]; simp [rowN, Tn.nodes, nodesL]
        · have : mn.toNat = 1 := by omega
          rw [this]; simp [rowN]; omega
      · have h2 := nodes_row (List.replicate mn.toNat x)
        rw [nodes_repl] at h2
        generalize mn.toNat * x.nodes = A' at *
        generalize mn.toNat * n = C' at *
        omega
mutual
theorem spread_nodes : ∀ (t : Tn), t.fine = true → t.spread.nodes + 2 ≤ 3 * t.sz
  | .mk k R a s mn mx lz ix nm, h => by
    simp only [Tn.fine, Bool.and_eq_true] at h
    have hF := fine_node h.1
    have i1 := spreadL_nodes s h.2
    by_cases hk : k = 6
    · obtain ⟨q1, q2, q3, q4⟩ := hF.rep hk
      obtain ⟨x, rfl⟩ : ∃ t, s = [t] := List.length_eq_one_iff.1 q1
      simp only [spreadL, nodesL, szL, List.length_cons, List.length_nil] at i1
      simp only [Tn.spread, Tn.sz, hk, if_true, spreadL]
      exact nodes_spr (by simp only [szL]; omega) lz q2 (by omega)
    · simp only [Tn.spread, if_neg hk, Tn.nodes, Tn.sz]
      omega
theorem spreadL_nodes : ∀ (ts : List Tn), fineL ts = true → nodesL (spreadL ts) + 2 * ts.length ≤ 3 * szL ts
  | [], _ => by simp [spreadL, nodesL, szL]
  | t :: ts, h => by
    simp only [fineL, Bool.and_eq_true] at h
    have h1 := spread_nodes t h.1
    have h2 := spreadL_nodes ts h.2
    simp only [spreadL, nodesL, szL, List.length_cons]
    omega
end
/-- a way to begin is there -/
structure BX (t : Nat) (n : Int) (lo : Nat) (n' : Int) (lo' : Nat) (LE : List (Nat × Way)) : Prop where
  n1 : n ≤ n' ∧ n' ≤ n + 2 * (t : Int)
  l1 : lo ≤ lo'
  ke : ∀ p ∈ LE, lo ≤ p.1 ∧ p.1 < lo'
  nd : (LE.map Prod.fst).Nodup
  wf : ∀ p ∈ LE, Gw p.2 ∧ p.2.ua = []
theorem BX.nil (t : Nat) (n : Int) (lo : Nat) : BX t n lo n lo [] := ⟨⟨by omega, by omega⟩, Nat.le_refl _, fun p h => (by cases h), (by simp), fun p h => (by cases h)⟩
theorem BX.one {n : Int} {lo : Nat} (t : Nat) (h : 1 ≤ t) : BX t n lo (n + 1) lo [] := ⟨⟨by omega, by omega⟩, Nat.le_refl _, fun p h => (by cases h), (by simp), fun p h => (by cases h)⟩
theorem BX.seq {t u v : Nat} {n n1 n2 : Int} {lo lo1 lo2 : Nat} {LE LE' : List (Nat × Way)} (h : BX t n lo n1 lo1 LE) (h' : BX u n1 lo1 n2 lo2 LE') (hv : t + u ≤ v) : BX v n lo n2 lo2 (LE ++ LE') := by
  have a1 := h.n1
  have a2 := h'.n1
  have b1 := h.l1
  have b2 := h'.l1
  refine ⟨⟨by omega, by omega⟩, by omega, fun p hp => ?_, ?_, fun p hp => ?_⟩
  · rcases List.mem_append.1 hp with hp | hp
    · have := h.ke p hp; omega
    · have := h'.ke p hp; omega
  · rw [List.map_append, List.nodup_append]
    refine ⟨h.nd, h'.nd, fun x hx y hy => ?_⟩
    obtain ⟨p, hp, rfl⟩ := List.mem_map.1 hx
    obtain ⟨q, hq, rfl⟩ := List.mem_map.1 hy
    have := h.ke p hp
    have := h'.ke q hq
    omega
  · rcases List.mem_append.1 hp with hp | hp
    · exact h.wf p hp
    · exact h'.wf p hp
theorem BX.more {t u : Nat} {n n1 n2 : Int} {lo lo1 : Nat} {LE : List (Nat × Way)} (h : BX t n lo n1 lo1 LE) (h1 : n1 ≤ n2 ∧ n2 ≤ n1 + 2 * ((u : Int) - (t : Int))) : BX u n lo n2 lo1 LE := by
  have := h.n1
  exact ⟨⟨by omega, by omega⟩, h.l1, h.ke, h.nd, h.wf⟩
/-- a loop more -/
theorem BX.loop {t u : Nat} {n n2 : Int} {lo lo1 : Nat} {LE : List (Nat × Way)} {W : Way} (h : BX t (n + 1) (lo + 1) n2 lo1 LE) (hu : t + 1 ≤ u) (hW : Gw W ∧ W.ua = []) : BX u n lo n2 lo1 ((lo, W) :: LE) := by
  have a1 := h.n1
  have b1 := h.l1
  refine ⟨⟨by omega, by omega⟩, by omega, fun p hp => ?_, ?_, fun p hp => ?_⟩
  · rcases List.mem_cons.1 hp with rfl | hp
    · exact ⟨Nat.le_refl _, by show lo < lo1; omega⟩
    · have := h.ke p hp; omega
  · rw [List.map_cons, List.nodup_cons]
    refine ⟨fun hx => ?_, h.nd⟩
    obtain ⟨p, hp, e⟩ := List.mem_map.1 hx
    have := h.ke p hp
    simp only at e
    omega
  · rcases List.mem_cons.1 hp with rfl | hp
    · exact hW
    · exact h.wf p hp
theorem app_all {LE LE' : List (Nat × Way)} {E : Nat → Way} (h : ∀ p ∈ LE ++ LE', E p.1 = p.2) : (∀ p ∈ LE, E p.1 = p.2) ∧ ∀ p ∈ LE', E p.1 = p.2 := ⟨fun p hp => h p (List.mem_append.2 (.inl hp)), fun p hp => h p (List.mem_append.2 (.inr hp))⟩
theorem right_few {R : List (Int × Int)} (h : rightB R = true) : R.length ≤ 1000000 := by
  simp only [rightB, Bool.and_eq_true, decide_eq_true_eq] at h
  omega
mutual
theorem beg_ex : ∀ (t : Tn), t.fine = true → t.sfT → ∀ (n : Int) (B : Way) (lo : Nat), 0 ≤ n → n + 2 * (t.nodes : Int) ≤ 900000000 → Gw B → ∃ n' W lo' LE, BX t.nodes n lo n' lo' LE ∧ Gw W ∧ W.ua = [] ∧ ∀ E : Nat → Way, (∀ p ∈ LE, E p.1 = p.2) → Beg E t n B n' W
  | .mk k R a s mn mx lz ix nm, hf, hs, n, B, lo, hn, hb, hB => by
    simp only [Tn.fine, Bool.and_eq_true] at hf
    simp only [Tn.sfT] at hs
    simp only [Tn.nodes] at hb ⊢
    have hF := fine_node hf.1
    rcases hF.kind with rfl | rfl | rfl | rfl | rfl | rfl | rfl
    · exact ⟨n + 1, .once (n + 1) B, lo, [], .one _ (by omega), hB.once (by omega) (by omega), by simp [Way.ua], fun E _ => .empty⟩
    · exact ⟨n + 1, .once (n + 1) (.runeOf R B), lo, [], .one _ (by omega), (hB.runeOf (right_few (hF.cls rfl))).once (by omega) (by omega), by simp [Way.ua], fun E _ => .cls⟩
    · exact ⟨n + 1, .once (n + 1) (.ifHolds a B), lo, [], .one _ (by omega), hB.ifHolds.once (by omega) (by omega), by simp [Way.ua], fun E _ => .ast⟩
    · obtain ⟨n', W, lo', LE, h1, h2, h3, h4⟩ := begC_ex s hf.2 hs.2 n B lo hn (by omega) hB
      have := h1.n1
      exact ⟨n', W, lo', LE, h1.more ⟨by omega, by omega⟩, h2, h3 (by have := hF.two (.inl rfl); intro e; rw [e] at this; simp at this), fun E hE => .cat (h4 E hE)⟩
    · obtain ⟨n', Ws, lo', LE, h1, h2, h4⟩ := begA_ex s hf.2 hs.2 [] n n B lo lo [] [] 0 hn (by omega) hB (.nil 0 n lo) .nil (fun E _ => .nil)
      rw [Nat.zero_add] at h1
      have := h1.n1
      exact ⟨n' + 1, .once (n' + 1) (.inOrder Ws), lo', LE, h1.more ⟨by omega, by omega⟩, (Gw.inOrder h2).once (by omega) (by omega), by simp [Way.ua], fun E hE => .alt (h4 E hE)⟩
    · obtain ⟨q1, q2, q3, q4⟩ := hF.rep rfl
      obtain ⟨t, rfl⟩ : ∃ t, s = [t] := List.length_eq_one_iff.1 q1
      simp only [fineL, sfTL, Bool.and_eq_true, nodesL] at hf hs hb ⊢
      rcases hs.1 trivial with hm | ⟨rfl, rfl⟩
      · obtain ⟨n2, W2, lo2, LE2, h1, h2, h3, h4⟩ := beg_ex t hf.2.1 hs.2.1 (n + 1) (Dcd lz n lo B) (lo + 1) (by omega) (by omega) ((Gw.pair hB (.again lo)).once (by omega) (by omega))
        have hx : BX (1 + (t.nodes + 0)) n lo n2 lo2 ((lo, W2) :: LE2) := h1.loop (by omega) ⟨h2, h3⟩
        rcases hm with ⟨rfl, rfl⟩ | ⟨rfl, rfl⟩
        · refine ⟨n2, Dcd lz n lo B, lo2, _, hx, (Gw.pair hB (.again lo)).once (by omega) (by omega), by simp [Way.ua], fun E hE => .any0 ?_⟩
          have e : E lo = W2 := hE (lo, W2) (List.mem_cons_self ..)
          rw [e]
          exact h4 E fun p hp => hE p (List.mem_cons_of_mem _ hp)
        · refine ⟨n2, W2, lo2, _, hx, h2, h3, fun E hE => ?_⟩
          have e : E lo = W2 := hE (lo, W2) (List.mem_cons_self ..)
          have h5 := h4 E fun p hp => hE p (List.mem_cons_of_mem _ hp)
          rw [← e] at h5 ⊢
          exact Beg.any (c := 0) h5 .zero
      · obtain ⟨n2, W2, lo2, LE2, h1, h2, h3, h4⟩ := beg_ex t hf.2.1 hs.2.1 n B lo hn (by omega) hB
        have := h1.n1
        refine ⟨n2 + 1, .once (n2 + 1) (.inOrder (if lz = true then [B, W2] else [W2, B])), lo2, LE2, h1.more ⟨by omega, by omega⟩, (Gw.pair hB h2).once (by omega) (by omega), by simp [Way.ua], fun E hE => ?_⟩
        exact Beg.bnd (c := 0) (m := 1) (.succ .zero (h4 E hE)) .zero
    · obtain ⟨q1, q2, q3⟩ := hF.grp rfl
      obtain ⟨t, rfl⟩ : ∃ t, s = [t] := List.length_eq_one_iff.1 q1
      simp only [fineL, sfTL, Bool.and_eq_true, nodesL] at hf hs hb ⊢
      obtain ⟨i, rfl⟩ := Int.eq_ofNat_of_zero_le (show 0 ≤ ix by omega)
      obtain ⟨n', W, lo', LE, h1, h2, h3, h4⟩ := beg_ex t hf.2.1 hs.2.1 n (.noted (2 * i + 1) B) lo hn (by omega) hB.noted
      have := h1.n1
      exact ⟨n' + 1, .once (n' + 1) (.noted (2 * i) W), lo', LE, h1.more ⟨by omega, by omega⟩, h2.noted.once (by omega) (by omega), by simp [Way.ua], fun E hE => .grp (h4 E hE)⟩
theorem begC_ex : ∀ (ts : List Tn), fineL ts = true → sfTL ts → ∀ (n : Int) (B : Way) (lo : Nat), 0 ≤ n → n + 2 * (nodesL ts : Int) ≤ 900000000 → Gw B → ∃ n' W lo' LE, BX (nodesL ts) n lo n' lo' LE ∧ Gw W ∧ (ts ≠ [] → W.ua = []) ∧ ∀ E : Nat → Way, (∀ p ∈ LE, E p.1 = p.2) → BegC E ts n B n' W
  | [], hf, hs, n, B, lo, hn, hb, hB => ⟨n, B, lo, [], .nil _ _ _, hB, fun h => absurd rfl h, fun E _ => .nil⟩
  | t :: ts, hf, hs, n, B, lo, hn, hb, hB => by
    simp only [fineL, Bool.and_eq_true] at hf
    simp only [sfTL] at hs
    simp only [nodesL] at hb ⊢
    obtain ⟨n1, W1, lo1, LE1, h1, h2, h3, h4⟩ := begC_ex ts hf.2 hs.2 n B lo hn (by omega) hB
    have a1 := h1.n1
    obtain ⟨n2, W2, lo2, LE2, g1, g2, g3, g4⟩ := beg_ex t hf.1 hs.1 n1 W1 lo1 (by omega) (by omega) h2
    exact ⟨n2, W2, lo2, LE1 ++ LE2, h1.seq g1 (by omega), g2, fun _ => g3, fun E hE => .cons (h4 E (app_all hE).1) (g4 E (app_all hE).2)⟩
theorem begA_ex : ∀ (ts : List Tn), fineL ts = true → sfTL ts → ∀ (us : List Tn) (n n0 : Int) (B : Way) (lo lo0 : Nat) (Ws : List Way) (LE : List (Nat × Way)) (c : Nat), 0 ≤ n → n + 2 * (nodesL ts : Int) ≤ 900000000 → Gw B → BX c n0 lo0 n lo LE → GwL Ws → (∀ E : Nat → Way, (∀ p ∈ LE, E p.1 = p.2) → BegA E us n0 B n Ws) →
    ∃ n' Ws' lo' LE', BX (c + nodesL ts) n0 lo0 n' lo' LE' ∧ GwL Ws' ∧ ∀ E : Nat → Way, (∀ p ∈ LE', E p.1 = p.2) → BegA E (us ++ ts) n0 B n' Ws'
  | [], hf, hs, us, n, n0, B, lo, lo0, Ws, LE, c, hn, hb, hB, hX, hW, hA => ⟨n, Ws, lo, LE, by simp only [nodesL, Nat.add_zero]; exact hX, hW, fun E hE => by rw [List.append_nil]; exact hA E hE⟩
  | t :: ts, hf, hs, us, n, n0, B, lo, lo0, Ws, LE, c, hn, hb, hB, hX, hW, hA => by
    simp only [fineL, Bool.and_eq_true] at hf
    simp only [sfTL] at hs
    simp only [nodesL] at hb ⊢
    obtain ⟨n1, W1, lo1, LE1, g1, g2, g3, g4⟩ := beg_ex t hf.1 hs.1 n B lo hn (by omega) hB
    have a1 := g1.n1
    obtain ⟨n2, Ws2, lo2, LE2, k1, k2, k3⟩ := begA_ex ts hf.2 hs.2 (us ++ [t]) n1 n0 B lo1 lo0 (Ws ++ [W1]) (LE ++ LE1) (c + t.nodes) (by omega) (by omega) hB (hX.seq g1 (Nat.le_refl _)) (hW.snoc g2) (fun E hE => .snoc (hA E (app_all hE).1) (g4 E (app_all hE).2))
    refine ⟨n2, Ws2, lo2, LE2, by rw [← Nat.add_assoc]; exact k1, k2, fun E hE => ?_⟩
    have := k3 E hE
    rw [List.append_assoc] at this
    exact this
end
/-- the parses of such a tree are there -/
theorem PS.of_sf {t : Tn} (hf : t.fine = true) (hs : t.sfT) (hn : t.nodes ≤ 400000000) (K : Nat) (tx : List Int) (p : Nat) (hp : p ≤ tx.length) : ∃ l, PS t K tx p l := by
  have h1 : Gw (.once 1 .through) := ⟨by simp only [Way.tg]; exact ⟨⟨by omega, by omega⟩, .inl ⟨trivial, trivial⟩⟩, by simp only [Way.few]⟩
  obtain ⟨n1, W, lo, LE, hX, hW, _, hE⟩ := beg_ex t hf hs 1 (.once 1 .through) 0 (by omega) (by omega) h1
  have hEg := envOf_good LE hX.wf
  obtain ⟨s', hx, _⟩ := good_all (tx := tx) (E := envOf LE) (top := 1000000000) (fun b => ⟨(hEg b).1.tg, (hEg b).2⟩) _ ⟨[], (List.replicate K (-1)).set 0 (p : Int), []⟩ W p (Nat.le_refl _) hW.tg hp
  exact ⟨s'.parses, ⟨envOf LE, W, n1, s', hE (envOf LE) (envOf_mem LE hX.nd), hEg, hW, hx, rfl⟩⟩
/-- a tree unfolded has its parses -/
theorem PS.spread_eq {t : Tn} {K : Nat} {tx : List Int} {p : Nat} {l m : List (Int × List Int)} (h : PS t.spread K tx p l) (h' : PS t K tx p m) : l = m := by
  obtain ⟨E, W, n1, s1, hB, hE, hg, hx, rfl⟩ := h.ex
  obtain ⟨E', W', n1', s1', hB', hE', hg', hx', rfl⟩ := h'.ex
  obtain ⟨G0, hG0⟩ : ∃ G0 : Mat, G0 = ⟨fun a a' => a = 1 ∧ a' = 1, fun _ _ => False, fun _ _ => False, fun _ => .through, false, Eq, Eq⟩ := ⟨_, rfl⟩
  obtain ⟨G, hI, hgr, hS, h0, hH⟩ := beg_spread hB' _ _ _ _ hB G0 (by rw [hG0]) (by rw [hG0]; exact ⟨fun a a' h => by simp at h; omega, fun _ _ h => h.elim, fun a a' m m' h1 h2 => by simp at h1 h2; omega, fun _ _ _ h => h.elim, fun _ _ _ h => h.elim⟩) (by rw [hG0]; exact .once ⟨rfl, rfl⟩ .through) ⟨1, by rw [hG0]; exact .once (n' := 1) ⟨rfl, rfl⟩⟩
  have hnr : G.NR = Eq := by rw [hgr.nr, hG0]
  have hpr : G.PR = Eq := by rw [hgr.pr, hG0]
  have hdr : G.drop = false := by rw [hgr.dr, hG0]
  have hok : G.Ok E E' := by
    refine ⟨hI.one, hI.noC, hI.oneX, fun b b' hb => ?_, fun c x ν ν' hd hn => ?_, fun c x ν ν' hd _ => (by rw [hdr] at hd; cases hd), fun q ν ν' a b hn h => ?_⟩
    · rcases hgr.new b b' hb with hb | hb
      · rw [hG0] at hb; exact hb.elim
      · exact hb
    · rw [hnr] at hn ⊢; rw [hn]
    · rw [hpr] at h ⊢
      rw [hnr] at hn
      rw [hn, h]
  obtain ⟨s2, hx2, hA⟩ := sim_ex hok hx W' ⟨[], (List.replicate K (-1)).set 0 (p : Int), []⟩ NoP hS ⟨fun a a' q _ => by simp, fun m n0 q _ hm => by simp at hm, by rw [hnr], by rw [hpr]⟩ (Pend.no _ _)
  have e := hx'.det hx2
  subst e
  have := hA.pr
  rw [hpr] at this
  exact this
/-- THE HUNT'S WALKS over a tree unfolded have the tree's parses -/
theorem hunt_is {t : Tn} {K : Nat} {tx : List Int} {p : Nat} {l out : List (Int × List Int)} (hf : t.fine = true) (hsz : t.sz ≤ 100000) (h : PS t K tx p l) (hp : p ≤ tx.length) (hx : Hx tx (t.spread.num 0).env ((t.spread.num 0).fw (.once 1 .through)) p [] ((List.replicate K (-1)).set 0 (p : Int)) [] out) : out = l := by
  obtain ⟨f1, f2⟩ := spread_ok t hf
  have h3 := spread_nodes t hf
  obtain ⟨l', h'⟩ := PS.of_sf f1 f2 (by omega) K tx p hp
  have e := full_hx (num_nodup _ _) (num_sf _ 0 f2) (by rw [num_tn]; exact h') hp hx
  rw [e]
  exact PS.spread_eq h' h
end Go.Proofs.Ytnpocciioedgpaa
/- HELPERS: the hunt: on, within what stands around it. -/
namespace Go.Proofs.Ytnpocciioedgpaa
open Go.RowKit
set_option linter.unusedVariables false
set_option linter.unusedSimpArgs false
theorem step_post {C : HC} {f : Nat} {A A' : Way} {p q : Nat} {was was' : List (Int × Int)} {caps caps' : List Int} {left : Int} {out : List (Int × List Int)} {W V w' : World} {e : Ending} (h : HPost C f A q was' caps' (left - 1) out V e w') (fr : Fr C W V) (h0 : 0 < left) (hx : ∀ o, Hx C.tx C.E A q was' (caps'.set 0 C.frm) out o → Hx C.tx C.E A' p was (caps.set 0 C.frm) out o) : HPost C (f + 1) A' p was caps left out W e w' := by
  obtain ⟨h1, left', out', h2, h3, h4, h5, h6⟩ := h
  refine ⟨h1, left', out', h2, fun h => by omega, fun _ => ?_, fun h => hx _ (h5 h), fr.trans h6⟩
  simp only [LBv] at h4 ⊢
  by_cases hz : left - 1 ≤ 0
  · have := h3 hz
    omega
  · have := h4 (by omega)
    omega
theorem HIn.caps {C : HC} {W W' : World} {left : Int} {out : List (Int × List Int)} {p q : Nat} {caps caps' : List Int} {cv cv' : Value} {was : List (Int × Int)} {KW : List Int} {wv : Value} {f f' : Nat} (h : HIn C W left out p caps cv was KW wv f) (hm : HM C W' (left - 1) out) (fr : Fr C W W') (hq : q ≤ C.tn) (hc : Rw W' cv' caps') (hl : caps'.length = caps.length) (h2 : left ≤ f') (h0 : 0 < left) : HIn C W' (left - 1) out q caps' cv' was KW wv f' :=
  ⟨hm, hq, hc, by rw [hl]; exact h.capl, fr.row h.wasr, h.kr, by omega, by omega, by have := h.sz; omega⟩
theorem sub_at {W : World} {sa : Option Addr} {sc : Nat} {s : List Lt} (h : Rw W (.slice sa s.length sc) (s.map fun t => (t.lb : Int))) {i : Nat} (hi : i < s.length) : ∃ g, sa = some ⟨g, 0, none⟩ ∧ W.cell? ⟨g, i, none⟩ = some (.int .i64 ((s[i]).lb : Int)) := by
  obtain ⟨g, h1, h2⟩ := sub_cell h (by simp) hi
  refine ⟨g, h1, ?_⟩
  rw [h2]
  simp [List.getD_eq_getElem?_getD, List.getElem?_eq_getElem hi]
theorem fwC_next {s : List Lt} {i : Nat} {B : Way} (hi : i < s.length) : fwC (s.drop i) B = (s[i]).fw (fwC (s.drop (i + 1)) B) := by
  rw [List.drop_eq_getElem_cons hi]
  rfl
set_option maxRecDepth 100000 in
set_option maxHeartbeats 8000000 in
theorem on_up {C : HC} (hk : HCk C) {f : Nat} (hB : Hid (BeginC C f)) (hO : Hid (OnC C f)) (hD : Hid (DecideC C f)) (hf : f ≤ 10000) {W : World} {left : Int} {out : List (Int × List Int)} {lb : Nat} {k : Int} {R : List (Int × Int)} {a : Int} {s : List Lt} {mn mx : Int} {lz : Bool} {ix : Int} {nm : ByteArray} {B : Way} {up : Int} {nth : Nat} {p : Nat} {caps : List Int} {cv : Value} {was : List (Int × Int)} {KW : List Int} {wv : Value}
    (he : (⟨.mk lb k R a s mn mx lz ix nm, B, up, nth⟩ : Pl) ∈ C.L) {i : Nat} (hi : i < s.length) (h : HIn C W left out p caps cv was KW wv (f + 1)) :
    Calls Try.prog 37 #[.pointer (some ⟨C.hb, 0, none⟩), .int .i64 ((s[i]).lb : Int), .int .i64 (p : Int), cv, wv] W (HPost C (f + 1) (subB (.mk lb k R a s mn mx lz ix nm) B i) p was caps left out W) := by
  have hkid := hk.child _ he i (by simpa [Lt.sub] using hi)
  obtain ⟨c, hc⟩ : ∃ c, c = (s[i]).lb := ⟨_, rfl⟩
  rw [← hc]
  have hlb := hk.num _ he
  have hcb := hk.num _ hkid
  simp only [child, Lt.sub] at hcb
  rw [← hc] at hcb
  have hnn := hk.nn
  have htn := hk.tn64
  have hp := h.p64
  simp only [Lt.lb] at hlb
  have hsl : s.length ≤ 300000 := hk.subs _ he
  obtain ⟨-, -, -, -, -, -, k3, -, ku, -, -⟩ := h.hm.cells
  have u3 := ku 3
  obtain ⟨W1, hW1⟩ : ∃ W1, W1 = W.setCell ⟨C.hb, 3, none⟩ (.int .i64 (left - 1)) := ⟨_, rfl⟩
  obtain ⟨hm1, fr1⟩ := h.hm.dec
  rw [← hW1] at hm1 fr1
  obtain ⟨-, -, -, l0, -, -, l3, -, -, -, -⟩ := hm1.cells
  obtain ⟨r1, r3, s1, s2, s3, sa, sc, hP, -, -, hR, ok⟩ := hm1.at he
  have hkP : W1.cell? ⟨C.pb, c * 12 + 10, none⟩ = some (.int .i64 (lb : Int)) ∧ W1.cell? ⟨C.pb, c * 12 + 11, none⟩ = some (.int .i64 (i : Int)) := by
    obtain ⟨M, sa', sc', -, h2, -⟩ := hm1.pl _ hkid
    simp only [child, Lt.sub, P12] at h2
    rw [← hc] at h2
    exact ⟨h2.2.2.2.2.2.2.2.2.2.2.1, h2.2.2.2.2.2.2.2.2.2.2.2⟩
  obtain ⟨c10, c11⟩ := hkP
  obtain ⟨V, hV⟩ : ∃ V, V = W1.alloc (.cells #[.int .i64 k, .slice r1 R.length r3, .int .i64 a, .slice s1 s2 s3, .int .i64 mn, .int .i64 mx, .bool lz, .int .i64 ix, .string nm, .slice sa s.length sc, .int .i64 up, .int .i64 (nth : Int)] 64) := ⟨_, rfl⟩
  obtain ⟨hmV, frV⟩ := hm1.copy (o := .cells #[.int .i64 k, .slice r1 R.length r3, .int .i64 a, .slice s1 s2 s3, .int .i64 mn, .int .i64 mx, .bool lz, .int .i64 ix, .string nm, .slice sa s.length sc, .int .i64 up, .int .i64 (nth : Int)] 64)
  have hY : V.heap[W1.heap.size]? = some (.cells #[.int .i64 k, .slice r1 R.length r3, .int .i64 a, .slice s1 s2 s3, .int .i64 mn, .int .i64 mx, .bool lz, .int .i64 ix, .string nm, .slice sa s.length sc, .int .i64 up, .int .i64 (nth : Int)] 64 (0, 0)) := by rw [hV]; exact heap_alloc_new W1 _
  rw [← hV] at hmV frV
  obtain ⟨-, -, -, v0, -, -, -, -, -, -, -⟩ := hmV.cells
  have hkV : V.cell? ⟨C.pb, c * 12 + 11, none⟩ = some (.int .i64 (i : Int)) := by
    obtain ⟨M, sa', sc', -, h2, -⟩ := hmV.pl _ hkid
    simp only [child, Lt.sub, P12] at h2
    rw [← hc] at h2
    exact h2.2.2.2.2.2.2.2.2.2.2.2
  obtain ⟨y, hy⟩ : ∃ y, y = W1.heap.size := ⟨_, rfl⟩
  rw [← hy] at hY
  obtain ⟨y0, -, -, -, y5, -, y7, y9⟩ := box12' hY
  simp only [P12] at hP
  obtain ⟨p0, p1, p2, p3, p4, p5, p6, p7, p8, p9, p10, p11⟩ := hP
  have frW : Fr C W V := fr1.trans frV
  have HV : Hid (0 < left → HIn C V (left - 1) out p caps cv was KW wv f) := fun h0 => h.caps hmV frW h.p64 (frW.row h.cap) rfl (by have := h.fuel; omega) h0
  have HHM := hid hm1
  have HF1 := hid fr1
  have HFV := hid frW
  have HYV := hid hV
  have HEY := hid hy
  have HW1 := hid hW1
  have hr3 : -100000000000 ≤ left ∧ left ≤ 20000 := ⟨h.lo, by have := h.fuel; omega⟩
  have b1 : (lb : Int) < (C.n : Int) := by omega
  have b2 : (c : Int) < (C.n : Int) := by omega
  have b3 : (i : Int) ≤ 300000 := by omega
  have hp64 : (p : Int) ≤ 64 := by omega
  obtain ⟨ok1, ok2⟩ := ok.k
  obtain ⟨ox1, ox2⟩ := ok.a5
  simp only at ok1 ok2 ox1 ox2
  -- what each call does
  have HN : Hid (k = 4 → (hn : i + 1 < s.length) → 0 < left → Calls Try.prog 18 #[.pointer (some ⟨C.hb, 0, none⟩), .int .i64 ((s[i + 1]).lb : Int), .int .i64 (p : Int), cv, wv] V (HPost C f (subB (.mk lb k R a s mn mx lz ix nm) B i) p was caps (left - 1) out V)) := fun h4 hn h0 => by
    have hkn := hk.child _ he (i + 1) (by simpa [Lt.sub] using hn)
    have := hB.out V (left - 1) out _ p caps cv was KW wv hkn (HV.out h0)
    simp only [child, Lt.sub, subB, if_pos h4] at this ⊢
    rw [fwC_next hn]
    exact this
  have HO0 : Hid (0 < left → Calls Try.prog 37 #[.pointer (some ⟨C.hb, 0, none⟩), .int .i64 (lb : Int), .int .i64 (p : Int), cv, wv] V (HPost C f B p was caps (left - 1) out V)) := fun h0 => hO.out V (left - 1) out _ p caps cv was KW wv he (HV.out h0)
  have HD0 : Hid (k = 6 → mx < 0 → 0 < left → Calls Try.prog 56 #[.pointer (some ⟨C.hb, 0, none⟩), .int .i64 (lb : Int), .int .i64 (p : Int), cv, wv] V (HPost C f (Kd lz lb B) p was caps (left - 1) out V)) := fun h6 hm h0 => by
    subst h6
    exact hD.out V (left - 1) out lb R a _ mn mx lz ix nm B up nth p caps cv was KW wv he hm (HV.out h0)
  have HG : Hid (k = 7 → 1 ≤ ix ∧ 2 * ix + 1 < C.K) := fun h7 => hk.grp _ _ _ _ _ _ _ _ _ _ _ _ _ he h7
  have HK2 := hid hk.k2
  have HCL := hid h.capl
  have HS : Hid (k = 7 → Calls Try.prog 39 #[cv, .int .i64 (2 * ix + 1), .int .i64 (p : Int)] V fun e w' => ∃ v', e = .returned v' ∧ w'.ownsRow V.heap.size 3 1 v' caps.length (I64 (caps.set (2 * ix.toNat + 1) (p : Int))) ∧ Below V.heap.size V w') := fun h7 => by
    have hg := HG.out h7
    have := set39 caps cv (2 * ix.toNat + 1) (p : Int) V (frW.row h.cap).src (by have := h.capl; omega) (by have := h.capl; have := HK2.out; omega)
    rw [show (((2 * ix.toNat + 1 : Nat)) : Int) = 2 * ix + 1 by omega] at this
    exact this
  have HO7 : Hid (0 < left → ∀ w' cv', HM C w' (left - 1) out → Fr C V w' → Rw w' cv' (caps.set (2 * ix.toNat + 1) (p : Int)) → Calls Try.prog 37 #[.pointer (some ⟨C.hb, 0, none⟩), .int .i64 (lb : Int), .int .i64 (p : Int), cv', wv] w' (HPost C f B p was (caps.set (2 * ix.toNat + 1) (p : Int)) (left - 1) out w')) := fun h0 w' cv' hm fr hr =>
    hO.out w' (left - 1) out _ p _ cv' was KW wv he (h.caps hm (frW.trans fr) h.p64 hr (by simp) (by have := h.fuel; omega) h0)
  have HHV := hid hmV
  have HRR : Hid (∀ (hn : i + 1 < s.length), ∃ g, sa = some ⟨g, 0, none⟩ ∧ V.cell? ⟨g, i + 1, none⟩ = some (.int .i64 ((s[i + 1]).lb : Int))) := fun hn => sub_at (frV.row hR) hn
  obtain ⟨sl, hslen⟩ : ∃ sl, sl = s.length := ⟨_, rfl⟩
  have HSL := hid hslen
  rw [← hslen] at y9 p9 hsl hV
  have HYV2 := hid hV
  clear HYV
  have hsl2 : (sl : Int) ≤ 300000 := by omega
  generalize hWB : subB (.mk lb k R a s mn mx lz ix nm) B i = WB at HN
  have HWB := hid hWB
  clear hkid hc hlb hcb hnn htn hp hm1 fr1 hV hY hmV frV hy frW hW1 h hk hB hO hD hf he ok hR hslen hWB ku
  go_enter Try.func37, Try.ntmps37
  go_upto_region 1 with fail
  rw [← HW1.out]
  clear k3 u3
  by_cases hl : left - 1 < 0
  · go_wp2_with fail
    refine bodyPost_ret (results_none rfl _ _ _) rfl ?_
    exact stop_post HHM.out HF1.out (fun h => by omega)
  · have h0 : 0 < left := by omega
    go_upto_region 10 with fail
    rw [← HYV2.out, ← HEY.out]
    clear p0 p1 p2 p3 p4 p5 p6 p7 p8 p9 p10 p11 c10 c11 l0 l3
    have ad1 : IntKind.i64.wrap ((i : Int) + 1) = (i : Int) + 1 := by simp [IntKind.wrap, IntKind.bits, IntKind.signed]; omega
    by_cases h4 : k = 4
    · subst h4
      by_cases hn : i + 1 < sl
      · obtain ⟨g, rfl, gc⟩ := HRR.out (by rw [← HSL.out]; exact hn)
        have HC := HN.out rfl (by rw [← HSL.out]; exact hn) h0
        obtain ⟨x, hx⟩ : ∃ x : Nat, x = (s[i + 1]'(by rw [← HSL.out]; exact hn)).lb := ⟨_, rfl⟩
        rw [← hx] at HC gc
        clear hx
        have q1 : ((i : Int) + 1) < (sl : Int) := by omega
        go_wp2_with (first | (go_at_call 18; (with_reducible refine HC.mono ?_); rintro e w1 hp; have hq := hid (step_post (p := p) (was := was) (caps := caps) hp HFV.out h0 (fun o hx => hx)); obtain ⟨rfl, -⟩ := hp; clear HC))
        go_end0
        exact hq.out
      · have HC := HO0.out h0
        have hB' : WB = B := by
          rw [← HWB.out, subB, if_pos rfl, List.drop_eq_nil_of_le (by rw [← HSL.out]; omega)]
          rfl
        have HBB := hid hB'
        clear hB'
        have q1 : ¬ ((i : Int) + 1) < (sl : Int) := by omega
        go_wp2_with (first | (go_at_call 37; (with_reducible refine HC.mono ?_); rintro e w1 hp; have hq := hid (step_post (p := p) (was := was) (caps := caps) (A' := B) hp HFV.out h0 (fun o hx => hx)); obtain ⟨rfl, -⟩ := hp; clear HC))
        go_end0
        rw [HBB.out]
        exact hq.out
    · have g4 : (k == 4) = false := by simpa using h4
      by_cases h7 : k = 7
      · subst h7
        obtain ⟨hx1, hx2⟩ := HG.out rfl
        have hx3 : ix ≤ 1000 := by have := HK2.out; omega
        have HA := HS.out rfl
        have HIX := hid hx1
        have HWN : Hid (WB = .noted (2 * ix.toNat + 1) B) := hid (by rw [← HWB.out]; simp [subB])
        go_wp2_with (first | (go_at_call 39; (with_reducible refine HA.mono ?_); rintro e w1 ⟨v1, rfl, ho1, hb1⟩; obtain ⟨hm2, fr2⟩ := HHV.out.below hb1; have HC := HO7.out h0 w1 v1 hm2 fr2 (Rw.of ho1 (by have := HCL.out; have := HK2.out; omega)); have HF2 := hid fr2; clear ho1 hb1 hm2 fr2 HA) | (go_at_call 37; (with_reducible refine HC.mono ?_); rintro e w2 hp; have hq := hid (step_post (p := p) (was := was) (caps := caps) (A' := .noted (2 * ix.toNat + 1) B) hp (HFV.out.trans HF2.out) h0 (fun o hx => .noted (by rw [List.set_comm _ _ (by omega)]; exact hx))); obtain ⟨rfl, -⟩ := hp; clear HC))
        go_end0
        rw [HWN.out]
        exact hq.out
      · have g7 : (k == 7) = false := by simpa using h7
        by_cases h6 : k = 6
        · subst h6
          by_cases hm : mx < 0
          · have HC := HD0.out rfl hm h0
            have HWN : Hid (WB = Kd lz lb B) := hid (by rw [← HWB.out]; simp [subB, hm])
            go_wp2_with (first | (go_at_call 56; (with_reducible refine HC.mono ?_); rintro e w1 hp; have hq := hid (step_post (p := p) (was := was) (caps := caps) (A' := Kd lz lb B) hp HFV.out h0 (fun o hx => hx)); obtain ⟨rfl, -⟩ := hp; clear HC))
            go_end0
            rw [HWN.out]
            exact hq.out
          · have HC := HO0.out h0
            have HWN : Hid (WB = B) := hid (by rw [← HWB.out]; simp [subB, hm])
            go_wp2_with (first | (go_at_call 37; (with_reducible refine HC.mono ?_); rintro e w1 hp; have hq := hid (step_post (p := p) (was := was) (caps := caps) (A' := B) hp HFV.out h0 (fun o hx => hx)); obtain ⟨rfl, -⟩ := hp; clear HC))
            go_end0
            rw [HWN.out]
            exact hq.out
        · have g6 : (k == 6) = false := by simpa using h6
          have HC := HO0.out h0
          have HWN : Hid (WB = B) := hid (by rw [← HWB.out]; simp [subB, h4, h7, h6])
          go_wp2_with (first | (go_at_call 37; (with_reducible refine HC.mono ?_); rintro e w1 hp; have hq := hid (step_post (p := p) (was := was) (caps := caps) (A' := B) hp HFV.out h0 (fun o hx => hx)); obtain ⟨rfl, -⟩ := hp; clear HC))
          go_end0
          rw [HWN.out]
          exact hq.out
end Go.Proofs.Ytnpocciioedgpaa
/- HELPERS: the hunt: begin, kind 1. -/
namespace Go.Proofs.Ytnpocciioedgpaa
open Go.RowKit
set_option linter.unusedVariables false
set_option linter.unusedSimpArgs false
set_option maxRecDepth 100000 in
set_option maxHeartbeats 8000000 in
theorem begin_1 {C : HC} (hk : HCk C) {f : Nat} (hB : Hid (BeginC C f)) (hO : Hid (OnC C f)) (hD : Hid (DecideC C f)) (hf : f ≤ 10000) {W : World} {left : Int} {out : List (Int × List Int)} {lb : Nat} {R : List (Int × Int)} {a : Int} {s : List Lt} {mn mx : Int} {lz : Bool} {ix : Int} {nm : ByteArray} {B : Way} {up : Int} {nth : Nat} {p : Nat} {caps : List Int} {cv : Value} {was : List (Int × Int)} {KW : List Int} {wv : Value}
    (he : (⟨.mk lb 1 R a s mn mx lz ix nm, B, up, nth⟩ : Pl) ∈ C.L) (h : HIn C W left out p caps cv was KW wv (f + 1)) :
    Calls Try.prog 18 #[.pointer (some ⟨C.hb, 0, none⟩), .int .i64 (lb : Int), .int .i64 (p : Int), cv, wv] W (HPost C (f + 1) ((Lt.mk lb 1 R a s mn mx lz ix nm).fw B) p was caps left out W) := by
  have hF := node_fine (hk.fine _ he)
  have hlb := hk.num _ he
  have hnn := hk.nn
  have htn := hk.tn64
  have hp := h.p64
  simp only [Lt.lb] at hlb
  obtain ⟨-, -, -, -, -, -, k3, -, ku, -, -⟩ := h.hm.cells
  have u3 := ku 3
  obtain ⟨W1, hW1⟩ : ∃ W1, W1 = W.setCell ⟨C.hb, 3, none⟩ (.int .i64 (left - 1)) := ⟨_, rfl⟩
  obtain ⟨hm1, fr1⟩ := h.hm.dec
  rw [← hW1] at hm1 fr1
  obtain ⟨-, -, -, -, -, -, l3, -, -, -, -⟩ := hm1.cells
  have HHM := hid hm1
  have HF1 := hid fr1
  obtain ⟨key, hkey⟩ : ∃ key : Int, key = 2 * (100 * (lb : Int) + (p : Int)) + 1 := ⟨_, rfl⟩
  have hw1 := fr1.row h.wasr
  obtain ⟨wa, wc, ewv⟩ := hw1.form
  subst ewv
  have hDid := did35 KW wa KW.length wc key W1 _ (hw1.text (by have := h.sz; omega))
  have hAnd := and36 KW (.slice wa KW.length wc) key W1 hw1.src (by have := h.sz; omega)
  have hdec : decide (key ∈ KW) = decide ((kb lb, (p : Int)) ∈ was) := by
    rw [hkey]; exact decide_eq_decide.2 ((h.kr lb p (by omega)).1.symm)
  rw [hdec] at hDid
  have hr3 : -100000000000 ≤ left ∧ left ≤ 20000 := ⟨h.lo, by have := h.fuel; omega⟩
  have HH := hid h
  have hlb3 : (lb : Int) ≤ 300000 := by omega
  have hp64 : (p : Int) ≤ 64 := by omega
  have b1 : (lb : Int) < (C.n : Int) := by omega
  have HK : Hid (KR ((kb lb, (p : Int)) :: was) (KW ++ [key])) := by rw [hkey]; exact hid (h.kr.begun (by omega))
  have HKY := hid hkey
  have HW1 := hid hW1
  obtain ⟨d, hd⟩ : ∃ d, d = decide ((kb lb, (p : Int)) ∈ was) := ⟨_, rfl⟩
  rw [← hd] at hDid
  have HD := hid hd
  obtain ⟨was', hwas⟩ : ∃ was', was' = (kb lb, (p : Int)) :: was := ⟨_, rfl⟩
  rw [← hwas] at HK
  have HXX : Hid (0 < left → d = false → ∀ o, Hx C.tx C.E (B) p was' (caps.set 0 C.frm) out o → Hx C.tx C.E ((Lt.mk lb 1 R a s mn mx lz ix nm).fw B) p was (caps.set 0 C.frm) out o) := fun _ hdf o hx => by
    simp only [Lt.fw]
    refine .once (by simp only [kb]; omega) (of_decide_eq_false (hd.symm.trans hdf)) ?_
    rw [← hwas]
    simpa using hx
  have HSK : Hid (d = true → Hx C.tx C.E ((Lt.mk lb 1 R a s mn mx lz ix nm).fw B) p was (caps.set 0 C.frm) out out) := fun hdt => by
    simp only [Lt.fw]
    exact .skip (by simp only [kb]; omega) (of_decide_eq_true (hd.symm.trans hdt))
  have HHK := hid hk
  have HHE := hid he
  have HFN := hid hF
  have HFF := hid hf
  clear hd hk hf he hF hlb hnn htn hp hm1 fr1 hw1 h hdec hW1 ku hkey hwas
  generalize (Lt.mk lb 1 R a s mn mx lz ix nm).fw B = WB at HXX HSK ⊢
  go_enter Try.func18, Try.ntmps18
  go_upto_region 2 with fail
  rw [← HW1.out, ← HKY.out]
  clear k3 u3
  go_upto_region 3 with (first | (go_at_call 35; (with_reducible refine hDid.mono ?_); rintro e w1 ⟨rfl, rfl⟩))
  by_cases hl : left - 1 < 0
  · go_wp2_with fail
    refine bodyPost_ret (results_none rfl _ _ _) rfl ?_
    exact stop_post HHM.out HF1.out (fun h => by omega)
  · have h0 : 0 < left := by omega
    cases d
    rotate_left
    · go_wp2_with fail
      refine bodyPost_ret (results_none rfl _ _ _) rfl ?_
      exact stop_post HHM.out HF1.out (fun h => HSK.out (by first | rfl | trivial))
    · have HXY := hid (HXX.out h0 rfl)
      clear HXX HSK HD
      go_upto_region 5 with (first | (go_at_call 36; (with_reducible refine hAnd.mono ?_); rintro e w2 ⟨v', rfl, ho, hb⟩; obtain ⟨hm2, fr2⟩ := HHM.out.below hb; have hrow := Rw.of ho (by omega); have hfr := HF1.out.trans fr2; have hin := HH.out.and h0 HK.out hm2 hfr hrow; clear ho hb hm2 fr2))
      clear l3 hAnd hDid
      obtain ⟨r1, r3, s1, s2, s3, sa, sc, hP, hRP, hRk, hR, ok⟩ := hin.hm.at HHE.out
      obtain ⟨-, -, -, k0, -, -, -, -, -, -, -⟩ := hin.hm.cells
      obtain ⟨V, hV⟩ : ∃ V, V = w2.alloc (.cells #[.int .i64 1, .slice r1 R.length r3, .int .i64 a, .slice s1 s2 s3, .int .i64 mn, .int .i64 mx, .bool lz, .int .i64 ix, .string nm, .slice sa s.length sc, .int .i64 up, .int .i64 (nth : Int)] 64) := ⟨_, rfl⟩
      obtain ⟨hmV, frV⟩ := hin.hm.copy (o := .cells #[.int .i64 1, .slice r1 R.length r3, .int .i64 a, .slice s1 s2 s3, .int .i64 mn, .int .i64 mx, .bool lz, .int .i64 ix, .string nm, .slice sa s.length sc, .int .i64 up, .int .i64 (nth : Int)] 64)
      have hY : V.heap[w2.heap.size]? = some (.cells #[.int .i64 1, .slice r1 R.length r3, .int .i64 a, .slice s1 s2 s3, .int .i64 mn, .int .i64 mx, .bool lz, .int .i64 ix, .string nm, .slice sa s.length sc, .int .i64 up, .int .i64 (nth : Int)] 64 (0, 0)) := by rw [hV]; exact heap_alloc_new w2 _
      rw [← hV] at hmV frV
      obtain ⟨y, hy⟩ : ∃ y, y = w2.heap.size := ⟨_, rfl⟩
      rw [← hy] at hY
      have HV := hid (hin.go (f' := f) hmV frV (Int.le_refl _) hin.fuel hin.lo)
      have HFV := hid (hfr.trans frV)
      have HYV := hid hV
      have HEY := hid hy
      have HY : Hid (∀ w', Fr C V w' → w'.heap[y]? = some (.cells #[.int .i64 1, .slice r1 R.length r3, .int .i64 a, .slice s1 s2 s3, .int .i64 mn, .int .i64 mx, .bool lz, .int .i64 ix, .string nm, .slice sa s.length sc, .int .i64 up, .int .i64 (nth : Int)] 64 (0, 0))) := fun w' fr => fr.box _ _ hY
      have HRV : Hid (∀ w', Fr C V w' → Rw w' (.slice sa s.length sc) (s.map fun t => (t.lb : Int))) := fun w' fr => fr.row (frV.row hR)
      have HRP : Hid (∀ w', Fr C V w' → RP w' (fun b => b < C.NB ∧ b ≠ C.hb) r1 R) := fun w' fr => hRP.kept (fun b hb => ((frV.trans fr).low b hb.1 hb.2)) (fun b hb => hb)
      have HRK := hid hRk
      have HOK := hid ok
      simp only [P12] at hP
      obtain ⟨p0, p1, p2, p3, p4, p5, p6, p7, p8, p9, p10, p11⟩ := hP
      clear hin hrow hfr hRP hRk hR ok hV hmV frV hY hy
      go_upto_region 6 with fail
      rw [← HYV.out, ← HEY.out]
      clear p0 p1 p2 p3 p4 p5 p6 p7 p8 p9 p10 p11 k0
      obtain ⟨y0, y1, y2, -, -, -, y7, y9⟩ := box12' (HY.out V (Fr.refl C V))
      have HC := hO.out V (left - 1) out _ p caps cv was' (KW ++ [key]) v' HHE.out HV.out
      simp only [Lt.lb] at HC
      go_wp2_with (first | (go_at_call 37; (with_reducible refine HC.mono ?_); rintro e w1 hp; have hq := hid (step_post hp HFV.out h0 HXY.out); obtain ⟨rfl, -⟩ := hp; clear HC))
      go_end0
      exact hq.out
end Go.Proofs.Ytnpocciioedgpaa
/- HELPERS: the hunt: begin, kind 2. -/
namespace Go.Proofs.Ytnpocciioedgpaa
open Go.RowKit
set_option linter.unusedVariables false
set_option linter.unusedSimpArgs false
/-- the j-th range holds it -/
def inR (R : List (Int × Int)) (c : Int) (j : Nat) : Prop := (R.getD j (0, 0)).1 ≤ c ∧ c ≤ (R.getD j (0, 0)).2
theorem inR_none {R : List (Int × Int)} {c : Int} (h : ∀ j, j < R.length → ¬ inR R c j) : hasB R c = false := by
  rw [hasB, Bool.eq_false_iff]
  intro ha
  obtain ⟨g, hg, h2⟩ := List.any_eq_true.1 ha
  obtain ⟨j, hj, rfl⟩ := List.getElem_of_mem hg
  refine h j hj ?_
  simp only [Bool.and_eq_true, decide_eq_true_eq] at h2
  simpa [inR, List.getD_eq_getElem?_getD, List.getElem?_eq_getElem hj] using h2
theorem inR_some {R : List (Int × Int)} {c : Int} {j : Nat} (hj : j < R.length) (h : inR R c j) : hasB R c = true := by
  rw [hasB]
  refine List.any_eq_true.2 ⟨R[j], List.getElem_mem hj, ?_⟩
  simp only [Bool.and_eq_true, decide_eq_true_eq]
  simpa [inR, List.getD_eq_getElem?_getD, List.getElem?_eq_getElem hj] using h
/-- so many ranges were looked at -/
def ClsI (C : HC) (f : Nat) (R : List (Int × Int)) (c : Int) (B : Way) (p : Nat) (was : List (Int × Int)) (caps : List Int) (left : Int) (out : List (Int × List Int)) (V W : World) (i : Nat) : Prop :=
  (HM C W left out ∧ Fr C V W ∧ ∀ j, j < i → ¬ inR R c j) ∨ ((∃ j, j < i ∧ j < R.length ∧ inR R c j) ∧ HPost C f B (p + 1) was caps left out V (.returned (.tuple #[])) W)
theorem ClsI.mem {C : HC} {f : Nat} {R : List (Int × Int)} {c : Int} {B : Way} {p : Nat} {was : List (Int × Int)} {caps : List Int} {left : Int} {out : List (Int × List Int)} {V W : World} {i : Nat} (h : ClsI C f R c B p was caps left out V W i) : ∃ left' out', HM C W left' out' ∧ Fr C V W := by
  rcases h with ⟨h1, h2, _⟩ | ⟨_, _, left', out', h1, _, _, _, h2⟩
  · exact ⟨_, _, h1, h2⟩
  · exact ⟨left', out', h1, h2⟩
theorem ClsI.out {C : HC} {f : Nat} {R : List (Int × Int)} {c : Int} {B : Way} {p : Nat} {was : List (Int × Int)} {caps : List Int} {left : Int} {out : List (Int × List Int)} {V W : World} {i : Nat} (h : ClsI C f R c B p was caps left out V W i) (hn : ¬ inR R c i) : ClsI C f R c B p was caps left out V W.drew (i + 1) := by
  have hd : Below W.heap.size W W.drew := ⟨rfl, rfl, rfl, Nat.le_refl _, fun _ _ => rfl⟩
  rcases h with ⟨h1, h2, h3⟩ | ⟨⟨j, h4, h5, h6⟩, h7, left', out', h8, h9, h10, h11, h12⟩
  · obtain ⟨a, b⟩ := h1.below hd
    refine .inl ⟨a, h2.trans b, fun j hj => ?_⟩
    by_cases e : j = i
    · subst e; exact hn
    · exact h3 j (by omega)
  · obtain ⟨a, b⟩ := h8.below hd
    exact .inr ⟨⟨j, by omega, h5, h6⟩, h7, left', out', a, h9, h10, h11, h12.trans b⟩
theorem ClsI.first {C : HC} {f : Nat} {R : List (Int × Int)} {c : Int} {B : Way} {p : Nat} {was : List (Int × Int)} {caps : List Int} {left : Int} {out : List (Int × List Int)} {V W : World} {i : Nat} (h : ClsI C f R c B p was caps left out V W i) (hR : rightB R = true) (hi : i < R.length) (hn : inR R c i) : HM C W.drew left out ∧ Fr C V W.drew := by
  have hd : Below W.heap.size W W.drew := ⟨rfl, rfl, rfl, Nat.le_refl _, fun _ _ => rfl⟩
  rcases h with ⟨h1, h2, h3⟩ | ⟨⟨j, h4, h5, h6⟩, _⟩
  · obtain ⟨a, b⟩ := h1.below hd
    exact ⟨a, h2.trans b⟩
  · exfalso
    simp only [rightB, Bool.and_eq_true] at hR
    have := right_lo R 0 hR.2 j i h4 hi
    have a1 := h6.2
    have a2 := hn.1
    omega
theorem HPost.base {C : HC} {f : Nat} {A : Way} {p : Nat} {was : List (Int × Int)} {caps : List Int} {left : Int} {out : List (Int × List Int)} {W V w' : World} {e : Ending} (h : HPost C f A p was caps left out V e w') (fr : Fr C W V) : HPost C f A p was caps left out W e w' := by
  obtain ⟨h1, left', out', h2, h3, h4, h5, h6⟩ := h
  exact ⟨h1, left', out', h2, h3, h4, h5, fr.trans h6⟩
set_option maxRecDepth 100000 in
set_option maxHeartbeats 8000000 in
theorem begin_2 {C : HC} (hk : HCk C) {f : Nat} (hB : Hid (BeginC C f)) (hO : Hid (OnC C f)) (hD : Hid (DecideC C f)) (hf : f ≤ 10000) {W : World} {left : Int} {out : List (Int × List Int)} {lb : Nat} {R : List (Int × Int)} {a : Int} {s : List Lt} {mn mx : Int} {lz : Bool} {ix : Int} {nm : ByteArray} {B : Way} {up : Int} {nth : Nat} {p : Nat} {caps : List Int} {cv : Value} {was : List (Int × Int)} {KW : List Int} {wv : Value}
    (he : (⟨.mk lb 2 R a s mn mx lz ix nm, B, up, nth⟩ : Pl) ∈ C.L) (h : HIn C W left out p caps cv was KW wv (f + 1)) :
    Calls Try.prog 18 #[.pointer (some ⟨C.hb, 0, none⟩), .int .i64 (lb : Int), .int .i64 (p : Int), cv, wv] W (HPost C (f + 1) ((Lt.mk lb 2 R a s mn mx lz ix nm).fw B) p was caps left out W) := by
  have hF := node_fine (hk.fine _ he)
  have hlb := hk.num _ he
  have hnn := hk.nn
  have htn := hk.tn64
  have hp := h.p64
  simp only [Lt.lb] at hlb
  obtain ⟨-, -, -, -, -, -, k3, -, ku, -, -⟩ := h.hm.cells
  have u3 := ku 3
  obtain ⟨W1, hW1⟩ : ∃ W1, W1 = W.setCell ⟨C.hb, 3, none⟩ (.int .i64 (left - 1)) := ⟨_, rfl⟩
  obtain ⟨hm1, fr1⟩ := h.hm.dec
  rw [← hW1] at hm1 fr1
  obtain ⟨-, -, -, -, -, -, l3, -, -, -, -⟩ := hm1.cells
  have HHM := hid hm1
  have HF1 := hid fr1
  obtain ⟨key, hkey⟩ : ∃ key : Int, key = 2 * (100 * (lb : Int) + (p : Int)) + 1 := ⟨_, rfl⟩
  have hw1 := fr1.row h.wasr
  obtain ⟨wa, wc, ewv⟩ := hw1.form
  subst ewv
  have hDid := did35 KW wa KW.length wc key W1 _ (hw1.text (by have := h.sz; omega))
  have hAnd := and36 KW (.slice wa KW.length wc) key W1 hw1.src (by have := h.sz; omega)
  have hdec : decide (key ∈ KW) = decide ((kb lb, (p : Int)) ∈ was) := by
    rw [hkey]; exact decide_eq_decide.2 ((h.kr lb p (by omega)).1.symm)
  rw [hdec] at hDid
  have hr3 : -100000000000 ≤ left ∧ left ≤ 20000 := ⟨h.lo, by have := h.fuel; omega⟩
  have HH := hid h
  have hlb3 : (lb : Int) ≤ 300000 := by omega
  have hp64 : (p : Int) ≤ 64 := by omega
  have b1 : (lb : Int) < (C.n : Int) := by omega
  have HK : Hid (KR ((kb lb, (p : Int)) :: was) (KW ++ [key])) := by rw [hkey]; exact hid (h.kr.begun (by omega))
  have HKY := hid hkey
  have HW1 := hid hW1
  obtain ⟨d, hd⟩ : ∃ d, d = decide ((kb lb, (p : Int)) ∈ was) := ⟨_, rfl⟩
  rw [← hd] at hDid
  have HD := hid hd
  obtain ⟨was', hwas⟩ : ∃ was', was' = (kb lb, (p : Int)) :: was := ⟨_, rfl⟩
  rw [← hwas] at HK
  have HXX : Hid (0 < left → d = false → ∀ o, Hx C.tx C.E (.runeOf R B) p was' (caps.set 0 C.frm) out o → Hx C.tx C.E ((Lt.mk lb 2 R a s mn mx lz ix nm).fw B) p was (caps.set 0 C.frm) out o) := fun _ hdf o hx => by
    simp only [Lt.fw]
    refine .once (by simp only [kb]; omega) (of_decide_eq_false (hd.symm.trans hdf)) ?_
    rw [← hwas]
    simpa using hx
  have HSK : Hid (d = true → Hx C.tx C.E ((Lt.mk lb 2 R a s mn mx lz ix nm).fw B) p was (caps.set 0 C.frm) out out) := fun hdt => by
    simp only [Lt.fw]
    exact .skip (by simp only [kb]; omega) (of_decide_eq_true (hd.symm.trans hdt))
  have HHK := hid hk
  have HHE := hid he
  have HFN := hid hF
  have HFF := hid hf
  clear hd hk hf he hF hlb hnn htn hp hm1 fr1 hw1 h hdec hW1 ku hkey hwas
  generalize (Lt.mk lb 2 R a s mn mx lz ix nm).fw B = WB at HXX HSK ⊢
  go_enter Try.func18, Try.ntmps18
  go_upto_region 2 with fail
  rw [← HW1.out, ← HKY.out]
  clear k3 u3
  go_upto_region 3 with (first | (go_at_call 35; (with_reducible refine hDid.mono ?_); rintro e w1 ⟨rfl, rfl⟩))
  by_cases hl : left - 1 < 0
  · go_wp2_with fail
    refine bodyPost_ret (results_none rfl _ _ _) rfl ?_
    exact stop_post HHM.out HF1.out (fun h => by omega)
  · have h0 : 0 < left := by omega
    cases d
    rotate_left
    · go_wp2_with fail
      refine bodyPost_ret (results_none rfl _ _ _) rfl ?_
      exact stop_post HHM.out HF1.out (fun h => HSK.out (by first | rfl | trivial))
    · have HXY := hid (HXX.out h0 rfl)
      clear HXX HSK HD
      go_upto_region 5 with (first | (go_at_call 36; (with_reducible refine hAnd.mono ?_); rintro e w2 ⟨v', rfl, ho, hb⟩; obtain ⟨hm2, fr2⟩ := HHM.out.below hb; have hrow := Rw.of ho (by omega); have hfr := HF1.out.trans fr2; have hin := HH.out.and h0 HK.out hm2 hfr hrow; clear ho hb hm2 fr2))
      clear l3 hAnd hDid
      obtain ⟨r1, r3, s1, s2, s3, sa, sc, hP, hRP, hRk, hR, ok⟩ := hin.hm.at HHE.out
      obtain ⟨-, -, -, k0, -, -, -, -, -, -, -⟩ := hin.hm.cells
      obtain ⟨V, hV⟩ : ∃ V, V = w2.alloc (.cells #[.int .i64 2, .slice r1 R.length r3, .int .i64 a, .slice s1 s2 s3, .int .i64 mn, .int .i64 mx, .bool lz, .int .i64 ix, .string nm, .slice sa s.length sc, .int .i64 up, .int .i64 (nth : Int)] 64) := ⟨_, rfl⟩
      obtain ⟨hmV, frV⟩ := hin.hm.copy (o := .cells #[.int .i64 2, .slice r1 R.length r3, .int .i64 a, .slice s1 s2 s3, .int .i64 mn, .int .i64 mx, .bool lz, .int .i64 ix, .string nm, .slice sa s.length sc, .int .i64 up, .int .i64 (nth : Int)] 64)
      have hY : V.heap[w2.heap.size]? = some (.cells #[.int .i64 2, .slice r1 R.length r3, .int .i64 a, .slice s1 s2 s3, .int .i64 mn, .int .i64 mx, .bool lz, .int .i64 ix, .string nm, .slice sa s.length sc, .int .i64 up, .int .i64 (nth : Int)] 64 (0, 0)) := by rw [hV]; exact heap_alloc_new w2 _
      rw [← hV] at hmV frV
      obtain ⟨y, hy⟩ : ∃ y, y = w2.heap.size := ⟨_, rfl⟩
      rw [← hy] at hY
      have HV := hid (hin.go (f' := f) hmV frV (Int.le_refl _) hin.fuel hin.lo)
      have HFV := hid (hfr.trans frV)
      have HYV := hid hV
      have HEY := hid hy
      have HY : Hid (∀ w', Fr C V w' → w'.heap[y]? = some (.cells #[.int .i64 2, .slice r1 R.length r3, .int .i64 a, .slice s1 s2 s3, .int .i64 mn, .int .i64 mx, .bool lz, .int .i64 ix, .string nm, .slice sa s.length sc, .int .i64 up, .int .i64 (nth : Int)] 64 (0, 0))) := fun w' fr => fr.box _ _ hY
      have HRV : Hid (∀ w', Fr C V w' → Rw w' (.slice sa s.length sc) (s.map fun t => (t.lb : Int))) := fun w' fr => fr.row (frV.row hR)
      have HRP : Hid (∀ w', Fr C V w' → RP w' (fun b => b < C.NB ∧ b ≠ C.hb) r1 R) := fun w' fr => hRP.kept (fun b hb => ((frV.trans fr).low b hb.1 hb.2)) (fun b hb => hb)
      have HRK := hid hRk
      have HOK := hid ok
      simp only [P12] at hP
      obtain ⟨p0, p1, p2, p3, p4, p5, p6, p7, p8, p9, p10, p11⟩ := hP
      clear hin hrow hfr hRP hRk hR ok hV hmV frV hY hy
      go_upto_region 6 with fail
      rw [← HYV.out, ← HEY.out]
      clear p0 p1 p2 p3 p4 p5 p6 p7 p8 p9 p10 p11 k0
      obtain ⟨y0, y1, y2, -, -, -, y7, y9⟩ := box12' (HY.out V (Fr.refl C V))
      have HRT := hid (HFN.out.cls rfl)
      have HTL := hid HHK.out.tnl
      have hrl : R.length ≤ 5000 := by
        have := HRT.out
        simp only [rightB, Bool.and_eq_true, decide_eq_true_eq] at this
        exact this.1
      have hptn := HV.out.p64
      have htn64 := HHK.out.tn64
      obtain ⟨rl, hrle⟩ : ∃ rl, rl = R.length := ⟨_, rfl⟩
      have HRL := hid hrle
      rw [← hrle] at y1 hrl
      have HY1 : Hid (∀ w', Fr C V w' → w'.cell? ⟨y, 1, none⟩ = some (.slice r1 rl r3)) := fun w' fr => by
        obtain ⟨-, z1, -, -, -, -, -, -⟩ := box12' (HY.out w' fr)
        rw [hrle]
        exact z1
      clear hrle
      by_cases hp : p < C.tn
      · obtain ⟨c, hc⟩ : ∃ c, c = C.tx.getD p 0 := ⟨_, rfl⟩
        have HCC := hid hc
        have HO2 : Hid (∀ w', HM C w' (left - 1) out → Fr C V w' → Calls Try.prog 37 #[.pointer (some ⟨C.hb, 0, none⟩), .int .i64 (lb : Int), .int .i64 ((p : Int) + 1), cv, v'] w' (HPost C f B (p + 1) was' caps (left - 1) out w')) := fun w' hm fr => by
          have h := HV.out.go (f' := f) hm fr (Int.le_refl _) HV.out.fuel HV.out.lo
          have := hO.out w' (left - 1) out _ (p + 1) caps cv was' (KW ++ [key]) v' HHE.out ⟨hm, by omega, h.cap, h.capl, h.wasr, h.kr, h.fuel, h.lo, h.sz⟩
          simp only [Lt.lb] at this
          rw [show (((p + 1 : Nat)) : Int) = (p : Int) + 1 by push_cast; rfl] at this
          exact this
        have HI0 : Hid (ClsI C f R c B p was' caps (left - 1) out V V 0) := hid (.inl ⟨HV.out.hm, Fr.refl C V, fun j hj => by omega⟩)
        have hp1 : (p : Int) < (C.tn : Int) := by omega
        have hp2 : decide ((p : Int) < (C.tn : Int)) = true := by simp; omega
        have hp3 : IntKind.i64.wrap ((p : Int) + 1) = (p : Int) + 1 := by simp [IntKind.wrap, IntKind.bits, IntKind.signed]; omega
        clear hc
        go_wp2_with fail
        go_loopw [13] (fun x wq => ∃ (i : Nat), x = .int .i64 (i : Int) ∧ i ≤ rl ∧ Hid (ClsI C f R c B p was' caps (left - 1) out V wq i)) (fun x _ => rl - (intOf x).toNat)
        case atStart => exact ⟨0, rfl, by omega, HI0⟩
        case round =>
          obtain ⟨i, rfl, hi, HI⟩ := hrel
          clear HI0 y0 y1 y2 y7 y9
          obtain ⟨left', out', hmI, frI⟩ := HI.out.mem
          have z1 := HY1.out _ frI
          obtain ⟨-, -, -, -, v1, -, -, -, -, -, -⟩ := hmI.cells
          by_cases hlt : i < rl
          · have b2 : (i : Int) < (rl : Int) := by omega
            have b3 : decide ((i : Int) < (rl : Int)) = true := by simp; omega
            have ad1 : IntKind.i64.wrap ((i : Int) + 1) = (i : Int) + 1 := by simp [IntKind.wrap, IntKind.bits, IntKind.signed]; omega
            have hil : i < R.length := by rw [← HRL.out]; exact hlt
            obtain ⟨tb, toff, ht, -, t1⟩ := text_cell hmI.tx hp
            rw [← HCC.out] at t1
            rw [ht] at v1
            obtain ⟨rb, ro, rfl, -, hrc⟩ := HRP.out _ frI (by intro e; rw [e] at hil; simp at hil)
            obtain ⟨q1, q2⟩ := hrc i hil
            have HNO : Hid (¬ inR R c i → ClsI C f R c B p was' caps (left - 1) out V wr.drew (i + 1)) := fun hn => HI.out.out hn
            have HYES : Hid (inR R c i → HM C wr.drew (left - 1) out ∧ Fr C V wr.drew) := fun hn => HI.out.first HRT.out hil hn
            have HIR : Hid (∀ lo hi', lo = R[i].1 → hi' = R[i].2 → (inR R c i ↔ lo ≤ c ∧ c ≤ hi')) := fun lo hi' h1 h2 => by
              subst h1 h2
              simp [inR, List.getD_eq_getElem?_getD, List.getElem?_eq_getElem hil]
            obtain ⟨lo, hlo⟩ : ∃ lo, lo = R[i].1 := ⟨_, rfl⟩
            obtain ⟨hi', hhi⟩ : ∃ hi', hi' = R[i].2 := ⟨_, rfl⟩
            have HIR2 := hid (HIR.out lo hi' hlo hhi)
            rw [← hlo] at q1
            rw [← hhi] at q2
            clear hlo hhi HIR hrc hmI frI ht
            by_cases d1 : lo ≤ c
            · have e1 : decide (lo ≤ c) = true := by simp; omega
              by_cases d2 : c ≤ hi'
              · have e2 : decide (c ≤ hi') = true := by simp; omega
                obtain ⟨hmD, frD⟩ := HYES.out (HIR2.out.2 ⟨d1, d2⟩)
                have HC := HO2.out _ hmD frD
                have HNX : Hid (∀ w', HPost C f B (p + 1) was' caps (left - 1) out wr.drew (.returned (.tuple #[])) w' → ClsI C f R c B p was' caps (left - 1) out V w' (i + 1)) := fun w' h => .inr ⟨⟨i, by omega, hil, HIR2.out.2 ⟨d1, d2⟩⟩, h.base frD⟩
                clear hmD frD HYES HNO
                go_wp2_with fail
                go_region
                all_goals
                  go_wp2_with (first | (go_at_call 37; (with_reducible refine HC.mono ?_); rintro e w1 hp; have he := hp.1; subst he; have hq := hid (HNX.out _ hp); clear hp HC HNX))
                  exact ⟨⟨i + 1, by push_cast; rfl, by omega, hq⟩, by simp [intOf]; omega⟩
              · have e2 : decide (c ≤ hi') = false := by simp; omega
                have HQ := hid (HNO.out (fun h => d2 (HIR2.out.1 h).2))
                clear HYES HNO
                go_wp2_with fail
                go_region
                all_goals
                  go_wp2_with fail
                  exact ⟨⟨i + 1, by push_cast; rfl, by omega, HQ⟩, by simp [intOf]; omega⟩
            · have e1 : decide (lo ≤ c) = false := by simp; omega
              have HQ := hid (HNO.out (fun h => d1 (HIR2.out.1 h).1))
              clear HYES HNO
              go_wp2_with fail
              go_region
              all_goals
                go_wp2_with fail
                exact ⟨⟨i + 1, by push_cast; rfl, by omega, HQ⟩, by simp [intOf]; omega⟩
          · have b3 : decide ((i : Int) < (rl : Int)) = false := by simp; omega
            have HQ : Hid (HPost C (f + 1) WB p was caps left out W (.returned (.tuple #[])) wr) := by
              have hie : i = R.length := by rw [← HRL.out]; omega
              rcases HI.out with ⟨h1, h2, h3⟩ | ⟨⟨j, h4, h5, h6⟩, h7⟩
              · refine hid (stop_post h1 (HFV.out.trans h2) (fun _ => HXY.out _ (.other (by rw [← HTL.out]; exact hp) ?_)))
                rw [← HCC.out, inR_none (fun j hj => h3 j (by omega)), Bool.and_false]
              · refine hid (step_post (p := p) (was := was) (caps := caps) h7 HFV.out h0 (fun o hx => HXY.out o (.rune (by rw [← HTL.out]; exact hp) ?_ hx)))
                rw [← HCC.out, inR_some h5 h6, HRT.out]
                rfl
            clear hmI frI
            go_wp2_with fail
            go_end0
            exact HQ.out
      · have hp2 : decide ((p : Int) < (C.tn : Int)) = false := by simp; omega
        have HQ : Hid (HPost C (f + 1) WB p was caps left out W (.returned (.tuple #[])) V) := hid (stop_post HV.out.hm HFV.out (fun _ => HXY.out _ (.over (by rw [← HTL.out]; omega))))
        obtain ⟨-, -, -, -, v1, -, -, -, -, -, -⟩ := HV.out.hm.cells
        go_wp2_with fail
        go_loopw [13] (fun x wq => x = .int .i64 0 ∧ wq = V) (fun x _ => 0)
        case atStart => exact ⟨rfl, rfl⟩
        case round =>
          obtain ⟨rfl, rfl⟩ := hrel
          by_cases hr0 : (0 : Int) < (rl : Int)
          · have b3 : decide ((0 : Int) < (rl : Int)) = true := by simp; omega
            go_wp2_with fail
            go_end0
            exact HQ.out
          · have b3 : decide ((0 : Int) < (rl : Int)) = false := by simp; omega
            go_wp2_with fail
            go_end0
            exact HQ.out
end Go.Proofs.Ytnpocciioedgpaa
/- HELPERS: the hunt: begin, kind 3. -/
namespace Go.Proofs.Ytnpocciioedgpaa
open Go.RowKit
set_option linter.unusedVariables false
set_option linter.unusedSimpArgs false
theorem en38 : ∀ (args : Array Value) (w : World), (callFunc 38 args).run Try.prog w = .ok (.enter 38 args) w := enter_of Try.func38 (by kernel_rfl) rfl
set_option maxRecDepth 100000 in
set_option maxHeartbeats 8000000 in
theorem begin_3 {C : HC} (hk : HCk C) {f : Nat} (hB : Hid (BeginC C f)) (hO : Hid (OnC C f)) (hD : Hid (DecideC C f)) (hf : f ≤ 10000) {W : World} {left : Int} {out : List (Int × List Int)} {lb : Nat} {R : List (Int × Int)} {a : Int} {s : List Lt} {mn mx : Int} {lz : Bool} {ix : Int} {nm : ByteArray} {B : Way} {up : Int} {nth : Nat} {p : Nat} {caps : List Int} {cv : Value} {was : List (Int × Int)} {KW : List Int} {wv : Value}
    (he : (⟨.mk lb 3 R a s mn mx lz ix nm, B, up, nth⟩ : Pl) ∈ C.L) (h : HIn C W left out p caps cv was KW wv (f + 1)) :
    Calls Try.prog 18 #[.pointer (some ⟨C.hb, 0, none⟩), .int .i64 (lb : Int), .int .i64 (p : Int), cv, wv] W (HPost C (f + 1) ((Lt.mk lb 3 R a s mn mx lz ix nm).fw B) p was caps left out W) := by
  have hF := node_fine (hk.fine _ he)
  have hlb := hk.num _ he
  have hnn := hk.nn
  have htn := hk.tn64
  have hp := h.p64
  simp only [Lt.lb] at hlb
  obtain ⟨-, -, -, -, -, -, k3, -, ku, -, -⟩ := h.hm.cells
  have u3 := ku 3
  obtain ⟨W1, hW1⟩ : ∃ W1, W1 = W.setCell ⟨C.hb, 3, none⟩ (.int .i64 (left - 1)) := ⟨_, rfl⟩
  obtain ⟨hm1, fr1⟩ := h.hm.dec
  rw [← hW1] at hm1 fr1
  obtain ⟨-, -, -, -, -, -, l3, -, -, -, -⟩ := hm1.cells
  have HHM := hid hm1
  have HF1 := hid fr1
  obtain ⟨key, hkey⟩ : ∃ key : Int, key = 2 * (100 * (lb : Int) + (p : Int)) + 1 := ⟨_, rfl⟩
  have hw1 := fr1.row h.wasr
  obtain ⟨wa, wc, ewv⟩ := hw1.form
  subst ewv
  have hDid := did35 KW wa KW.length wc key W1 _ (hw1.text (by have := h.sz; omega))
  have hAnd := and36 KW (.slice wa KW.length wc) key W1 hw1.src (by have := h.sz; omega)
  have hdec : decide (key ∈ KW) = decide ((kb lb, (p : Int)) ∈ was) := by
    rw [hkey]; exact decide_eq_decide.2 ((h.kr lb p (by omega)).1.symm)
  rw [hdec] at hDid
  have hr3 : -100000000000 ≤ left ∧ left ≤ 20000 := ⟨h.lo, by have := h.fuel; omega⟩
  have HH := hid h
  have hlb3 : (lb : Int) ≤ 300000 := by omega
  have hp64 : (p : Int) ≤ 64 := by omega
  have b1 : (lb : Int) < (C.n : Int) := by omega
  have HK : Hid (KR ((kb lb, (p : Int)) :: was) (KW ++ [key])) := by rw [hkey]; exact hid (h.kr.begun (by omega))
  have HKY := hid hkey
  have HW1 := hid hW1
  obtain ⟨d, hd⟩ : ∃ d, d = decide ((kb lb, (p : Int)) ∈ was) := ⟨_, rfl⟩
  rw [← hd] at hDid
  have HD := hid hd
  obtain ⟨was', hwas⟩ : ∃ was', was' = (kb lb, (p : Int)) :: was := ⟨_, rfl⟩
  rw [← hwas] at HK
  have HXX : Hid (0 < left → d = false → ∀ o, Hx C.tx C.E (.ifHolds a B) p was' (caps.set 0 C.frm) out o → Hx C.tx C.E ((Lt.mk lb 3 R a s mn mx lz ix nm).fw B) p was (caps.set 0 C.frm) out o) := fun _ hdf o hx => by
    simp only [Lt.fw]
    refine .once (by simp only [kb]; omega) (of_decide_eq_false (hd.symm.trans hdf)) ?_
    rw [← hwas]
    simpa using hx
  have HSK : Hid (d = true → Hx C.tx C.E ((Lt.mk lb 3 R a s mn mx lz ix nm).fw B) p was (caps.set 0 C.frm) out out) := fun hdt => by
    simp only [Lt.fw]
    exact .skip (by simp only [kb]; omega) (of_decide_eq_true (hd.symm.trans hdt))
  have HHK := hid hk
  have HHE := hid he
  have HFN := hid hF
  have HFF := hid hf
  clear hd hk hf he hF hlb hnn htn hp hm1 fr1 hw1 h hdec hW1 ku hkey hwas
  generalize (Lt.mk lb 3 R a s mn mx lz ix nm).fw B = WB at HXX HSK ⊢
  go_enter Try.func18, Try.ntmps18
  go_upto_region 2 with fail
  rw [← HW1.out, ← HKY.out]
  clear k3 u3
  go_upto_region 3 with (first | (go_at_call 35; (with_reducible refine hDid.mono ?_); rintro e w1 ⟨rfl, rfl⟩))
  by_cases hl : left - 1 < 0
  · go_wp2_with fail
    refine bodyPost_ret (results_none rfl _ _ _) rfl ?_
    exact stop_post HHM.out HF1.out (fun h => by omega)
  · have h0 : 0 < left := by omega
    cases d
    rotate_left
    · go_wp2_with fail
      refine bodyPost_ret (results_none rfl _ _ _) rfl ?_
      exact stop_post HHM.out HF1.out (fun h => HSK.out (by first | rfl | trivial))
    · have HXY := hid (HXX.out h0 rfl)
      clear HXX HSK HD
      go_upto_region 5 with (first | (go_at_call 36; (with_reducible refine hAnd.mono ?_); rintro e w2 ⟨v', rfl, ho, hb⟩; obtain ⟨hm2, fr2⟩ := HHM.out.below hb; have hrow := Rw.of ho (by omega); have hfr := HF1.out.trans fr2; have hin := HH.out.and h0 HK.out hm2 hfr hrow; clear ho hb hm2 fr2))
      clear l3 hAnd hDid
      obtain ⟨r1, r3, s1, s2, s3, sa, sc, hP, hRP, hRk, hR, ok⟩ := hin.hm.at HHE.out
      obtain ⟨-, -, -, k0, -, -, -, -, -, -, -⟩ := hin.hm.cells
      obtain ⟨V, hV⟩ : ∃ V, V = w2.alloc (.cells #[.int .i64 3, .slice r1 R.length r3, .int .i64 a, .slice s1 s2 s3, .int .i64 mn, .int .i64 mx, .bool lz, .int .i64 ix, .string nm, .slice sa s.length sc, .int .i64 up, .int .i64 (nth : Int)] 64) := ⟨_, rfl⟩
      obtain ⟨hmV, frV⟩ := hin.hm.copy (o := .cells #[.int .i64 3, .slice r1 R.length r3, .int .i64 a, .slice s1 s2 s3, .int .i64 mn, .int .i64 mx, .bool lz, .int .i64 ix, .string nm, .slice sa s.length sc, .int .i64 up, .int .i64 (nth : Int)] 64)
      have hY : V.heap[w2.heap.size]? = some (.cells #[.int .i64 3, .slice r1 R.length r3, .int .i64 a, .slice s1 s2 s3, .int .i64 mn, .int .i64 mx, .bool lz, .int .i64 ix, .string nm, .slice sa s.length sc, .int .i64 up, .int .i64 (nth : Int)] 64 (0, 0)) := by rw [hV]; exact heap_alloc_new w2 _
      rw [← hV] at hmV frV
      obtain ⟨y, hy⟩ : ∃ y, y = w2.heap.size := ⟨_, rfl⟩
      rw [← hy] at hY
      have HV := hid (hin.go (f' := f) hmV frV (Int.le_refl _) hin.fuel hin.lo)
      have HFV := hid (hfr.trans frV)
      have HYV := hid hV
      have HEY := hid hy
      have HY : Hid (∀ w', Fr C V w' → w'.heap[y]? = some (.cells #[.int .i64 3, .slice r1 R.length r3, .int .i64 a, .slice s1 s2 s3, .int .i64 mn, .int .i64 mx, .bool lz, .int .i64 ix, .string nm, .slice sa s.length sc, .int .i64 up, .int .i64 (nth : Int)] 64 (0, 0))) := fun w' fr => fr.box _ _ hY
      have HRV : Hid (∀ w', Fr C V w' → Rw w' (.slice sa s.length sc) (s.map fun t => (t.lb : Int))) := fun w' fr => fr.row (frV.row hR)
      have HRP : Hid (∀ w', Fr C V w' → RP w' (fun b => b < C.NB ∧ b ≠ C.hb) r1 R) := fun w' fr => hRP.kept (fun b hb => ((frV.trans fr).low b hb.1 hb.2)) (fun b hb => hb)
      have HRK := hid hRk
      have HOK := hid ok
      simp only [P12] at hP
      obtain ⟨p0, p1, p2, p3, p4, p5, p6, p7, p8, p9, p10, p11⟩ := hP
      clear hin hrow hfr hRP hRk hR ok hV hmV frV hY hy
      go_upto_region 6 with fail
      rw [← HYV.out, ← HEY.out]
      clear p0 p1 p2 p3 p4 p5 p6 p7 p8 p9 p10 p11 k0
      obtain ⟨y0, y1, y2, -, -, -, y7, y9⟩ := box12' (HY.out V (Fr.refl C V))
      obtain ⟨hmD, frD⟩ : HM C V.drew (left - 1) out ∧ Fr C V V.drew := HV.out.hm.below ⟨rfl, rfl, rfl, Nat.le_refl _, fun _ _ => rfl⟩
      have HVD := hid (HV.out.go (f' := f) hmD frD (Int.le_refl _) HV.out.fuel HV.out.lo)
      have HFD := hid (HFV.out.trans frD)
      have HC := Look.ref12 C.tx C.tad C.tn C.tc (p : Int) V.drew C.hb hmD.tx
      have hbit := held_bit (tx := C.tx) (HFN.out.ast rfl) (p := p) (by have := HV.out.p64; have := HHK.out.tnl; omega)
      obtain ⟨-, -, -, -, v1, -, -, -, -, -, -⟩ := HV.out.hm.cells
      obtain ⟨A, hA⟩ : ∃ A, A = Look.atN C.tx (p : Int) := ⟨_, rfl⟩
      rw [← hA] at HC hbit
      obtain ⟨A2, hA2⟩ : ∃ A2, A2 = bits .and .i64 A a := ⟨_, rfl⟩
      rw [← hA2] at hbit
      have hA2' := hA2.symm
      obtain ⟨hd, hhd⟩ : ∃ hd, hd = heldB C.tx a p := ⟨_, rfl⟩
      have hbit' : decide (0 < A2) = hd := by rw [hhd]; exact hbit
      have HHD := hid hhd
      clear hhd
      have HC2 := hO.out V.drew (left - 1) out _ p caps cv was' (KW ++ [key]) v' HHE.out HVD.out
      simp only [Lt.lb] at HC2
      clear hA hA2 hbit hmD frD
      go_upto_region 17 with fail
      refine wp_region_lexF [0, 1, 2, 3, 4, 6, 7, 8] [5, 9, 10] (fun W => W.cell? ⟨C.hb, 1, none⟩ = some (.slice C.tad C.tn C.tc) ∧ W.cell? ⟨y, 2, none⟩ = some (.int .i64 a)) (by kernel_rfl) (by kernel_rfl) rfl (by kernel_rfl) (by kernel_rfl) ⟨v1, y2⟩ ?_
      simp only [opsAt, opsNo, List.getElem?_toArray, List.getElem?_cons_zero, List.getElem?_cons_succ]
      iterate 8
        refine lex_cons ?_ rfl (fun W hW => ?_) (fun _ _ _ h => h) ?_
        rotate_left
        · obtain ⟨s0, s1'⟩ := hW
          go_simp <;> with_reducible rfl
        simp only [Act.put, List.setIfInBounds_toArray, List.set_cons_zero, List.set_cons_succ]
      refine lex_nil (tailK_cons fun K hK => ?_)
      refine step_call2 rfl 38 (.tmp 129) (.tmp 130) 29 3 rfl en38 ?_
      refine HC.mono ?_
      rintro e w3 ⟨rfl, hw⟩
      have hw' := hw.symm
      clear hw
      subst hw'
      refine ⟨_, rfl, hK.out _ _ (fun _ => ⟨v1, y2⟩) (tailK_cons fun K hK => ?_)⟩
      simp only [Act.put, List.setIfInBounds_toArray, List.set_cons_zero, List.set_cons_succ]
      go_simp
      try rw [hA2']
      refine hK.out _ _ (fun _ => ⟨v1, y2⟩) (tailK_cons fun K hK => ?_)
      simp only [Act.put, List.setIfInBounds_toArray, List.set_cons_zero, List.set_cons_succ]
      go_simp
      refine hK.out _ _ (fun _ => ⟨v1, y2⟩) (tailK_nil ?_)
      try simp only [Act.put, List.setIfInBounds_toArray, List.set_cons_zero, List.set_cons_succ]
      clear HC v1 y0 y1 y2 y7 y9 hA2'
      clear hbit'
      cases hd
      · go_wp2_with fail
        go_end0
        exact stop_post HVD.out.hm HFD.out (fun _ => HXY.out _ (.fails HHD.out.symm))
      · go_wp2_with (first | (go_at_call 37; (with_reducible refine HC2.mono ?_); rintro e w1 hp; have hq := hid (step_post (p := p) (was := was) (caps := caps) hp HFD.out h0 (fun o hx => HXY.out o (.holds HHD.out.symm hx))); obtain ⟨rfl, -⟩ := hp; clear HC2))
        go_end0
        exact hq.out
end Go.Proofs.Ytnpocciioedgpaa
/- HELPERS: the hunt: begin, kind 4. -/
namespace Go.Proofs.Ytnpocciioedgpaa
open Go.RowKit
set_option linter.unusedVariables false
set_option linter.unusedSimpArgs false
set_option maxRecDepth 100000 in
set_option maxHeartbeats 8000000 in
theorem begin_4 {C : HC} (hk : HCk C) {f : Nat} (hB : Hid (BeginC C f)) (hO : Hid (OnC C f)) (hD : Hid (DecideC C f)) (hf : f ≤ 10000) {W : World} {left : Int} {out : List (Int × List Int)} {lb : Nat} {R : List (Int × Int)} {a : Int} {s : List Lt} {mn mx : Int} {lz : Bool} {ix : Int} {nm : ByteArray} {B : Way} {up : Int} {nth : Nat} {p : Nat} {caps : List Int} {cv : Value} {was : List (Int × Int)} {KW : List Int} {wv : Value}
    (he : (⟨.mk lb 4 R a s mn mx lz ix nm, B, up, nth⟩ : Pl) ∈ C.L) (h : HIn C W left out p caps cv was KW wv (f + 1)) :
    Calls Try.prog 18 #[.pointer (some ⟨C.hb, 0, none⟩), .int .i64 (lb : Int), .int .i64 (p : Int), cv, wv] W (HPost C (f + 1) ((Lt.mk lb 4 R a s mn mx lz ix nm).fw B) p was caps left out W) := by
  have hF := node_fine (hk.fine _ he)
  have hlb := hk.num _ he
  have hnn := hk.nn
  have htn := hk.tn64
  have hp := h.p64
  simp only [Lt.lb] at hlb
  obtain ⟨-, -, -, -, -, -, k3, -, ku, -, -⟩ := h.hm.cells
  have u3 := ku 3
  obtain ⟨W1, hW1⟩ : ∃ W1, W1 = W.setCell ⟨C.hb, 3, none⟩ (.int .i64 (left - 1)) := ⟨_, rfl⟩
  obtain ⟨hm1, fr1⟩ := h.hm.dec
  rw [← hW1] at hm1 fr1
  obtain ⟨-, -, -, -, -, -, l3, -, -, -, -⟩ := hm1.cells
  have HHM := hid hm1
  have HF1 := hid fr1
  obtain ⟨key, hkey⟩ : ∃ key : Int, key = 2 * (100 * (lb : Int) + (p : Int)) + 1 := ⟨_, rfl⟩
  have hw1 := fr1.row h.wasr
  obtain ⟨wa, wc, ewv⟩ := hw1.form
  subst ewv
  have hDid := did35 KW wa KW.length wc key W1 _ (hw1.text (by have := h.sz; omega))
  have hAnd := and36 KW (.slice wa KW.length wc) key W1 hw1.src (by have := h.sz; omega)
  have hdec : decide (key ∈ KW) = decide ((kb lb, (p : Int)) ∈ was) := by
    rw [hkey]; exact decide_eq_decide.2 ((h.kr lb p (by omega)).1.symm)
  rw [hdec] at hDid
  have hr3 : -100000000000 ≤ left ∧ left ≤ 20000 := ⟨h.lo, by have := h.fuel; omega⟩
  have HH := hid h
  have hlb3 : (lb : Int) ≤ 300000 := by omega
  have hp64 : (p : Int) ≤ 64 := by omega
  have b1 : (lb : Int) < (C.n : Int) := by omega
  have HK : Hid (KR ((kb lb, (p : Int)) :: was) (KW ++ [key])) := by rw [hkey]; exact hid (h.kr.begun (by omega))
  have HKY := hid hkey
  have HW1 := hid hW1
  obtain ⟨d, hd⟩ : ∃ d, d = decide ((kb lb, (p : Int)) ∈ was) := ⟨_, rfl⟩
  rw [← hd] at hDid
  have HD := hid hd
  obtain ⟨was', hwas⟩ : ∃ was', was' = (kb lb, (p : Int)) :: was := ⟨_, rfl⟩
  rw [← hwas] at HK
  have HXX : Hid (0 < left → d = false → ∀ o, Hx C.tx C.E (fwC s B) p was' (caps.set 0 C.frm) out o → Hx C.tx C.E ((Lt.mk lb 4 R a s mn mx lz ix nm).fw B) p was (caps.set 0 C.frm) out o) := fun _ hdf o hx => by
    simp only [Lt.fw]
    refine .once (by simp only [kb]; omega) (of_decide_eq_false (hd.symm.trans hdf)) ?_
    rw [← hwas]
    simpa using hx
  have HSK : Hid (d = true → Hx C.tx C.E ((Lt.mk lb 4 R a s mn mx lz ix nm).fw B) p was (caps.set 0 C.frm) out out) := fun hdt => by
    simp only [Lt.fw]
    exact .skip (by simp only [kb]; omega) (of_decide_eq_true (hd.symm.trans hdt))
  have HHK := hid hk
  have HHE := hid he
  have HFN := hid hF
  have HFF := hid hf
  clear hd hk hf he hF hlb hnn htn hp hm1 fr1 hw1 h hdec hW1 ku hkey hwas
  generalize (Lt.mk lb 4 R a s mn mx lz ix nm).fw B = WB at HXX HSK ⊢
  go_enter Try.func18, Try.ntmps18
  go_upto_region 2 with fail
  rw [← HW1.out, ← HKY.out]
  clear k3 u3
  go_upto_region 3 with (first | (go_at_call 35; (with_reducible refine hDid.mono ?_); rintro e w1 ⟨rfl, rfl⟩))
  by_cases hl : left - 1 < 0
  · go_wp2_with fail
    refine bodyPost_ret (results_none rfl _ _ _) rfl ?_
    exact stop_post HHM.out HF1.out (fun h => by omega)
  · have h0 : 0 < left := by omega
    cases d
    rotate_left
    · go_wp2_with fail
      refine bodyPost_ret (results_none rfl _ _ _) rfl ?_
      exact stop_post HHM.out HF1.out (fun h => HSK.out (by first | rfl | trivial))
    · have HXY := hid (HXX.out h0 rfl)
      clear HXX HSK HD
      go_upto_region 5 with (first | (go_at_call 36; (with_reducible refine hAnd.mono ?_); rintro e w2 ⟨v', rfl, ho, hb⟩; obtain ⟨hm2, fr2⟩ := HHM.out.below hb; have hrow := Rw.of ho (by omega); have hfr := HF1.out.trans fr2; have hin := HH.out.and h0 HK.out hm2 hfr hrow; clear ho hb hm2 fr2))
      clear l3 hAnd hDid
      obtain ⟨r1, r3, s1, s2, s3, sa, sc, hP, hRP, hRk, hR, ok⟩ := hin.hm.at HHE.out
      obtain ⟨-, -, -, k0, -, -, -, -, -, -, -⟩ := hin.hm.cells
      obtain ⟨V, hV⟩ : ∃ V, V = w2.alloc (.cells #[.int .i64 4, .slice r1 R.length r3, .int .i64 a, .slice s1 s2 s3, .int .i64 mn, .int .i64 mx, .bool lz, .int .i64 ix, .string nm, .slice sa s.length sc, .int .i64 up, .int .i64 (nth : Int)] 64) := ⟨_, rfl⟩
      obtain ⟨hmV, frV⟩ := hin.hm.copy (o := .cells #[.int .i64 4, .slice r1 R.length r3, .int .i64 a, .slice s1 s2 s3, .int .i64 mn, .int .i64 mx, .bool lz, .int .i64 ix, .string nm, .slice sa s.length sc, .int .i64 up, .int .i64 (nth : Int)] 64)
      have hY : V.heap[w2.heap.size]? = some (.cells #[.int .i64 4, .slice r1 R.length r3, .int .i64 a, .slice s1 s2 s3, .int .i64 mn, .int .i64 mx, .bool lz, .int .i64 ix, .string nm, .slice sa s.length sc, .int .i64 up, .int .i64 (nth : Int)] 64 (0, 0)) := by rw [hV]; exact heap_alloc_new w2 _
      rw [← hV] at hmV frV
      obtain ⟨y, hy⟩ : ∃ y, y = w2.heap.size := ⟨_, rfl⟩
      rw [← hy] at hY
      have HV := hid (hin.go (f' := f) hmV frV (Int.le_refl _) hin.fuel hin.lo)
      have HFV := hid (hfr.trans frV)
      have HYV := hid hV
      have HEY := hid hy
      have HY : Hid (∀ w', Fr C V w' → w'.heap[y]? = some (.cells #[.int .i64 4, .slice r1 R.length r3, .int .i64 a, .slice s1 s2 s3, .int .i64 mn, .int .i64 mx, .bool lz, .int .i64 ix, .string nm, .slice sa s.length sc, .int .i64 up, .int .i64 (nth : Int)] 64 (0, 0))) := fun w' fr => fr.box _ _ hY
      have HRV : Hid (∀ w', Fr C V w' → Rw w' (.slice sa s.length sc) (s.map fun t => (t.lb : Int))) := fun w' fr => fr.row (frV.row hR)
      have HRP : Hid (∀ w', Fr C V w' → RP w' (fun b => b < C.NB ∧ b ≠ C.hb) r1 R) := fun w' fr => hRP.kept (fun b hb => ((frV.trans fr).low b hb.1 hb.2)) (fun b hb => hb)
      have HRK := hid hRk
      have HOK := hid ok
      simp only [P12] at hP
      obtain ⟨p0, p1, p2, p3, p4, p5, p6, p7, p8, p9, p10, p11⟩ := hP
      clear hin hrow hfr hRP hRk hR ok hV hmV frV hY hy
      go_upto_region 6 with fail
      rw [← HYV.out, ← HEY.out]
      clear p0 p1 p2 p3 p4 p5 p6 p7 p8 p9 p10 p11 k0
      obtain ⟨y0, y1, y2, -, -, -, y7, y9⟩ := box12' (HY.out V (Fr.refl C V))
      have hs0 : 0 < s.length := by have := HFN.out.two (.inl rfl); omega
      have HC := hB.out V (left - 1) out _ p caps cv was' (KW ++ [key]) v' (HHK.out.child _ HHE.out 0 (by simpa [Lt.sub] using hs0)) HV.out
      simp only [child, Lt.sub, subB, if_pos] at HC
      obtain ⟨g, hg, g0⟩ := sub_at (HRV.out V (Fr.refl C V)) hs0
      subst hg
      have HWW : Hid (fwC s B = (s[0]).fw (fwC (s.drop 1) B)) := hid (by have := fwC_next (B := B) hs0; simpa using this)
      rw [show 0 + 1 = 1 from rfl, ← HWW.out] at HC
      obtain ⟨x, hx⟩ : ∃ x : Nat, x = (s[0]).lb := ⟨_, rfl⟩
      rw [← hx] at HC g0
      clear hx
      obtain ⟨sl, hsl⟩ : ∃ sl, sl = s.length := ⟨_, rfl⟩
      rw [← hsl] at y9 hs0
      clear hsl
      have q1 : (0 : Int) < (sl : Int) := by omega
      go_wp2_with (first | (go_at_call 18; (with_reducible refine HC.mono ?_); rintro e w1 hp; have hq := hid (step_post hp HFV.out h0 HXY.out); obtain ⟨rfl, -⟩ := hp; clear HC))
      go_end0
      exact hq.out
end Go.Proofs.Ytnpocciioedgpaa
/- HELPERS: the hunt: begin, kind 5. -/
namespace Go.Proofs.Ytnpocciioedgpaa
open Go.RowKit
set_option linter.unusedVariables false
set_option linter.unusedSimpArgs false
theorem fwA_len : ∀ (s : List Lt) (B : Way), (fwA s B).length = s.length
  | [], _ => by simp [fwA]
  | t :: ts, B => by simp [fwA, fwA_len ts B]
theorem fwA_get : ∀ (s : List Lt) (B : Way) (i : Nat) (hi : i < s.length), (fwA s B)[i]'(by rw [fwA_len]; exact hi) = (s[i]).fw B
  | [], _, i, hi => by simp at hi
  | t :: ts, B, 0, hi => by simp [fwA]
  | t :: ts, B, i + 1, hi => by
    have := fwA_get ts B i (by simpa using hi)
    simpa [fwA] using this
/-- so many alternatives were tried -/
def AltI (C : HC) (f : Nat) (s : List Lt) (B : Way) (p : Nat) (was : List (Int × Int)) (caps : List Int) (left : Int) (out : List (Int × List Int)) (V W : World) (i : Nat) : Prop :=
  ∃ left' out', HM C W left' out' ∧ Fr C V W ∧ left' ≤ left ∧ LBv f - (i : Int) ≤ left' ∧ (0 ≤ left' → ∃ oo : Nat → List (Int × List Int), oo 0 = out ∧ oo i = out' ∧ ∀ j (hj : j < s.length), j < i → Hx C.tx C.E ((s[j]).fw B) p was (caps.set 0 C.frm) (oo j) (oo (j + 1)))
theorem AltI.next {C : HC} {f : Nat} {s : List Lt} {B : Way} {p : Nat} {was : List (Int × Int)} {caps : List Int} {left left' : Int} {out out' : List (Int × List Int)} {V W W' : World} {i : Nat} {e : Ending} (hi : i < s.length) (hf : Fr C V W) (hl : left' ≤ left) (hb : LBv f - (i : Int) ≤ left') (ho : 0 ≤ left' → ∃ oo : Nat → List (Int × List Int), oo 0 = out ∧ oo i = out' ∧ ∀ j (hj : j < s.length), j < i → Hx C.tx C.E ((s[j]).fw B) p was (caps.set 0 C.frm) (oo j) (oo (j + 1)))
    (h : HPost C f ((s[i]).fw B) p was caps left' out' W e W') : AltI C f s B p was caps left out V W' (i + 1) := by
  obtain ⟨h1, left2, out2, h2, h3, h4, h5, h6⟩ := h
  have hll : left2 < left' ∧ LBv f - ((i + 1 : Nat) : Int) ≤ left2 := by
    simp only [LBv] at hb h4 ⊢
    by_cases hz : left' ≤ 0
    · have := h3 hz
      omega
    · have := h4 (by omega)
      omega
  refine ⟨left2, out2, h2, hf.trans h6, by omega, hll.2, fun hz => ?_⟩
  obtain ⟨oo, o1, o2, o3⟩ := ho (by omega)
  refine ⟨fun n => if n = i + 1 then out2 else oo n, by simp [o1], by simp, fun j hj hji => ?_⟩
  by_cases hje : j = i
  · subst hje
    have := h5 hz
    rw [← o2] at this
    simpa using this
  · have := o3 j hj (by omega)
    simpa [show j ≠ i + 1 by omega, hje] using this
set_option maxRecDepth 100000 in
set_option maxHeartbeats 8000000 in
theorem begin_5 {C : HC} (hk : HCk C) {f : Nat} (hB : Hid (BeginC C f)) (hO : Hid (OnC C f)) (hD : Hid (DecideC C f)) (hf : f ≤ 10000) {W : World} {left : Int} {out : List (Int × List Int)} {lb : Nat} {R : List (Int × Int)} {a : Int} {s : List Lt} {mn mx : Int} {lz : Bool} {ix : Int} {nm : ByteArray} {B : Way} {up : Int} {nth : Nat} {p : Nat} {caps : List Int} {cv : Value} {was : List (Int × Int)} {KW : List Int} {wv : Value}
    (he : (⟨.mk lb 5 R a s mn mx lz ix nm, B, up, nth⟩ : Pl) ∈ C.L) (h : HIn C W left out p caps cv was KW wv (f + 1)) :
    Calls Try.prog 18 #[.pointer (some ⟨C.hb, 0, none⟩), .int .i64 (lb : Int), .int .i64 (p : Int), cv, wv] W (HPost C (f + 1) ((Lt.mk lb 5 R a s mn mx lz ix nm).fw B) p was caps left out W) := by
  have hF := node_fine (hk.fine _ he)
  have hlb := hk.num _ he
  have hnn := hk.nn
  have htn := hk.tn64
  have hp := h.p64
  simp only [Lt.lb] at hlb
  obtain ⟨-, -, -, -, -, -, k3, -, ku, -, -⟩ := h.hm.cells
  have u3 := ku 3
  obtain ⟨W1, hW1⟩ : ∃ W1, W1 = W.setCell ⟨C.hb, 3, none⟩ (.int .i64 (left - 1)) := ⟨_, rfl⟩
  obtain ⟨hm1, fr1⟩ := h.hm.dec
  rw [← hW1] at hm1 fr1
  obtain ⟨-, -, -, -, -, -, l3, -, -, -, -⟩ := hm1.cells
  have HHM := hid hm1
  have HF1 := hid fr1
  obtain ⟨key, hkey⟩ : ∃ key : Int, key = 2 * (100 * (lb : Int) + (p : Int)) + 1 := ⟨_, rfl⟩
  have hw1 := fr1.row h.wasr
  obtain ⟨wa, wc, ewv⟩ := hw1.form
  subst ewv
  have hDid := did35 KW wa KW.length wc key W1 _ (hw1.text (by have := h.sz; omega))
  have hAnd := and36 KW (.slice wa KW.length wc) key W1 hw1.src (by have := h.sz; omega)
  have hdec : decide (key ∈ KW) = decide ((kb lb, (p : Int)) ∈ was) := by
    rw [hkey]; exact decide_eq_decide.2 ((h.kr lb p (by omega)).1.symm)
  rw [hdec] at hDid
  have hr3 : -100000000000 ≤ left ∧ left ≤ 20000 := ⟨h.lo, by have := h.fuel; omega⟩
  have HH := hid h
  have hlb3 : (lb : Int) ≤ 300000 := by omega
  have hp64 : (p : Int) ≤ 64 := by omega
  have b1 : (lb : Int) < (C.n : Int) := by omega
  have HK : Hid (KR ((kb lb, (p : Int)) :: was) (KW ++ [key])) := by rw [hkey]; exact hid (h.kr.begun (by omega))
  have HKY := hid hkey
  have HW1 := hid hW1
  obtain ⟨d, hd⟩ : ∃ d, d = decide ((kb lb, (p : Int)) ∈ was) := ⟨_, rfl⟩
  rw [← hd] at hDid
  have HD := hid hd
  obtain ⟨was', hwas⟩ : ∃ was', was' = (kb lb, (p : Int)) :: was := ⟨_, rfl⟩
  rw [← hwas] at HK
  have HXX : Hid (0 < left → d = false → ∀ o, Hx C.tx C.E (.inOrder (fwA s B)) p was' (caps.set 0 C.frm) out o → Hx C.tx C.E ((Lt.mk lb 5 R a s mn mx lz ix nm).fw B) p was (caps.set 0 C.frm) out o) := fun _ hdf o hx => by
    simp only [Lt.fw]
    refine .once (by simp only [kb]; omega) (of_decide_eq_false (hd.symm.trans hdf)) ?_
    rw [← hwas]
    simpa using hx
  have HSK : Hid (d = true → Hx C.tx C.E ((Lt.mk lb 5 R a s mn mx lz ix nm).fw B) p was (caps.set 0 C.frm) out out) := fun hdt => by
    simp only [Lt.fw]
    exact .skip (by simp only [kb]; omega) (of_decide_eq_true (hd.symm.trans hdt))
  have HHK := hid hk
  have HHE := hid he
  have HFN := hid hF
  have HFF := hid hf
  clear hd hk hf he hF hlb hnn htn hp hm1 fr1 hw1 h hdec hW1 ku hkey hwas
  generalize (Lt.mk lb 5 R a s mn mx lz ix nm).fw B = WB at HXX HSK ⊢
  go_enter Try.func18, Try.ntmps18
  go_upto_region 2 with fail
  rw [← HW1.out, ← HKY.out]
  clear k3 u3
  go_upto_region 3 with (first | (go_at_call 35; (with_reducible refine hDid.mono ?_); rintro e w1 ⟨rfl, rfl⟩))
  by_cases hl : left - 1 < 0
  · go_wp2_with fail
    refine bodyPost_ret (results_none rfl _ _ _) rfl ?_
    exact stop_post HHM.out HF1.out (fun h => by omega)
  · have h0 : 0 < left := by omega
    cases d
    rotate_left
    · go_wp2_with fail
      refine bodyPost_ret (results_none rfl _ _ _) rfl ?_
      exact stop_post HHM.out HF1.out (fun h => HSK.out (by first | rfl | trivial))
    · have HXY := hid (HXX.out h0 rfl)
      clear HXX HSK HD
      go_upto_region 5 with (first | (go_at_call 36; (with_reducible refine hAnd.mono ?_); rintro e w2 ⟨v', rfl, ho, hb⟩; obtain ⟨hm2, fr2⟩ := HHM.out.below hb; have hrow := Rw.of ho (by omega); have hfr := HF1.out.trans fr2; have hin := HH.out.and h0 HK.out hm2 hfr hrow; clear ho hb hm2 fr2))
      clear l3 hAnd hDid
      obtain ⟨r1, r3, s1, s2, s3, sa, sc, hP, hRP, hRk, hR, ok⟩ := hin.hm.at HHE.out
      obtain ⟨-, -, -, k0, -, -, -, -, -, -, -⟩ := hin.hm.cells
      obtain ⟨V, hV⟩ : ∃ V, V = w2.alloc (.cells #[.int .i64 5, .slice r1 R.length r3, .int .i64 a, .slice s1 s2 s3, .int .i64 mn, .int .i64 mx, .bool lz, .int .i64 ix, .string nm, .slice sa s.length sc, .int .i64 up, .int .i64 (nth : Int)] 64) := ⟨_, rfl⟩
      obtain ⟨hmV, frV⟩ := hin.hm.copy (o := .cells #[.int .i64 5, .slice r1 R.length r3, .int .i64 a, .slice s1 s2 s3, .int .i64 mn, .int .i64 mx, .bool lz, .int .i64 ix, .string nm, .slice sa s.length sc, .int .i64 up, .int .i64 (nth : Int)] 64)
      have hY : V.heap[w2.heap.size]? = some (.cells #[.int .i64 5, .slice r1 R.length r3, .int .i64 a, .slice s1 s2 s3, .int .i64 mn, .int .i64 mx, .bool lz, .int .i64 ix, .string nm, .slice sa s.length sc, .int .i64 up, .int .i64 (nth : Int)] 64 (0, 0)) := by rw [hV]; exact heap_alloc_new w2 _
      rw [← hV] at hmV frV
      obtain ⟨y, hy⟩ : ∃ y, y = w2.heap.size := ⟨_, rfl⟩
      rw [← hy] at hY
      have HV := hid (hin.go (f' := f) hmV frV (Int.le_refl _) hin.fuel hin.lo)
      have HFV := hid (hfr.trans frV)
      have HYV := hid hV
      have HEY := hid hy
      have HY : Hid (∀ w', Fr C V w' → w'.heap[y]? = some (.cells #[.int .i64 5, .slice r1 R.length r3, .int .i64 a, .slice s1 s2 s3, .int .i64 mn, .int .i64 mx, .bool lz, .int .i64 ix, .string nm, .slice sa s.length sc, .int .i64 up, .int .i64 (nth : Int)] 64 (0, 0))) := fun w' fr => fr.box _ _ hY
      have HRV : Hid (∀ w', Fr C V w' → Rw w' (.slice sa s.length sc) (s.map fun t => (t.lb : Int))) := fun w' fr => fr.row (frV.row hR)
      have HRP : Hid (∀ w', Fr C V w' → RP w' (fun b => b < C.NB ∧ b ≠ C.hb) r1 R) := fun w' fr => hRP.kept (fun b hb => ((frV.trans fr).low b hb.1 hb.2)) (fun b hb => hb)
      have HRK := hid hRk
      have HOK := hid ok
      simp only [P12] at hP
      obtain ⟨p0, p1, p2, p3, p4, p5, p6, p7, p8, p9, p10, p11⟩ := hP
      clear hin hrow hfr hRP hRk hR ok hV hmV frV hY hy
      go_upto_region 6 with fail
      rw [← HYV.out, ← HEY.out]
      clear p0 p1 p2 p3 p4 p5 p6 p7 p8 p9 p10 p11 k0
      obtain ⟨y0, y1, y2, -, -, -, y7, y9⟩ := box12' (HY.out V (Fr.refl C V))
      have HB5 : Hid (∀ (i : Nat) (hi : i < s.length) w' left' out', HM C w' left' out' → Fr C V w' → left' ≤ left - 1 → LBv f - (i : Int) ≤ left' → Calls Try.prog 18 #[.pointer (some ⟨C.hb, 0, none⟩), .int .i64 ((s[i]).lb : Int), .int .i64 (p : Int), cv, v'] w' (HPost C f ((s[i]).fw B) p was' caps left' out' w')) := fun i hi w' left' out' hm fr h1 h2 => by
        have hsub := HHK.out.subs _ HHE.out
        simp only [Lt.sub] at hsub
        have hff := HFF.out
        simp only [LBv] at h2
        have h := HV.out.go (f' := f) hm fr h1 (by have := HV.out.fuel; omega) (by omega)
        have := hB.out w' left' out' _ p caps cv was' (KW ++ [key]) v' (HHK.out.child _ HHE.out i (by simpa [Lt.sub] using hi)) h
        simp only [child, Lt.sub, subB] at this
        simpa using this
      have hsl5 : s.length ≤ 300000 := by
        have hsub := HHK.out.subs _ HHE.out
        simpa only [Lt.sub] using hsub
      have hg : ∃ g, sa = some ⟨g, 0, none⟩ := by
        obtain ⟨g, e, _⟩ := sub_at (HRV.out V (Fr.refl C V)) (i := 0) (by have := HFN.out.two (.inr rfl); omega)
        exact ⟨g, e⟩
      obtain ⟨g, rfl⟩ := hg
      have HG0 : Hid (∀ (i : Nat) (hi : i < s.length) w', Fr C V w' → w'.cell? ⟨g, i, none⟩ = some (.int .i64 ((s[i]).lb : Int))) := fun i hi w' fr => by
        obtain ⟨g', e, h⟩ := sub_at (HRV.out w' fr) hi
        simp only [Option.some.injEq, Addr.mk.injEq] at e
        obtain ⟨rfl, -⟩ := e
        exact h
      have HI0 : Hid (AltI C f s B p was' caps (left - 1) out V V 0) := hid ⟨left - 1, out, HV.out.hm, Fr.refl C V, Int.le_refl _, by simp only [LBv]; omega, fun _ => ⟨fun _ => out, rfl, rfl, fun j _ hj => by omega⟩⟩
      obtain ⟨sl, hsl⟩ : ∃ sl, sl = s.length := ⟨_, rfl⟩
      have HSL := hid hsl
      rw [← hsl] at y9 hsl5
      have HY9 : Hid (∀ w', Fr C V w' → w'.cell? ⟨y, 9, none⟩ = some (.slice (some ⟨g, 0, none⟩) sl sc)) := fun w' fr => by
        obtain ⟨-, -, -, -, -, -, -, z9⟩ := box12' (HY.out w' fr)
        rw [hsl]
        exact z9
      clear hsl
      go_wp2_with fail
      go_loopw [14] (fun x wq => ∃ (i : Nat), x = .int .i64 (i : Int) ∧ i ≤ sl ∧ Hid (AltI C f s B p was' caps (left - 1) out V wq i)) (fun x _ => sl - (intOf x).toNat)
      case atStart => exact ⟨0, rfl, by omega, HI0⟩
      case round =>
        obtain ⟨i, rfl, hi, HI⟩ := hrel
        clear HI0 y0 y1 y2 y7 y9
        obtain ⟨left', out', hmI, frI, hl1, hl2, hoo⟩ := HI.out
        have z9 := HY9.out _ frI
        by_cases hlt : i < sl
        · have b2 : (i : Int) < (sl : Int) := by omega
          have b3 : decide ((i : Int) < (sl : Int)) = true := by simp; omega
          have ad1 : IntKind.i64.wrap ((i : Int) + 1) = (i : Int) + 1 := by simp [IntKind.wrap, IntKind.bits, IntKind.signed]; omega
          have hil : i < s.length := by rw [← HSL.out]; exact hlt
          have g0 := HG0.out i hil _ frI
          have HC := HB5.out i hil _ left' out' hmI frI hl1 hl2
          have HNX : Hid (∀ e w', HPost C f ((s[i]).fw B) p was' caps left' out' wr e w' → AltI C f s B p was' caps (left - 1) out V w' (i + 1)) := fun e w' h => AltI.next hil frI hl1 hl2 hoo h
          obtain ⟨x, hx⟩ : ∃ x : Nat, x = (s[i]).lb := ⟨_, rfl⟩
          rw [← hx] at HC g0
          clear hx hoo hmI frI hl1 hl2
          go_wp2_with (first | (go_at_call 18; (with_reducible refine HC.mono ?_); rintro e w1 hp; have hq := hid (HNX.out _ _ hp); obtain ⟨rfl, -⟩ := hp; clear HC HNX))
          exact ⟨⟨i + 1, by push_cast; rfl, by omega, hq⟩, by simp [intOf]; omega⟩
        · have b3 : decide ((i : Int) < (sl : Int)) = false := by simp; omega
          have HQ : Hid (HPost C (f + 1) WB p was caps left out W (.returned (.tuple #[])) wr) := by
            refine hid ⟨rfl, left', out', hmI, fun h => by omega, fun _ => ⟨by omega, ?_⟩, fun hz => HXY.out _ ?_, HFV.out.trans frI⟩
            · simp only [LBv] at hl2 ⊢
              omega
            · obtain ⟨oo, o1, o2, o3⟩ := hoo hz
              have hil : i = (fwA s B).length := by rw [fwA_len, ← HSL.out]; omega
              have := Hx.inOrder (tx := C.tx) (E := C.E) (l := fwA s B) (p := p) (was := was') (ν := caps.set 0 C.frm) oo (fun j hj => by
                have hj' : j < s.length := by rw [fwA_len] at hj; exact hj
                rw [fwA_get s B j hj']
                exact o3 j hj' (by rw [fwA_len] at hil; omega))
              rw [o1, ← hil, o2] at this
              exact this
          clear hoo hmI frI hl1 hl2
          go_wp2_with fail
          go_end0
          exact HQ.out
end Go.Proofs.Ytnpocciioedgpaa
/- HELPERS: the hunt: begin, kind 6. -/
namespace Go.Proofs.Ytnpocciioedgpaa
open Go.RowKit
set_option linter.unusedVariables false
set_option linter.unusedSimpArgs false
set_option maxRecDepth 100000 in
set_option maxHeartbeats 8000000 in
theorem begin_6 {C : HC} (hk : HCk C) {f : Nat} (hB : Hid (BeginC C f)) (hO : Hid (OnC C f)) (hD : Hid (DecideC C f)) (hf : f ≤ 10000) {W : World} {left : Int} {out : List (Int × List Int)} {lb : Nat} {R : List (Int × Int)} {a : Int} {s : List Lt} {mn mx : Int} {lz : Bool} {ix : Int} {nm : ByteArray} {B : Way} {up : Int} {nth : Nat} {p : Nat} {caps : List Int} {cv : Value} {was : List (Int × Int)} {KW : List Int} {wv : Value}
    (he : (⟨.mk lb 6 R a s mn mx lz ix nm, B, up, nth⟩ : Pl) ∈ C.L) (h : HIn C W left out p caps cv was KW wv (f + 1)) :
    Calls Try.prog 18 #[.pointer (some ⟨C.hb, 0, none⟩), .int .i64 (lb : Int), .int .i64 (p : Int), cv, wv] W (HPost C (f + 1) ((Lt.mk lb 6 R a s mn mx lz ix nm).fw B) p was caps left out W) := by
  have hF := node_fine (hk.fine _ he)
  have hlb := hk.num _ he
  have hnn := hk.nn
  have htn := hk.tn64
  have hp := h.p64
  simp only [Lt.lb] at hlb
  obtain ⟨-, -, -, -, -, -, k3, -, ku, -, -⟩ := h.hm.cells
  have u3 := ku 3
  obtain ⟨W1, hW1⟩ : ∃ W1, W1 = W.setCell ⟨C.hb, 3, none⟩ (.int .i64 (left - 1)) := ⟨_, rfl⟩
  obtain ⟨hm1, fr1⟩ := h.hm.dec
  rw [← hW1] at hm1 fr1
  obtain ⟨-, -, -, -, -, -, l3, -, -, -, -⟩ := hm1.cells
  have HHM := hid hm1
  have HF1 := hid fr1
  obtain ⟨key, hkey⟩ : ∃ key : Int, key = 2 * (100 * (lb : Int) + (p : Int)) + 1 := ⟨_, rfl⟩
  have hw1 := fr1.row h.wasr
  obtain ⟨wa, wc, ewv⟩ := hw1.form
  subst ewv
  have hDid := did35 KW wa KW.length wc key W1 _ (hw1.text (by have := h.sz; omega))
  have hAnd := and36 KW (.slice wa KW.length wc) key W1 hw1.src (by have := h.sz; omega)
  have hdec : decide (key ∈ KW) = decide ((kb lb, (p : Int)) ∈ was) := by
    rw [hkey]; exact decide_eq_decide.2 ((h.kr lb p (by omega)).1.symm)
  rw [hdec] at hDid
  have hr3 : -100000000000 ≤ left ∧ left ≤ 20000 := ⟨h.lo, by have := h.fuel; omega⟩
  have HH := hid h
  have hlb3 : (lb : Int) ≤ 300000 := by omega
  have hp64 : (p : Int) ≤ 64 := by omega
  have b1 : (lb : Int) < (C.n : Int) := by omega
  have HK : Hid (KR ((kb lb, (p : Int)) :: was) (KW ++ [key])) := by rw [hkey]; exact hid (h.kr.begun (by omega))
  have HKY := hid hkey
  have HW1 := hid hW1
  obtain ⟨d, hd⟩ : ∃ d, d = decide ((kb lb, (p : Int)) ∈ was) := ⟨_, rfl⟩
  rw [← hd] at hDid
  have HD := hid hd
  obtain ⟨was', hwas⟩ : ∃ was', was' = (kb lb, (p : Int)) :: was := ⟨_, rfl⟩
  rw [← hwas] at HK
  have HXX : Hid (0 < left → d = false → ∀ o, Hx C.tx C.E (if mx < 0 then (if mn = 0 then Kd lz lb B else fwH s (Kd lz lb B)) else .inOrder (if lz = true then [B, fwH s B] else [fwH s B, B])) p was' (caps.set 0 C.frm) out o → Hx C.tx C.E ((Lt.mk lb 6 R a s mn mx lz ix nm).fw B) p was (caps.set 0 C.frm) out o) := fun _ hdf o hx => by
    simp only [Lt.fw]
    refine .once (by simp only [kb]; omega) (of_decide_eq_false (hd.symm.trans hdf)) ?_
    rw [← hwas]
    simpa using hx
  have HSK : Hid (d = true → Hx C.tx C.E ((Lt.mk lb 6 R a s mn mx lz ix nm).fw B) p was (caps.set 0 C.frm) out out) := fun hdt => by
    simp only [Lt.fw]
    exact .skip (by simp only [kb]; omega) (of_decide_eq_true (hd.symm.trans hdt))
  have HHK := hid hk
  have HHE := hid he
  have HFN := hid hF
  have HFF := hid hf
  clear hd hk hf he hF hlb hnn htn hp hm1 fr1 hw1 h hdec hW1 ku hkey hwas
  generalize (Lt.mk lb 6 R a s mn mx lz ix nm).fw B = WB at HXX HSK ⊢
  go_enter Try.func18, Try.ntmps18
  go_upto_region 2 with fail
  rw [← HW1.out, ← HKY.out]
  clear k3 u3
  go_upto_region 3 with (first | (go_at_call 35; (with_reducible refine hDid.mono ?_); rintro e w1 ⟨rfl, rfl⟩))
  by_cases hl : left - 1 < 0
  · go_wp2_with fail
    refine bodyPost_ret (results_none rfl _ _ _) rfl ?_
    exact stop_post HHM.out HF1.out (fun h => by omega)
  · have h0 : 0 < left := by omega
    cases d
    rotate_left
    · go_wp2_with fail
      refine bodyPost_ret (results_none rfl _ _ _) rfl ?_
      exact stop_post HHM.out HF1.out (fun h => HSK.out (by first | rfl | trivial))
    · have HXY := hid (HXX.out h0 rfl)
      clear HXX HSK HD
      go_upto_region 5 with (first | (go_at_call 36; (with_reducible refine hAnd.mono ?_); rintro e w2 ⟨v', rfl, ho, hb⟩; obtain ⟨hm2, fr2⟩ := HHM.out.below hb; have hrow := Rw.of ho (by omega); have hfr := HF1.out.trans fr2; have hin := HH.out.and h0 HK.out hm2 hfr hrow; clear ho hb hm2 fr2))
      clear l3 hAnd hDid
      obtain ⟨r1, r3, s1, s2, s3, sa, sc, hP, hRP, hRk, hR, ok⟩ := hin.hm.at HHE.out
      obtain ⟨-, -, -, k0, -, -, -, -, -, -, -⟩ := hin.hm.cells
      obtain ⟨V, hV⟩ : ∃ V, V = w2.alloc (.cells #[.int .i64 6, .slice r1 R.length r3, .int .i64 a, .slice s1 s2 s3, .int .i64 mn, .int .i64 mx, .bool lz, .int .i64 ix, .string nm, .slice sa s.length sc, .int .i64 up, .int .i64 (nth : Int)] 64) := ⟨_, rfl⟩
      obtain ⟨hmV, frV⟩ := hin.hm.copy (o := .cells #[.int .i64 6, .slice r1 R.length r3, .int .i64 a, .slice s1 s2 s3, .int .i64 mn, .int .i64 mx, .bool lz, .int .i64 ix, .string nm, .slice sa s.length sc, .int .i64 up, .int .i64 (nth : Int)] 64)
      have hY : V.heap[w2.heap.size]? = some (.cells #[.int .i64 6, .slice r1 R.length r3, .int .i64 a, .slice s1 s2 s3, .int .i64 mn, .int .i64 mx, .bool lz, .int .i64 ix, .string nm, .slice sa s.length sc, .int .i64 up, .int .i64 (nth : Int)] 64 (0, 0)) := by rw [hV]; exact heap_alloc_new w2 _
      rw [← hV] at hmV frV
      obtain ⟨y, hy⟩ : ∃ y, y = w2.heap.size := ⟨_, rfl⟩
      rw [← hy] at hY
      have HV := hid (hin.go (f' := f) hmV frV (Int.le_refl _) hin.fuel hin.lo)
      have HFV := hid (hfr.trans frV)
      have HYV := hid hV
      have HEY := hid hy
      have HY : Hid (∀ w', Fr C V w' → w'.heap[y]? = some (.cells #[.int .i64 6, .slice r1 R.length r3, .int .i64 a, .slice s1 s2 s3, .int .i64 mn, .int .i64 mx, .bool lz, .int .i64 ix, .string nm, .slice sa s.length sc, .int .i64 up, .int .i64 (nth : Int)] 64 (0, 0))) := fun w' fr => fr.box _ _ hY
      have HRV : Hid (∀ w', Fr C V w' → Rw w' (.slice sa s.length sc) (s.map fun t => (t.lb : Int))) := fun w' fr => fr.row (frV.row hR)
      have HRP : Hid (∀ w', Fr C V w' → RP w' (fun b => b < C.NB ∧ b ≠ C.hb) r1 R) := fun w' fr => hRP.kept (fun b hb => ((frV.trans fr).low b hb.1 hb.2)) (fun b hb => hb)
      have HRK := hid hRk
      have HOK := hid ok
      simp only [P12] at hP
      obtain ⟨p0, p1, p2, p3, p4, p5, p6, p7, p8, p9, p10, p11⟩ := hP
      clear hin hrow hfr hRP hRk hR ok hV hmV frV hY hy
      go_upto_region 6 with fail
      rw [← HYV.out, ← HEY.out]
      clear p0 p1 p2 p3 p4 p5 p6 p7 p8 p9 p10 p11 k0
      obtain ⟨y0, y1, y2, -, -, -, y7, y9⟩ := box12' (HY.out V (Fr.refl C V))
      obtain ⟨t0, rfl⟩ : ∃ t0, s = [t0] := by
        have := (HFN.out.rep rfl).1
        match s, this with
        | [t], _ => exact ⟨t, rfl⟩
      have HC := repeat40 HHK.out hB hO hD HFF.out HHE.out HV.out (by omega)
      generalize (if mx < 0 then (if mn = 0 then Kd lz lb B else fwH [t0] (Kd lz lb B)) else .inOrder (if lz = true then [B, fwH [t0] B] else [fwH [t0] B, B])) = WW at HC HXY
      go_wp2_with (first | (go_at_call 40; (with_reducible refine HC.mono ?_); rintro e w1 hp; have hq := hid (two_post hp HFV.out h0 HXY.out); obtain ⟨rfl, -⟩ := hp; clear HC))
      go_end0
      exact hq.out
end Go.Proofs.Ytnpocciioedgpaa
/- HELPERS: the hunt: begin, kind 7. -/
namespace Go.Proofs.Ytnpocciioedgpaa
open Go.RowKit
set_option linter.unusedVariables false
set_option linter.unusedSimpArgs false
theorem step_call5 {P : Program} {ops : Array Oper} {o : Oper} {a : Act} {w : World} {K : Act → World → Prop} {Q : Exit → Act → World → Prop} {E : Prop} (hg : o.guard = none) (f : FuncId) (x y z x4 x5 : Operand) (t u v t4 t5 : TypeId)
    (hop : o.op = Op.call { callee := Callee.value (.func f), args := #[x, y, z, x4, x5], argTypes := #[t, u, v, t4, t5] }) (hen : ∀ args w, (callFunc f args).run P w = .ok (.enter f args) w)
    (hc : Calls P f #[a.eval x, a.eval y, a.eval z, a.eval x4, a.eval x5] w fun e w' => ∃ v, e = .returned v ∧ K (a.put o.dst v) w') :
    if Region.wanted o (yielded ops a.tmps) = true then Oper.wp P o a w K Q else E := by
  have hw : Region.wanted o (yielded ops a.tmps) = true := by simp [Region.wanted, hg]
  rw [if_pos hw]
  have h2 := hen #[a.eval x, a.eval y, a.eval z, a.eval x4, a.eval x5] w
  unfold Oper.wp
  have ev : a.eval (.func f) = .func (.func f) #[] #[] := rfl
  simp [execOp, hop, resolve, invoke, ev, Deferred.ofValue, h2, Result.andThen]
  show Calls P f #[a.eval x, a.eval y, a.eval z, a.eval x4, a.eval x5] w _
  refine hc.mono fun e w' h => ?_
  obtain ⟨v, rfl, hk⟩ := h
  exact hk
theorem en18 : ∀ (args : Array Value) (w : World), (callFunc 18 args).run Try.prog w = .ok (.enter 18 args) w := enter_of Try.func18 (by kernel_rfl) rfl
set_option maxRecDepth 100000 in
set_option maxHeartbeats 8000000 in
theorem begin_7 {C : HC} (hk : HCk C) {f : Nat} (hB : Hid (BeginC C f)) (hO : Hid (OnC C f)) (hD : Hid (DecideC C f)) (hf : f ≤ 10000) {W : World} {left : Int} {out : List (Int × List Int)} {lb : Nat} {R : List (Int × Int)} {a : Int} {s : List Lt} {mn mx : Int} {lz : Bool} {ix : Int} {nm : ByteArray} {B : Way} {up : Int} {nth : Nat} {p : Nat} {caps : List Int} {cv : Value} {was : List (Int × Int)} {KW : List Int} {wv : Value}
    (he : (⟨.mk lb 7 R a s mn mx lz ix nm, B, up, nth⟩ : Pl) ∈ C.L) (h : HIn C W left out p caps cv was KW wv (f + 1)) :
    Calls Try.prog 18 #[.pointer (some ⟨C.hb, 0, none⟩), .int .i64 (lb : Int), .int .i64 (p : Int), cv, wv] W (HPost C (f + 1) ((Lt.mk lb 7 R a s mn mx lz ix nm).fw B) p was caps left out W) := by
  have hF := node_fine (hk.fine _ he)
  have hlb := hk.num _ he
  have hnn := hk.nn
  have htn := hk.tn64
  have hp := h.p64
  simp only [Lt.lb] at hlb
  obtain ⟨-, -, -, -, -, -, k3, -, ku, -, -⟩ := h.hm.cells
  have u3 := ku 3
  obtain ⟨W1, hW1⟩ : ∃ W1, W1 = W.setCell ⟨C.hb, 3, none⟩ (.int .i64 (left - 1)) := ⟨_, rfl⟩
  obtain ⟨hm1, fr1⟩ := h.hm.dec
  rw [← hW1] at hm1 fr1
  obtain ⟨-, -, -, -, -, -, l3, -, -, -, -⟩ := hm1.cells
  have HHM := hid hm1
  have HF1 := hid fr1
  obtain ⟨key, hkey⟩ : ∃ key : Int, key = 2 * (100 * (lb : Int) + (p : Int)) + 1 := ⟨_, rfl⟩
  have hw1 := fr1.row h.wasr
  obtain ⟨wa, wc, ewv⟩ := hw1.form
  subst ewv
  have hDid := did35 KW wa KW.length wc key W1 _ (hw1.text (by have := h.sz; omega))
  have hAnd := and36 KW (.slice wa KW.length wc) key W1 hw1.src (by have := h.sz; omega)
  have hdec : decide (key ∈ KW) = decide ((kb lb, (p : Int)) ∈ was) := by
    rw [hkey]; exact decide_eq_decide.2 ((h.kr lb p (by omega)).1.symm)
  rw [hdec] at hDid
  have hr3 : -100000000000 ≤ left ∧ left ≤ 20000 := ⟨h.lo, by have := h.fuel; omega⟩
  have HH := hid h
  have hlb3 : (lb : Int) ≤ 300000 := by omega
  have hp64 : (p : Int) ≤ 64 := by omega
  have b1 : (lb : Int) < (C.n : Int) := by omega
  have HK : Hid (KR ((kb lb, (p : Int)) :: was) (KW ++ [key])) := by rw [hkey]; exact hid (h.kr.begun (by omega))
  have HKY := hid hkey
  have HW1 := hid hW1
  obtain ⟨d, hd⟩ : ∃ d, d = decide ((kb lb, (p : Int)) ∈ was) := ⟨_, rfl⟩
  rw [← hd] at hDid
  have HD := hid hd
  obtain ⟨was', hwas⟩ : ∃ was', was' = (kb lb, (p : Int)) :: was := ⟨_, rfl⟩
  rw [← hwas] at HK
  have HXX : Hid (0 < left → d = false → ∀ o, Hx C.tx C.E (.noted (2 * ix.toNat) (fwH s (.noted (2 * ix.toNat + 1) B))) p was' (caps.set 0 C.frm) out o → Hx C.tx C.E ((Lt.mk lb 7 R a s mn mx lz ix nm).fw B) p was (caps.set 0 C.frm) out o) := fun _ hdf o hx => by
    simp only [Lt.fw]
    refine .once (by simp only [kb]; omega) (of_decide_eq_false (hd.symm.trans hdf)) ?_
    rw [← hwas]
    simpa using hx
  have HSK : Hid (d = true → Hx C.tx C.E ((Lt.mk lb 7 R a s mn mx lz ix nm).fw B) p was (caps.set 0 C.frm) out out) := fun hdt => by
    simp only [Lt.fw]
    exact .skip (by simp only [kb]; omega) (of_decide_eq_true (hd.symm.trans hdt))
  have HHK := hid hk
  have HHE := hid he
  have HFN := hid hF
  have HFF := hid hf
  clear hd hk hf he hF hlb hnn htn hp hm1 fr1 hw1 h hdec hW1 ku hkey hwas
  generalize (Lt.mk lb 7 R a s mn mx lz ix nm).fw B = WB at HXX HSK ⊢
  go_enter Try.func18, Try.ntmps18
  go_upto_region 2 with fail
  rw [← HW1.out, ← HKY.out]
  clear k3 u3
  go_upto_region 3 with (first | (go_at_call 35; (with_reducible refine hDid.mono ?_); rintro e w1 ⟨rfl, rfl⟩))
  by_cases hl : left - 1 < 0
  · go_wp2_with fail
    refine bodyPost_ret (results_none rfl _ _ _) rfl ?_
    exact stop_post HHM.out HF1.out (fun h => by omega)
  · have h0 : 0 < left := by omega
    cases d
    rotate_left
    · go_wp2_with fail
      refine bodyPost_ret (results_none rfl _ _ _) rfl ?_
      exact stop_post HHM.out HF1.out (fun h => HSK.out (by first | rfl | trivial))
    · have HXY := hid (HXX.out h0 rfl)
      clear HXX HSK HD
      go_upto_region 5 with (first | (go_at_call 36; (with_reducible refine hAnd.mono ?_); rintro e w2 ⟨v', rfl, ho, hb⟩; obtain ⟨hm2, fr2⟩ := HHM.out.below hb; have hrow := Rw.of ho (by omega); have hfr := HF1.out.trans fr2; have hin := HH.out.and h0 HK.out hm2 hfr hrow; clear ho hb hm2 fr2))
      clear l3 hAnd hDid
      obtain ⟨r1, r3, s1, s2, s3, sa, sc, hP, hRP, hRk, hR, ok⟩ := hin.hm.at HHE.out
      obtain ⟨-, -, -, k0, -, -, -, -, -, -, -⟩ := hin.hm.cells
      obtain ⟨V, hV⟩ : ∃ V, V = w2.alloc (.cells #[.int .i64 7, .slice r1 R.length r3, .int .i64 a, .slice s1 s2 s3, .int .i64 mn, .int .i64 mx, .bool lz, .int .i64 ix, .string nm, .slice sa s.length sc, .int .i64 up, .int .i64 (nth : Int)] 64) := ⟨_, rfl⟩
      obtain ⟨hmV, frV⟩ := hin.hm.copy (o := .cells #[.int .i64 7, .slice r1 R.length r3, .int .i64 a, .slice s1 s2 s3, .int .i64 mn, .int .i64 mx, .bool lz, .int .i64 ix, .string nm, .slice sa s.length sc, .int .i64 up, .int .i64 (nth : Int)] 64)
      have hY : V.heap[w2.heap.size]? = some (.cells #[.int .i64 7, .slice r1 R.length r3, .int .i64 a, .slice s1 s2 s3, .int .i64 mn, .int .i64 mx, .bool lz, .int .i64 ix, .string nm, .slice sa s.length sc, .int .i64 up, .int .i64 (nth : Int)] 64 (0, 0)) := by rw [hV]; exact heap_alloc_new w2 _
      rw [← hV] at hmV frV
      obtain ⟨y, hy⟩ : ∃ y, y = w2.heap.size := ⟨_, rfl⟩
      rw [← hy] at hY
      have HV := hid (hin.go (f' := f) hmV frV (Int.le_refl _) hin.fuel hin.lo)
      have HFV := hid (hfr.trans frV)
      have HYV := hid hV
      have HEY := hid hy
      have HY : Hid (∀ w', Fr C V w' → w'.heap[y]? = some (.cells #[.int .i64 7, .slice r1 R.length r3, .int .i64 a, .slice s1 s2 s3, .int .i64 mn, .int .i64 mx, .bool lz, .int .i64 ix, .string nm, .slice sa s.length sc, .int .i64 up, .int .i64 (nth : Int)] 64 (0, 0))) := fun w' fr => fr.box _ _ hY
      have HRV : Hid (∀ w', Fr C V w' → Rw w' (.slice sa s.length sc) (s.map fun t => (t.lb : Int))) := fun w' fr => fr.row (frV.row hR)
      have HRP : Hid (∀ w', Fr C V w' → RP w' (fun b => b < C.NB ∧ b ≠ C.hb) r1 R) := fun w' fr => hRP.kept (fun b hb => ((frV.trans fr).low b hb.1 hb.2)) (fun b hb => hb)
      have HRK := hid hRk
      have HOK := hid ok
      simp only [P12] at hP
      obtain ⟨p0, p1, p2, p3, p4, p5, p6, p7, p8, p9, p10, p11⟩ := hP
      clear hin hrow hfr hRP hRk hR ok hV hmV frV hY hy
      go_upto_region 6 with fail
      rw [← HYV.out, ← HEY.out]
      clear p0 p1 p2 p3 p4 p5 p6 p7 p8 p9 p10 p11 k0
      obtain ⟨y0, y1, y2, -, -, -, y7, y9⟩ := box12' (HY.out V (Fr.refl C V))
      obtain ⟨t0, rfl⟩ : ∃ t0, s = [t0] := by
        have := (HFN.out.grp rfl).1
        match s, this with
        | [t], _ => exact ⟨t, rfl⟩
      obtain ⟨hx1, hx2⟩ := HHK.out.grp _ _ _ _ _ _ _ _ _ _ _ _ _ HHE.out rfl
      have HK2 := hid HHK.out.k2
      have HCL := hid HV.out.capl
      have hx3 : ix ≤ 1000 := by have := HK2.out; omega
      have HA : Calls Try.prog 39 #[cv, .int .i64 (2 * ix), .int .i64 (p : Int)] V fun e w' => ∃ v', e = .returned v' ∧ w'.ownsRow V.heap.size 3 1 v' caps.length (I64 (caps.set (2 * ix.toNat) (p : Int))) ∧ Below V.heap.size V w' := by
        have := set39 caps cv (2 * ix.toNat) (p : Int) V HV.out.cap.src (by have := HCL.out; omega) (by have := HCL.out; have := HK2.out; omega)
        rw [show (((2 * ix.toNat : Nat)) : Int) = 2 * ix by omega] at this
        exact this
      have hg : ∃ g, sa = some ⟨g, 0, none⟩ := by
        obtain ⟨g, e, _⟩ := sub_at (HRV.out V (Fr.refl C V)) (i := 0) (by simp)
        exact ⟨g, e⟩
      obtain ⟨g, rfl⟩ := hg
      have HG0 : Hid (∀ w', Fr C V w' → w'.cell? ⟨g, 0, none⟩ = some (.int .i64 (t0.lb : Int))) := fun w' fr => by
        obtain ⟨g', e, h⟩ := sub_at (HRV.out w' fr) (i := 0) (by simp)
        simp only [Option.some.injEq, Addr.mk.injEq] at e
        obtain ⟨rfl, -⟩ := e
        exact h
      have g0 := HG0.out V (Fr.refl C V)
      have HB7 : Hid (∀ w' cv', HM C w' (left - 1) out → Fr C V w' → Rw w' cv' (caps.set (2 * ix.toNat) (p : Int)) → Calls Try.prog 18 #[.pointer (some ⟨C.hb, 0, none⟩), .int .i64 (t0.lb : Int), .int .i64 (p : Int), cv', v'] w' (HPost C f (fwH [t0] (.noted (2 * ix.toNat + 1) B)) p was' (caps.set (2 * ix.toNat) (p : Int)) (left - 1) out w')) := fun w' cv' hm fr hr => by
        have h := HV.out.go (f' := f) hm fr (Int.le_refl _) HV.out.fuel HV.out.lo
        have := hB.out w' (left - 1) out _ p _ cv' was' (KW ++ [key]) v' (HHK.out.child _ HHE.out 0 (by simp [Lt.sub])) ⟨hm, h.p64, hr, by simp [h.capl], h.wasr, h.kr, h.fuel, h.lo, h.sz⟩
        simp only [child, Lt.sub, subB] at this
        simpa [fwH] using this
      have HSW : Hid (∀ w', Fr C V w' → w'.cell? ⟨y, 9, none⟩ = some (.slice (some ⟨g, 0, none⟩) 1 sc) ∧ w'.cell? ⟨y, 7, none⟩ = some (.int .i64 ix) ∧ w'.cell? ⟨g, 0, none⟩ = some (.int .i64 (t0.lb : Int))) := fun w' fr => by
        obtain ⟨-, -, -, -, -, -, z7, z9⟩ := box12' (HY.out w' fr)
        exact ⟨z9, z7, HG0.out w' fr⟩
      have HDR : Hid (HM C V.drew (left - 1) out ∧ Fr C V V.drew) := HV.out.hm.below ⟨rfl, rfl, rfl, Nat.le_refl _, fun _ _ => rfl⟩
      have HA' : Hid (Calls Try.prog 39 #[cv, .int .i64 (2 * ix), .int .i64 (p : Int)] V.drew fun e w' => ∃ v', e = .returned v' ∧ w'.ownsRow V.drew.heap.size 3 1 v' caps.length (I64 (caps.set (2 * ix.toNat) (p : Int))) ∧ Below V.drew.heap.size V.drew w') := by
        have := set39 caps cv (2 * ix.toNat) (p : Int) V.drew (HDR.out.2.row HV.out.cap).src (by have := HCL.out; omega) (by have := HCL.out; have := HK2.out; omega)
        rw [show (((2 * ix.toNat : Nat)) : Int) = 2 * ix by omega] at this
        exact hid this
      clear HA
      have ml : IntKind.i64.wrap (2 * ix) = 2 * ix := by simp [IntKind.wrap, IntKind.bits, IntKind.signed]; omega
      go_upto_region 27 with fail
      refine wp_region_lexF [0, 1, 2, 3, 4, 5, 6, 7, 8, 9, 10, 11, 13] [12, 14] (fun W => W.cell? ⟨y, 9, none⟩ = some (.slice (some ⟨g, 0, none⟩) 1 sc) ∧ W.cell? ⟨y, 7, none⟩ = some (.int .i64 ix) ∧ W.cell? ⟨g, 0, none⟩ = some (.int .i64 (t0.lb : Int))) (by kernel_rfl) (by kernel_rfl) rfl (by kernel_rfl) (by kernel_rfl) (HSW.out _ HDR.out.2) ?_
      simp only [opsAt, opsNo, List.getElem?_toArray, List.getElem?_cons_zero, List.getElem?_cons_succ]
      iterate 13
        refine lex_cons ?_ rfl (fun W hW => ?_) (fun _ _ _ h => h) ?_
        rotate_left
        · obtain ⟨s0, s1', s2'⟩ := hW
          go_simp <;> with_reducible rfl
        simp only [Act.put, List.setIfInBounds_toArray, List.set_cons_zero, List.set_cons_succ]
      refine lex_nil (tailK_cons fun K hK => ?_)
      refine step_call3 rfl 39 (.tmp 181) (.tmp 185) (.tmp 186) 29 3 3 rfl en39 ?_
      refine HA'.out.mono ?_
      rintro e w3 ⟨v3, rfl, ho1, hb1⟩
      obtain ⟨hm3, fr3⟩ := HDR.out.1.below hb1
      have fr3 := HDR.out.2.trans fr3
      have HC := HB7.out w3 v3 hm3 fr3 (Rw.of ho1 (by have := HCL.out; have := HK2.out; omega))
      have HF2 := hid fr3
      refine ⟨_, rfl, hK.out _ _ (fun _ => HSW.out _ fr3) (tailK_cons fun K hK => ?_)⟩
      clear ho1 hb1 hm3 fr3 HA'
      refine step_call5 rfl 18 (.tmp 175) (.tmp 179) (.tmp 180) (.tmp 187) (.tmp 188) 39 3 3 29 29 rfl en18 ?_
      refine HC.mono ?_
      intro e w4 hp
      have hq := hid (step_post (p := p) (was := was) (caps := caps) hp (HFV.out.trans HF2.out) h0 (fun o hx => HXY.out o (.noted (by rw [List.set_comm _ _ (by omega)]; exact hx))))
      obtain ⟨rfl, -, -, -, -, -, -, fr4⟩ := hp
      have fr4 := HF2.out.trans fr4
      refine ⟨_, rfl, hK.out _ _ (fun _ => HSW.out _ fr4) (tailK_nil ?_)⟩
      simp only [Act.put, List.setIfInBounds_toArray, List.set_cons_zero, List.set_cons_succ]
      clear HC fr4
      go_wp2_with fail
      go_end0
      exact hq.out
end Go.Proofs.Ytnpocciioedgpaa
/- HELPERS: the hunt: all of it. -/
namespace Go.Proofs.Ytnpocciioedgpaa
open Go.RowKit
set_option linter.unusedVariables false
set_option linter.unusedSimpArgs false
set_option maxRecDepth 100000 in
set_option maxHeartbeats 8000000 in
theorem begin_stop {C : HC} (hk : HCk C) {f g : Nat} {A : Way} {W : World} {left : Int} {out : List (Int × List Int)} {e : Pl} {lb p : Nat} {caps : List Int} {cv : Value} {was : List (Int × Int)} {KW : List Int} {wv : Value} (he : e ∈ C.L) (helb : e.t.lb = lb) (h : HIn C W left out p caps cv was KW wv f) (hneg : left ≤ 0) :
    Calls Try.prog 18 #[.pointer (some ⟨C.hb, 0, none⟩), .int .i64 (lb : Int), .int .i64 (p : Int), cv, wv] W (HPost C g A p was caps left out W) := by
  have hlb := hk.num _ he
  rw [helb] at hlb
  have hnn := hk.nn
  have htn := hk.tn64
  have hp := h.p64
  obtain ⟨-, -, -, -, -, -, k3, -, ku, -, -⟩ := h.hm.cells
  have u3 := ku 3
  obtain ⟨W1, hW1⟩ : ∃ W1, W1 = W.setCell ⟨C.hb, 3, none⟩ (.int .i64 (left - 1)) := ⟨_, rfl⟩
  obtain ⟨hm1, fr1⟩ := h.hm.dec
  rw [← hW1] at hm1 fr1
  obtain ⟨-, -, -, -, -, -, l3, -, -, -, -⟩ := hm1.cells
  have HHM := hid hm1
  have HF1 := hid fr1
  obtain ⟨key, hkey⟩ : ∃ key : Int, key = 2 * (100 * (lb : Int) + (p : Int)) + 1 := ⟨_, rfl⟩
  have hw1 := fr1.row h.wasr
  obtain ⟨wa, wc, ewv⟩ := hw1.form
  subst ewv
  have hDid := did35 KW wa KW.length wc key W1 _ (hw1.text (by have := h.sz; omega))
  have hAnd := and36 KW (.slice wa KW.length wc) key W1 hw1.src (by have := h.sz; omega)
  have hdec : decide (key ∈ KW) = decide ((kb lb, (p : Int)) ∈ was) := by
    rw [hkey]; exact decide_eq_decide.2 ((h.kr lb p (by omega)).1.symm)
  rw [hdec] at hDid
  have hr3 : -100000000000 ≤ left ∧ left ≤ 20000 := ⟨h.lo, by omega⟩
  have HH := hid h
  have hlb3 : (lb : Int) ≤ 300000 := by omega
  have hp64 : (p : Int) ≤ 64 := by omega
  have HKY := hid hkey
  have HW1 := hid hW1
  obtain ⟨d, hd⟩ : ∃ d, d = decide ((kb lb, (p : Int)) ∈ was) := ⟨_, rfl⟩
  rw [← hd] at hDid
  have HD := hid hd
  clear hd hk hlb hnn htn hp hm1 fr1 hw1 h hdec hW1 ku hkey
  go_enter Try.func18, Try.ntmps18
  go_upto_region 2 with fail
  rw [← HW1.out, ← HKY.out]
  clear k3 u3
  go_upto_region 3 with (first | (go_at_call 35; (with_reducible refine hDid.mono ?_); rintro e w1 ⟨rfl, rfl⟩))
  have hl : left - 1 < 0 := by omega
  go_wp2_with fail
  refine bodyPost_ret (results_none rfl _ _ _) rfl ?_
  exact stop_post HHM.out HF1.out (fun h => by omega)
set_option maxRecDepth 100000 in
set_option maxHeartbeats 8000000 in
theorem decide_stop {C : HC} (hk : HCk C) {f g : Nat} {A : Way} {W : World} {left : Int} {out : List (Int × List Int)} {e : Pl} {lb p : Nat} {caps : List Int} {cv : Value} {was : List (Int × Int)} {KW : List Int} {wv : Value} (he : e ∈ C.L) (helb : e.t.lb = lb) (h : HIn C W left out p caps cv was KW wv f) (hneg : left ≤ 0) :
    Calls Try.prog 56 #[.pointer (some ⟨C.hb, 0, none⟩), .int .i64 (lb : Int), .int .i64 (p : Int), cv, wv] W (HPost C g A p was caps left out W) := by
  have hlb := hk.num _ he
  rw [helb] at hlb
  have hnn := hk.nn
  have htn := hk.tn64
  have hp := h.p64
  obtain ⟨-, -, -, -, -, -, k3, -, ku, -, -⟩ := h.hm.cells
  have u3 := ku 3
  obtain ⟨W1, hW1⟩ : ∃ W1, W1 = W.setCell ⟨C.hb, 3, none⟩ (.int .i64 (left - 1)) := ⟨_, rfl⟩
  obtain ⟨hm1, fr1⟩ := h.hm.dec
  rw [← hW1] at hm1 fr1
  obtain ⟨-, -, -, -, -, -, l3, -, -, -, -⟩ := hm1.cells
  have HHM := hid hm1
  have HF1 := hid fr1
  obtain ⟨key, hkey⟩ : ∃ key : Int, key = 2 * (100 * (lb : Int) + (p : Int)) := ⟨_, rfl⟩
  have hw1 := fr1.row h.wasr
  obtain ⟨wa, wc, ewv⟩ := hw1.form
  subst ewv
  have hDid := did35 KW wa KW.length wc key W1 _ (hw1.text (by have := h.sz; omega))
  have hAnd := and36 KW (.slice wa KW.length wc) key W1 hw1.src (by have := h.sz; omega)
  have hdec : decide (key ∈ KW) = decide ((kd lb, (p : Int)) ∈ was) := by
    rw [hkey]; exact decide_eq_decide.2 ((h.kr lb p (by omega)).2.symm)
  rw [hdec] at hDid
  have hr3 : -100000000000 ≤ left ∧ left ≤ 20000 := ⟨h.lo, by omega⟩
  have HH := hid h
  have hlb3 : (lb : Int) ≤ 300000 := by omega
  have hp64 : (p : Int) ≤ 64 := by omega
  have HKY := hid hkey
  have HW1 := hid hW1
  obtain ⟨d, hd⟩ : ∃ d, d = decide ((kd lb, (p : Int)) ∈ was) := ⟨_, rfl⟩
  rw [← hd] at hDid
  have HD := hid hd
  clear hd hk hlb hnn htn hp hm1 fr1 hw1 h hdec hW1 ku hkey
  go_enter Try.func56, Try.ntmps56
  go_upto_region 2 with fail
  rw [← HW1.out, ← HKY.out]
  clear k3 u3
  go_upto_region 3 with (first | (go_at_call 35; (with_reducible refine hDid.mono ?_); rintro e w1 ⟨rfl, rfl⟩))
  have hl : left - 1 < 0 := by omega
  go_wp2_with fail
  refine bodyPost_ret (results_none rfl _ _ _) rfl ?_
  exact stop_post HHM.out HF1.out (fun h => by omega)
set_option maxRecDepth 100000 in
set_option maxHeartbeats 8000000 in
theorem on_stop {C : HC} {f g : Nat} {A : Way} {W : World} {left : Int} {out : List (Int × List Int)} {lb p : Nat} {caps : List Int} {cv : Value} {was : List (Int × Int)} {KW : List Int} {wv : Value} (h : HIn C W left out p caps cv was KW wv f) (hneg : left ≤ 0) :
    Calls Try.prog 37 #[.pointer (some ⟨C.hb, 0, none⟩), .int .i64 (lb : Int), .int .i64 (p : Int), cv, wv] W (HPost C g A p was caps left out W) := by
  obtain ⟨-, -, -, -, -, -, k3, -, ku, -, -⟩ := h.hm.cells
  have u3 := ku 3
  obtain ⟨W1, hW1⟩ : ∃ W1, W1 = W.setCell ⟨C.hb, 3, none⟩ (.int .i64 (left - 1)) := ⟨_, rfl⟩
  obtain ⟨hm1, fr1⟩ := h.hm.dec
  rw [← hW1] at hm1 fr1
  obtain ⟨-, -, -, -, -, -, l3, -, -, -, -⟩ := hm1.cells
  have HHM := hid hm1
  have HF1 := hid fr1
  have HW1 := hid hW1
  have hr3 : -100000000000 ≤ left := h.lo
  clear hm1 fr1 h hW1 ku
  go_enter Try.func37, Try.ntmps37
  go_upto_region 1 with fail
  rw [← HW1.out]
  clear k3 u3
  have hl : left - 1 < 0 := by omega
  go_wp2_with fail
  refine bodyPost_ret (results_none rfl _ _ _) rfl ?_
  exact stop_post HHM.out HF1.out (fun h => by omega)
/-- ALL OF THE HUNT: begin, on, decide, for as many steps as one likes -/
theorem hunt_all {C : HC} (hk : HCk C) : ∀ f, f ≤ 10001 → BeginC C f ∧ OnC C f ∧ DecideC C f := by
  intro f
  induction f with
  | zero =>
    intro _
    refine ⟨fun W left out e p caps cv was KW wv he h => ?_, fun W left out e p caps cv was KW wv he h => ?_, fun W left out lb R a s mn mx lz ix nm B up nth p caps cv was KW wv he hm h => ?_⟩
    · exact begin_stop hk he rfl h (by have := h.fuel; omega)
    · exact on_stop h (by have := h.fuel; omega)
    · exact decide_stop hk he rfl h (by have := h.fuel; omega)
  | succ f ih =>
    intro hf
    obtain ⟨hB, hO, hD⟩ := ih (by omega)
    have hB := hid hB
    have hO := hid hO
    have hD := hid hD
    have hf' : f ≤ 10000 := by omega
    refine ⟨fun W left out e p caps cv was KW wv he h => ?_, fun W left out e p caps cv was KW wv he h => ?_, decide56 hk hB hO hf'⟩
    · obtain ⟨⟨lb, k, R, a, s, mn, mx, lz, ix, nm⟩, B, up, nth⟩ := e
      rcases (node_fine (hk.fine _ he)).kind with rfl | rfl | rfl | rfl | rfl | rfl | rfl
      · exact begin_1 hk hB hO hD hf' he h
      · exact begin_2 hk hB hO hD hf' he h
      · exact begin_3 hk hB hO hD hf' he h
      · exact begin_4 hk hB hO hD hf' he h
      · exact begin_5 hk hB hO hD hf' he h
      · exact begin_6 hk hB hO hD hf' he h
      · exact begin_7 hk hB hO hD hf' he h
    · rcases hk.par e he with ⟨hu, hb⟩ | ⟨q, hq, i, hi, rfl⟩
      · obtain ⟨⟨lb, k, R, a, s, mn, mx, lz, ix, nm⟩, B, up, nth⟩ := e
        simp only at hu hb
        subst hb
        exact on_root hk hf' he (by omega) (by omega) h
      · obtain ⟨⟨lb, k, R, a, s, mn, mx, lz, ix, nm⟩, B, up, nth⟩ := q
        exact on_up hk hB hO hD hf' hq (by simpa [Lt.sub] using hi) h
end Go.Proofs.Ytnpocciioedgpaa
/- HELPERS: the hunt over the places that were laid: it is ready; what it finds. -/
namespace Go.Proofs.Ytnpocciioedgpaa
open Go.RowKit
set_option linter.unusedVariables false
set_option linter.unusedSimpArgs false
theorem hunt_ready {t : Tn} {A : Nat → Prop} {hb B0 K tn tcap p : Nat} {w : World} {ad : Option Addr} {tx : List Int} {v : Value} {QS : List Pq} (hf : t.fine = true) (hsz : t.sz ≤ 2000)
    (hL : LM hb B0 (.slice ad tn tcap) (.int .i64 (p : Int)) (.int .i64 4000) (.slice none 0 0) w v QS) (hA : ∀ b, A b → b < B0 ∧ b ≠ hb) (hQ : A2 (Lq A w) QS ((t.spread.num 0).ents (.once 1 .through) (-1) 0)) (htx : Look.TextAt hb w ad tn tx) (htn : tn ≤ 64) (hK : (K : Int) = 2 * t.gi + 2) :
    ∃ C : HC, C.hb = hb ∧ C.NB = w.heap.size ∧ C.tx = tx ∧ C.E = (t.spread.num 0).env ∧ C.K = K ∧ C.tn = tn ∧ C.frm = (p : Int) ∧ C.L = (t.spread.num 0).ents (.once 1 .through) (-1) 0 ∧ HM C w 4000 [] ∧ HCk C := by
  obtain ⟨f1, f2⟩ := spread_ok t hf
  have h3 := spread_nodes t hf
  obtain ⟨q1, q2⟩ := fine_gi t hf
  have hlen := hQ.len
  rw [ents_len] at hlen
  have hpos : 0 < QS.length := by
    rw [hlen]
    cases t.spread
    simp only [Tn.nodes]
    omega
  have hbl := (Array.getElem?_eq_some_iff.1 hL.box).1
  obtain ⟨pb, pc, rfl⟩ := Joins.ownsRow_form hL.row hpos
  refine ⟨⟨hb, w.heap.size, pb, QS.length, pc, tn, tcap, ad, (p : Int), tx, (t.spread.num 0).ents (.once 1 .through) (-1) 0, (t.spread.num 0).env, K⟩, rfl, rfl, rfl, rfl, rfl, rfl, rfl, rfl, ?_, ?_⟩
  · refine ⟨⟨_, hL.box, [], [], World.ownsRow_nil _ _ _ _, .nil⟩, Nat.le_refl _, hbl, ?_, ?_, htx, by simp⟩
    · rcases hL.row.2 with ⟨e, _⟩ | ⟨g, cap, cur, e, _, hg, _⟩
      · cases e
      · simp only [Value.slice.injEq, Option.some.injEq, Addr.mk.injEq] at e
        obtain ⟨⟨rfl, _⟩, _⟩ := e
        exact ⟨cur, hg⟩
    · intro e he
      obtain ⟨j, hj, rfl⟩ := List.getElem_of_mem he
      obtain ⟨hl, hq⟩ := hQ.get j hj
      have hlb := ents_at t.spread 0 (.once 1 .through) (-1) 0 j hj
      rw [Nat.zero_add] at hlb
      obtain ⟨sa, sc, hsv⟩ := hq.sv
      have hP := hL.at j hl
      rw [hsv, hq.up, hq.nth] at hP
      have hR := hq.rw
      rw [hsv] at hR
      refine ⟨QS[j].M, sa, sc, hq.tp.kept (fun _ _ => rfl) (fun b hb' => ⟨?_, (hA b hb').2⟩), ?_, hR⟩
      · have := (hA b hb').1
        have := hL.bs
        show b < w.heap.size
        omega
      · show P12 w pb _ _ _ _ _
        rw [hlb]
        exact hP
  · refine hck_of f1 rfl (env_eo (num_nodup _ _) (num_sf _ 0 f2)) hlen (by omega) htn htx.1 ⟨by show 2 ≤ K; omega, by show K ≤ 1002; omega⟩ ?_
    have := (spread_gi t hf t.gi q1).1 (Int.le_refl _)
    show 2 * t.spread.gi + 1 < (K : Int)
    omega
theorem hunt_done {t : Tn} {A : Nat → Prop} {hb B0 K tn tcap p : Nat} {w : World} {ad : Option Addr} {tx : List Int} {v cv : Value} {QS : List Pq} {l : List (Int × List Int)} (hf : t.fine = true) (hsz : t.sz ≤ 2000)
    (hL : LM hb B0 (.slice ad tn tcap) (.int .i64 (p : Int)) (.int .i64 4000) (.slice none 0 0) w v QS) (hA : ∀ b, A b → b < B0 ∧ b ≠ hb) (hQ : A2 (Lq A w) QS ((t.spread.num 0).ents (.once 1 .through) (-1) 0)) (htx : Look.TextAt hb w ad tn tx) (htn : tn ≤ 64) (hK : (K : Int) = 2 * t.gi + 2) (hp : p ≤ tn) (hc : Rw w cv (List.replicate K (-1))) (hPS : PS t K tx p l) :
    Calls Try.prog 18 #[.pointer (some ⟨hb, 0, none⟩), .int .i64 0, .int .i64 (p : Int), cv, .slice none 0 0] w fun e w' => e = .returned (.tuple #[]) ∧ ∃ c0 c1 c2 left v out, w'.heap[hb]? = some (.cells #[c0, c1, c2, .int .i64 left, v] 42 (0, 0)) ∧ Parsed w.heap.size w' v out ∧ (0 ≤ left → out = l) ∧ (-100000000000 ≤ left ∧ left ≤ 4000) ∧ w'.os = w.os ∧ w'.tape = w.tape ∧ w'.output = w.output ∧ w.heap.size ≤ w'.heap.size ∧ ∀ b, b < w.heap.size → b ≠ hb → w'.heap[b]? = w.heap[b]? := by
  obtain ⟨C, e1, e2, e3, e4, e5, e6, e7, e8, hm, hk⟩ := hunt_ready hf hsz hL hA hQ htx htn hK
  have h1 := (hunt_all hk 4001 (by omega)).1 w 4000 [] ⟨t.spread.num 0, .once 1 .through, -1, 0⟩ p (List.replicate K (-1)) cv [] [] (.slice none 0 0) (by rw [e8]; exact ents_root _ _ _ _)
    ⟨hm, by rw [e6]; exact hp, hc, by simp [e5], .inl ⟨rfl, rfl⟩, KR.nil, by omega, by omega, ⟨by simp, by simp⟩⟩
  simp only [num_lb] at h1
  rw [e1] at h1
  refine h1.mono ?_
  rintro e w' ⟨rfl, left, out, hM, h2, h3, h4, hfr⟩
  obtain ⟨v', hb', hP⟩ := hM.box
  rw [e1] at hb'
  rw [e2] at hP
  have h3' := h3 (by omega)
  refine ⟨rfl, _, _, _, left, v', out, hb', hP, fun h0 => ?_, ⟨by have := h3'.2; simp only [LBv] at this; omega, by omega⟩, hfr.os, hfr.tape, hfr.output, hfr.size, fun b hb1 hb2 => hfr.low b (by rw [e2]; exact hb1) (by rw [e1]; exact hb2)⟩
  have hx := h4 h0
  rw [e3, e4, e7] at hx
  exact hunt_is hf (by omega) hPS (by have := htx.1; omega) hx
end Go.Proofs.Ytnpocciioedgpaa
namespace Go.Proofs.Ytnpocciioedgpaa
open Go.RowKit
set_option linter.unusedVariables false
set_option linter.unusedSimpArgs false
theorem lt_cell {w : World} {b o : Nat} {v : Value} (h : w.cell? ⟨b, o, none⟩ = some v) : b < w.heap.size := by
  by_cases hb : b < w.heap.size
  · exact hb
  · simp [World.cell?, Array.getElem?_eq_none (Nat.le_of_not_lt hb)] at h
theorem below_drew1 (w : World) : Below w.heap.size w w.drew := ⟨rfl, rfl, rfl, Nat.le_refl _, fun _ _ => rfl⟩
theorem text_lt {N : Nat} {w : World} {ad : Option Addr} {n : Nat} {l : List Int} (h : Look.TextAt N w ad n l) (hN : N ≤ w.heap.size) : Look.TextAt w.heap.size w ad n l := by
  obtain ⟨h1, h2, h | ⟨b, off, ha, hb, hc⟩⟩ := h
  · exact ⟨h1, h2, .inl h⟩
  · exact ⟨h1, h2, .inr ⟨b, off, ha, by omega, hc⟩⟩
set_option maxRecDepth 100000 in
set_option maxHeartbeats 4000000 in
theorem sameInts41 (L : List Int) (a1 a2 : Option Addr) (n c1 c2 : Nat) (w : World) (h1 : Look.TextAt w.heap.size w a1 n L) (h2 : Look.TextAt w.heap.size w a2 n L) :
    Calls Try.prog 41 #[.slice a1 n c1, .slice a2 n c2] w fun e w' => e = .returned (.bool true) ∧ Below w.heap.size w w' := by
  have hm : n ≤ 35184372088832 := h1.2.1
  have H1 := hid h1
  have H2 := hid h2
  have hnn : ((n : Int) != (n : Int)) = false := by simp
  clear h1 h2
  go_enter Try.func41, Try.ntmps41
  go_wp2_with fail
  go_loopw [5] (fun y wq => ∃ i : Nat, y = .int .i64 (i : Int) ∧ i ≤ n ∧ Hid (Below w.heap.size w wq)) (fun y _ => n - (intOf y).toNat)
  case atStart => exact ⟨0, rfl, by omega, hid (Below.refl _ _)⟩
  case round =>
    obtain ⟨i, rfl, hi, HB⟩ := hrel
    by_cases hlt : i < n
    · have b1 : decide ((i : Int) < (n : Int)) = true := by simp; omega
      have b2 : (i : Int) < (n : Int) := by omega
      have ad1 : IntKind.i64.wrap ((i : Int) + 1) = (i : Int) + 1 := by simp [IntKind.wrap, IntKind.bits, IntKind.signed]; omega
      obtain ⟨x, xo, rfl, -, hx⟩ := text_cell (H1.out.below HB.out) hlt
      obtain ⟨z, zo, rfl, -, hz⟩ := text_cell (H2.out.below HB.out) hlt
      obtain ⟨c, hc⟩ : ∃ c, c = L.getD i 0 := ⟨_, rfl⟩
      rw [← hc] at hx hz
      have g1 : (c != c) = false := by simp
      have HB2 := hid (HB.out.trans (Joins.below_le (below_drew1 wr) HB.out.size))
      clear hc
      go_wp2_with fail
      go_region
      all_goals
        go_wp2_with fail
        exact ⟨⟨i + 1, by push_cast; rfl, by omega, HB2⟩, by simp [intOf]; omega⟩
    · have b1 : decide ((i : Int) < (n : Int)) = false := by simp; omega
      go_wp2_with fail
      go_ret
      exact ⟨rfl, HB.out⟩
/-- a parse's captures, as a row that may be read -/
theorem Parsed.row {N : Nat} {w : World} {v : Value} {l : List (Int × List Int)} (h : Parsed N w v l) (i : Nat) (hi : i < l.length) (hl : l[i].2.length ≤ 35184372088832) : ∃ b cap ad c, v = .slice (some ⟨b, 0, none⟩) l.length cap ∧ w.cell? ⟨b, i * 2, none⟩ = some (.int .i64 l[i].1) ∧ w.cell? ⟨b, i * 2 + 1, none⟩ = some (.slice ad l[i].2.length c) ∧ Look.TextAt w.heap.size w ad l[i].2.length l[i].2 := by
  obtain ⟨cs, F, h1, h2⟩ := h
  obtain ⟨cv, h3, h4⟩ := h2.caps i hi
  have h5 := h2.ends i hi
  rcases Joins.ownsRow_forms h1 with ⟨_, e⟩ | ⟨b, cap, e⟩
  · omega
  · subst e
    obtain ⟨ad, c, rfl, _, ht⟩ := own_text h4 hl
    have hcs := h1.1
    refine ⟨b, cap, ad, c, rfl, ?_, ?_, ht⟩
    · rw [h1.cellAt (i * 2) (by omega), h5]
    · rw [h1.cellAt (i * 2 + 1) (by omega), h3]
theorem en41 : ∀ (args : Array Value) (w : World), (callFunc 41 args).run Try.prog w = .ok (.enter 41 args) w := enter_of Try.func41 (by kernel_rfl) rfl
set_option maxRecDepth 100000 in
set_option maxHeartbeats 4000000 in
theorem same19 {N1 N2 : Nat} (l : List (Int × List Int)) (v1 v2 : Value) (w : World) (h1 : Parsed N1 w v1 l) (h2 : Parsed N2 w v2 l) (hl : l.length ≤ 1000000) (hc : ∀ x ∈ l, x.2.length ≤ 1000000) :
    Calls Try.prog 19 #[v1, v2] w fun e w' => e = .returned (.bool true) ∧ Below w.heap.size w w' := by
  obtain ⟨a1, c1, rfl⟩ := h1.form
  obtain ⟨a2, c2, rfl⟩ := h2.form
  obtain ⟨n, hn⟩ : ∃ n, n = l.length := ⟨_, rfl⟩
  have HN := hid hn
  have H1 := hid h1
  have H2 := hid h2
  have HCC := hid hc
  rw [← hn] at hl ⊢
  have hnn : ((n : Int) != (n : Int)) = false := by simp
  clear h1 h2 hc hn
  go_enter Try.func19, Try.ntmps19
  go_wp2_with fail
  go_loopw [5] (fun y wq => ∃ i : Nat, y = .int .i64 (i : Int) ∧ i ≤ n ∧ Hid (Below w.heap.size w wq)) (fun y _ => n - (intOf y).toNat)
  case atStart => exact ⟨0, rfl, by omega, hid (Below.refl _ _)⟩
  case round =>
    obtain ⟨i, rfl, hi, HB⟩ := hrel
    by_cases hlt : i < n
    · have b1 : decide ((i : Int) < (n : Int)) = true := by simp; omega
      have b2 : (i : Int) < (n : Int) := by omega
      have ad1 : IntKind.i64.wrap ((i : Int) + 1) = (i : Int) + 1 := by simp [IntKind.wrap, IntKind.bits, IntKind.signed]; omega
      have hil : i < l.length := by rw [← HN.out]; exact hlt
      have hcl := HCC.out l[i] (List.getElem_mem hil)
      have K1 : ∀ V, Below w.heap.size w V → ∃ b ad c, a1 = some ⟨b, 0, none⟩ ∧ V.cell? ⟨b, i * 2, none⟩ = some (.int .i64 l[i].1) ∧ V.cell? ⟨b, i * 2 + 1, none⟩ = some (.slice ad l[i].2.length c) ∧ Look.TextAt V.heap.size V ad l[i].2.length l[i].2 := fun V hV => by
        obtain ⟨b, cap, ad, c, e, x1, x2, x3⟩ := (H1.out.kept hV).row i hil (by omega)
        simp only [Value.slice.injEq] at e
        exact ⟨b, ad, c, e.1, x1, x2, x3⟩
      have K2 : ∀ V, Below w.heap.size w V → ∃ b ad c, a2 = some ⟨b, 0, none⟩ ∧ V.cell? ⟨b, i * 2, none⟩ = some (.int .i64 l[i].1) ∧ V.cell? ⟨b, i * 2 + 1, none⟩ = some (.slice ad l[i].2.length c) ∧ Look.TextAt V.heap.size V ad l[i].2.length l[i].2 := fun V hV => by
        obtain ⟨b, cap, ad, c, e, x1, x2, x3⟩ := (H2.out.kept hV).row i hil (by omega)
        simp only [Value.slice.injEq] at e
        exact ⟨b, ad, c, e.1, x1, x2, x3⟩
      obtain ⟨p, ad, cc, rfl, x1, x2, x3⟩ := K1 wr HB.out
      obtain ⟨q, ad2, cc2, rfl, y1, y2, y3⟩ := K2 wr HB.out
      obtain ⟨m, hm⟩ : ∃ m, m = l[i].2.length := ⟨_, rfl⟩
      obtain ⟨e, he⟩ : ∃ e, e = l[i].1 := ⟨_, rfl⟩
      rw [← hm] at x2 y2 x3 y3
      rw [← he] at x1 y1
      have HC := sameInts41 l[i].2 ad ad2 m cc cc2 wr.drew x3 y3
      have HS : Hid (∀ V, Below wr.heap.size wr V → (V.cell? ⟨p, i * 2, none⟩ = some (.int .i64 e) ∧ V.cell? ⟨q, i * 2, none⟩ = some (.int .i64 e)) ∧ V.cell? ⟨p, i * 2 + 1, none⟩ = some (.slice ad m cc) ∧ V.cell? ⟨q, i * 2 + 1, none⟩ = some (.slice ad2 m cc2)) := fun V hV => by
        have hp := lt_cell x1
        have hq := lt_cell y1
        exact ⟨⟨(cell_eq (hV.block p hp) _).trans x1, (cell_eq (hV.block q hq) _).trans y1⟩, (cell_eq (hV.block p hp) _).trans x2, (cell_eq (hV.block q hq) _).trans y2⟩
      have g1 : (e != e) = false := by simp
      clear hm he x3 y3 K1 K2 hcl
      go_upto_region 6 with fail
      refine wp_region_lexF [0, 1, 2, 3, 4, 5, 6, 7, 8, 9] [10, 11] (fun W => W.cell? ⟨p, i * 2 + 1, none⟩ = some (.slice ad m cc) ∧ W.cell? ⟨q, i * 2 + 1, none⟩ = some (.slice ad2 m cc2)) (by kernel_rfl) (by kernel_rfl) rfl (by kernel_rfl) (by kernel_rfl) ⟨x2, y2⟩ ?_
      simp only [opsAt, opsNo, List.getElem?_toArray, List.getElem?_cons_zero, List.getElem?_cons_succ]
      iterate 10
        refine lex_cons ?_ rfl (fun W hW => ?_) (fun _ _ _ h => h) ?_
        rotate_left
        · obtain ⟨s0, s1'⟩ := hW
          go_simp <;> with_reducible rfl
        simp only [Act.put, List.setIfInBounds_toArray, List.set_cons_zero, List.set_cons_succ]
      refine lex_nil (tailK_cons fun K hK => ?_)
      refine step_call2 rfl 41 (.tmp 22) (.tmp 27) 29 29 rfl en41 ?_
      refine HC.mono ?_
      rintro e' w3 ⟨rfl, hb3⟩
      have hb3' : Below wr.heap.size wr w3 := (below_drew1 wr).trans hb3
      obtain ⟨⟨t1, t2⟩, t3⟩ := HS.out w3 hb3'
      refine ⟨_, rfl, hK.out _ _ (fun _ => t3) (tailK_cons fun K hK => ?_)⟩
      simp only [Act.put, List.setIfInBounds_toArray, List.set_cons_zero, List.set_cons_succ]
      go_simp
      refine hK.out _ _ (fun _ => t3) (tailK_nil ?_)
      try simp only [Act.put, List.setIfInBounds_toArray, List.set_cons_zero, List.set_cons_succ]
      have HB3 : Hid (Below w.heap.size w w3) := hid (HB.out.trans (Joins.below_le hb3' HB.out.size))
      have HB4 : Hid (Below w.heap.size w w3.drew) := hid (HB3.out.trans (Joins.below_le (below_drew1 w3) HB3.out.size))
      clear hb3 hb3' HC x1 x2 y1 y2 t3
      go_wp2_with fail
      go_region
      all_goals
        go_wp2_with fail
        exact ⟨⟨i + 1, by push_cast; rfl, by omega, HB4⟩, by simp [intOf]; omega⟩
    · have b1 : decide ((i : Int) < (n : Int)) = false := by simp; omega
      go_wp2_with fail
      go_ret
      exact ⟨rfl, HB.out⟩
end Go.Proofs.Ytnpocciioedgpaa
