/- HELPERS: Ob, Ma, Ri, Lk, Sp, At, Wy, Wo, Wn, Wi. -/
import Derived.Test.YtnpocciioedgpaaProg
import Derived.WalkKit
import Derived.ProofKit
import Derived.BigQuiet
import Derived.WalkSmall
import Derived.Deep.QuietTactic
import Derived.Deep.RegionWith
import Derived.Lib.SmallJoins
import Derived.Lib.MinMax
import Derived.Maps.AppendAt
import Derived.Laws.AppendOwnNone
import Derived.DeepKeys3
import Derived.MapKept
import Derived.Lib.Small
import Derived.Laws.EntriesVeiled
import Derived.Deep.WholeRow
/- HELPERS: objects in memory of the call's own: what a call leaves of them, and of all else. -/
namespace Go.Proofs.Ytnpocciioedgpaa
open Go.RowKit
set_option linter.unusedVariables false
set_option linter.unusedSimpArgs false
abbrev I64 (l : List Int) : List Value := l.map (Value.int .i64)
theorem info3 : (Try.prog.info? 3).map (fun i => (i.zero, i.size, i.bytes)) = some (some (.int .i64 0), 1, 8) := by kernel_rfl
theorem one_cell_ints (l : List Int) : ∀ u ∈ I64 l, u.oneCell' = true := by
  intro u hu
  obtain ⟨x, _, rfl⟩ := List.mem_map.1 hu
  rfl
theorem ret_bool {a b : Bool} (h : a = b) : Ending.returned (.bool a) = .returned (.bool b) := by rw [h]
theorem ret_int {a b : Int} (h : a = b) : Ending.returned (.int .i64 a) = .returned (.int .i64 b) := by rw [h]
/-- what an append onto an owned row leaves: in its place, or in a new block and nothing else turned -/
def Moved (w w' : World) (v v' : Value) : Prop := (v'.ownBlock = v.ownBlock ∧ w.grownBy w' v.ownBlock) ∨ (v'.ownBlock = some w.heap.size ∧ w.grownBy w' none)
theorem run_append_move {P : Program} (w : World) (base : Nat) (t ty e : TypeId) (i : TypeInfo) (z : Value) (bytes : Nat) (ht : P.underlying t = some (.slice e)) (hi : P.info? e = some i) (hz : i.zero = some z)
    (hsize : i.size = 1) (hby : i.bytes = bytes) (hzs : z.cells.size = 1)
    (v : Value) (n : Nat) (xs : List Value) (hown : w.ownsRow base e 1 v n xs)
    (a : Addr) (m c : Nat) (news : List Value) (hl : news.length = m) (hm : 0 < m) (hnews : ∀ j u, news[j]? = some u → w.cell? (a.add j) = some u) (h1 : ∀ u ∈ news, u.oneCell' = true)
    (h63 : n + m ≤ maxLen) (hbytes : (n + m) * bytes ≤ 140737488355328) (hbase : base ≤ w.heap.size) :
    ∃ v' w', (Builtin.append_ #[t, t] ty #[v, .slice (some a) m c]).run P w = .ok v' w' ∧ w'.ownsRow base e 1 v' (n + m) (xs ++ news) ∧ Moved w w' v v' := by
  obtain ⟨v', w', hrun, h2, h3, h4, h5⟩ := run_append_own_at (P := P) w base t ty e i z 1 bytes ht hi hz hsize hby hzs (by decide) v n xs hown a m c news (by omega) hnews h1 h63 hbytes hbase
  refine ⟨v', w', hrun, h2, ?_⟩
  rcases hown.2 with ⟨rfl, rfl⟩ | ⟨g, cap, cur, rfl, hbg, hg, hnc, hcm, hcs, htake⟩
  · rcases h5 with h5 | h5
    · exact .inl ⟨h5, h3⟩
    · exact .inr ⟨h5, h3⟩
  · by_cases hroom : n + m ≤ cap
    · have hr := run_append_room (P := P) w t ty e i ht hi g n cap cur hg a m c news (by rw [hsize]; omega) hnews h1 hroom (by rw [hsize, hcs]; omega)
      have he := hrun.symm.trans hr
      injection he with e1 e2
      left
      exact ⟨by rw [e1]; rfl, h3⟩
    · have holds : ∀ j u, xs[j]? = some u → w.cell? ((⟨g, 0, none⟩ : Addr).add j) = some u := hown.cells (g := g) rfl
      have hr := run_append_grow (P := P) w t ty e i z ht hi hz ⟨g, 0, none⟩ n cap xs (by rw [hsize]; exact hown.1) holds a m c news (by rw [hsize]; omega) hnews (by omega) (by unfold maxLen at h63; omega) (growslice_fits (by omega) (by rw [hby]; exact hbytes))
      have he := hrun.symm.trans hr
      injection he with e1 e2
      right
      refine ⟨by rw [e1]; rfl, ?_⟩
      rw [e2]
      exact ⟨rfl, rfl, rfl, by simp, fun k hk _ => heap_alloc_old w.drew _ hk⟩
theorem wpList_append_move {P : Program} {w : World} {ops : Array Oper} {rest : List Oper} {o : Oper} {a : Act} {Q : Exit → Act → World → Prop} (hgd : o.guard = none) (s x : Operand) (t : TypeId)
    (ho : o.op = .call { callee := .builtin .append, args := #[s, x], argTypes := #[t, t] })
    (base : Nat) (e : TypeId) (i : TypeInfo) (z : Value) (bytes : Nat) (ht : P.underlying t = some (.slice e)) (hi : P.info? e = some i) (hz : i.zero = some z)
    (hsize : i.size = 1) (hby : i.bytes = bytes) (hzs : z.cells.size = 1)
    (v : Value) (n : Nat) (xs : List Value) (hs : a.eval s = v) (hown : w.ownsRow base e 1 v n xs)
    (ad : Addr) (m c : Nat) (news : List Value) (hx : a.eval x = .slice (some ad) m c) (hl : news.length = m) (hm : 0 < m) (hnews : ∀ j u, news[j]? = some u → w.cell? (ad.add j) = some u) (h1 : ∀ u ∈ news, u.oneCell' = true)
    (h63 : n + m ≤ maxLen) (hbytes : (n + m) * bytes ≤ 140737488355328) (hbase : base ≤ w.heap.size)
    (h : ∀ v' w', Hid (w'.ownsRow base e 1 v' (n + m) (xs ++ news)) → Hid (Moved w w' v v') → wpList P ops Q rest (a.put o.dst v') w') : wpList P ops Q (o :: rest) a w := by
  refine wpList_plain hgd fun K hK => ?_
  obtain ⟨v', w', hr, h2, h3⟩ := run_append_move (P := P) w base t o.type e i z bytes ht hi hz hsize hby hzs v n xs hown ad m c news hl hm hnews h1 h63 hbytes hbase
  unfold Oper.wp execOp
  simp only [ho, resolve, invoke, builtin, Sem.run_bind, Sem.run_pure, Result.andThen_ok, List.map_toArray, List.map_cons, List.map_nil, hs, hx, hr]
  exact hK _ _ (h v' w' h2 h3)
/-- one element, out of the block that was made last -/
theorem wpList_append_one {P : Program} {w : World} {ops : Array Oper} {rest : List Oper} {op : Oper} {a : Act} {Q : Exit → Act → World → Prop} (hgd : op.guard = none) (s x : Operand) (t : TypeId)
    (ho : op.op = .call { callee := .builtin .append, args := #[s, x], argTypes := #[t, t] })
    (base : Nat) (e : TypeId) (z : Value) (bytes : Nat) (ht : P.underlying t = some (.slice e)) (hi : (P.info? e).map (fun i => (i.zero, i.size, i.bytes)) = some (some z, 1, bytes)) (hzs : z.cells.size = 1)
    (v u : Value) (n c : Nat) (xs : List Value) (hs : a.eval s = v) (hown : w.ownsRow base e 1 v n xs)
    (G : Nat) (hG : G = w.heap.size) (hx : a.eval x = .slice (some ⟨G, 0, none⟩) 1 c) (h1 : u.oneCell' = true)
    (h63 : n + 1 ≤ maxLen) (hbytes : (n + 1) * bytes ≤ 140737488355328) (hbase : base ≤ w.heap.size)
    (h : ∀ v' w', Hid (w'.ownsRow base e 1 v' (n + 1) (xs ++ [u])) → Hid (Moved (w.alloc (.cells #[u] e)) w' v v') → wpList P ops Q rest (a.put op.dst v') w') : wpList P ops Q (op :: rest) a (w.alloc (.cells #[u] e)) := by
  subst hG
  obtain ⟨i0, hi, hz0, hz1, hz2⟩ := info_parts hi
  refine wpList_append_move hgd s x t ho base e i0 z bytes ht hi hz0 hz1 hz2 hzs v n xs hs (hown.alloc _) ⟨w.heap.size, 0, none⟩ 1 c [u] hx rfl (by decide) ?_ ?_ h63 hbytes (by simp; omega) h
  · intro j y hj
    match j, hj with
    | 0, hj => simp at hj; subst hj; simp [Addr.add]
  · intro y hy; simp at hy; subst hy; exact h1
/-- what a call turned: the blocks of F alone; what stands for them now are they, or new ones -/
structure Chg (w w' : World) (F F' : List Nat) : Prop where
  os : w'.os = w.os
  tape : w'.tape = w.tape
  output : w'.output = w.output
  size : w.heap.size ≤ w'.heap.size
  block : ∀ k, k < w.heap.size → k ∉ F → w'.heap[k]? = w.heap[k]?
  new : ∀ k, k ∈ F' → k ∈ F ∨ w.heap.size ≤ k
theorem Chg.below {B : Nat} {w w' : World} {F F' : List Nat} (h : Chg w w' F F') (hB : B ≤ w.heap.size) (hF : ∀ k ∈ F, B ≤ k) : Below B w w' :=
  ⟨h.os, h.tape, h.output, h.size, fun k hk => h.block k (by omega) (fun hm => by have := hF k hm; omega)⟩
theorem Chg.low {B : Nat} {w w' : World} {F F' : List Nat} (h : Chg w w' F F') (hB : B ≤ w.heap.size) (hF : ∀ k ∈ F, B ≤ k) : ∀ k ∈ F', B ≤ k := fun k hk => by
  rcases h.new k hk with h | h
  · exact hF k h
  · omega
theorem Chg.row {w w' : World} {F F' : List Nat} {base e size n : Nat} {v : Value} {xs : List Value} (h : Chg w w' F F') (ho : w.ownsRow base e size v n xs) (hd : ∀ k, v.ownBlock = some k → k ∉ F) : w'.ownsRow base e size v n xs := by
  refine ⟨ho.1, ?_⟩
  rcases ho.2 with hn | ⟨g, cap, cur, rfl, hb, hgg, rest⟩
  · exact .inl hn
  · refine .inr ⟨g, cap, cur, rfl, hb, ?_, rest⟩
    rw [h.block g (Array.getElem?_eq_some_iff.1 hgg).1 (hd g rfl)]
    exact hgg
theorem Chg.away {w w' : World} {F F' G : List Nat} (h : Chg w w' F F') (hG : ∀ k ∈ G, k < w.heap.size) (hd : ∀ k ∈ G, k ∉ F) : ∀ k ∈ G, k ∉ F' := fun k hk hm => by
  rcases h.new k hm with h | h
  · exact hd k hk h
  · have := hG k hk; omega
theorem Chg.of_below {w w' : World} {F : List Nat} (h : Below w.heap.size w w') : Chg w w' F F := ⟨h.os, h.tape, h.output, h.size, fun k hk _ => h.block k hk, fun k hk => .inl hk⟩
theorem chg_moved {w w1 : World} {o : Obj} {v v' : Value} (hm : Moved (w.alloc o) w1 v v') (G : List Nat) : Chg w w1 (G ++ v.ownBlock.toList) (G ++ v'.ownBlock.toList) := by
  rcases hm with ⟨he, h⟩ | ⟨he, h⟩
  · refine ⟨h.os, h.tape, h.output, by have := h.size; simp at this; omega, fun k hk hn => (h.block k (by simp; omega) (fun e => hn (by simp [← e]))).trans (heap_alloc_old w _ hk), fun k hk => ?_⟩
    rw [he] at hk
    exact .inl hk
  · refine ⟨h.os, h.tape, h.output, by have := h.size; simp at this; omega, fun k hk hn => (h.block k (by simp; omega) (by simp)).trans (heap_alloc_old w _ hk), fun k hk => ?_⟩
    rw [he] at hk
    simp at hk
    rcases hk with hk | hk
    · exact .inl (by simp [hk])
    · exact .inr (by omega)
theorem Chg.set {w w' : World} {F F' : List Nat} (h : Chg w w' F F') {a : Addr} (u : Value) (ha : a.block ∈ F) : Chg w (w'.setCell a u) F F' :=
  ⟨h.os, h.tape, h.output, by have := h.size; simp [World.setCell]; exact this, fun k hk hn => (Below.heap_setCell _ _ _ _ (fun e => hn (by rw [e]; exact ha))).trans (h.block k hk hn), h.new⟩
theorem Chg.drew {w w' : World} {F F' : List Nat} (h : Chg w w' F F') : Chg w w'.drew F F' := ⟨h.os, h.tape, h.output, h.size, h.block, h.new⟩
theorem Chg.setNew {w w' : World} {F F' : List Nat} (h : Chg w w' F F') {a : Addr} (u : Value) (ha : w.heap.size ≤ a.block) : Chg w (w'.setCell a u) F F' :=
  ⟨h.os, h.tape, h.output, by have := h.size; simp [World.setCell]; exact this, fun k hk hn => (Below.heap_setCell _ _ _ _ (by omega)).trans (h.block k hk hn), h.new⟩
theorem own_setCell {w : World} {base e size n : Nat} {v u : Value} {xs : List Value} {a : Addr} (h : w.ownsRow base e size v n xs) (hne : v.ownBlock ≠ some a.block) : (w.setCell a u).ownsRow base e size v n xs := by
  refine ⟨h.1, ?_⟩
  rcases h.2 with hn | ⟨g, cap, cur, rfl, hb, hgg, rest⟩
  · exact .inl hn
  · refine .inr ⟨g, cap, cur, rfl, hb, ?_, rest⟩
    rw [Below.heap_setCell _ _ _ _ (fun e => hne (by simp [Value.ownBlock, e]))]
    exact hgg
/-- two blocks of other types are two blocks -/
theorem own_ne {w : World} {base e size n g : Nat} {v : Value} {xs : List Value} {c : Array Value} {t : TypeId} {fr : Nat × Nat} (ho : w.ownsRow base e size v n xs) (hg : w.heap[g]? = some (.cells c t fr)) (ht : t ≠ e) : v.ownBlock ≠ some g := by
  intro h
  rcases ho.2 with ⟨rfl, _⟩ | ⟨b, cap, cur, rfl, hb, hgg, rest⟩
  · simp [Value.ownBlock] at h
  · simp [Value.ownBlock] at h
    subst h
    rw [hgg] at hg
    simp at hg
    exact ht hg.2.1.symm
theorem row_dropped {w : World} {base e n b cap : Nat} {u : Value} {xs : List Value} (h : w.ownsRow base e 1 (.slice (some ⟨b, 0, none⟩) (n + 1) cap) (n + 1) (xs ++ [u])) : w.ownsRow base e 1 (.slice (some ⟨b, 0, none⟩) n cap) n xs := by
  have hl : xs.length = n := by have := h.1; simp at this; omega
  refine ⟨by omega, .inr ?_⟩
  rcases h.2 with ⟨h, _⟩ | ⟨g, cap', cur, he, hb, hgg, h1, h2, h3, h4⟩
  · cases h
  · simp only [Value.slice.injEq, Option.some.injEq, Addr.mk.injEq] at he
    obtain ⟨⟨rfl, _⟩, _, rfl⟩ := he
    refine ⟨b, cap, cur, rfl, hb, hgg, by omega, h2, h3, ?_⟩
    have := congrArg (List.take n) h4
    rw [List.take_take] at this
    rw [show n * 1 = min n ((n + 1) * 1) by omega, this, List.take_left' hl]
theorem row_blanked {w : World} {base e n b cap : Nat} {u : Value} {xs : List Value} (h : w.ownsRow base e 1 (.slice (some ⟨b, 0, none⟩) n cap) n xs) (j : Nat) (hj : n ≤ j) (hj2 : j < cap) : (w.setCell ⟨b, j, none⟩ u).ownsRow base e 1 (.slice (some ⟨b, 0, none⟩) n cap) n xs := by
  refine ⟨h.1, .inr ?_⟩
  rcases h.2 with ⟨h, _⟩ | ⟨g, cap', cur, he, hb, hgg, h1, h2, h3, h4⟩
  · cases h
  · simp only [Value.slice.injEq, Option.some.injEq, Addr.mk.injEq] at he
    obtain ⟨⟨rfl, _⟩, _, rfl⟩ := he
    refine ⟨b, cap, cur.setIfInBounds j u, rfl, hb, Joins.block_setCell hgg u, h1, h2, by simpa using h3, ?_⟩
    rw [← h4]
    simp only [Array.toList_setIfInBounds]
    rw [List.take_set_of_le (by omega)]
theorem row_cap {w : World} {base e n b cap : Nat} {xs : List Value} (h : w.ownsRow base e 1 (.slice (some ⟨b, 0, none⟩) n cap) n xs) : n ≤ cap ∧ cap ≤ 9223372036854775807 := by
  rcases h.2 with ⟨h, _⟩ | ⟨g, cap', cur, he, hb, hgg, h1, h2, h3, h4⟩
  · cases h
  · simp only [Value.slice.injEq, Option.some.injEq, Addr.mk.injEq] at he
    obtain ⟨⟨rfl, _⟩, _, rfl⟩ := he
    unfold maxLen at h2
    omega
end Go.Proofs.Ytnpocciioedgpaa
/- HELPERS: the map of what was done. -/
namespace Go.Proofs.Ytnpocciioedgpaa
open Go.RowKit Go.WideMaps
set_option linter.unusedVariables false
set_option linter.unusedSimpArgs false
abbrev dk (a b : Int) : Value := .agg #[.int .i64 a, .int .i64 b]
theorem law_of {P : Program} {k : TypeId} {fs : Array Field} (hu : P.underlying k = some (.struct fs)) (h1 : P.keyTypeAt 2 k = true) (h2 : P.tiled 2 k = true) : KeyLaw P k := deep_law (by decide : 2 + 1 ≤ 10000) h1 h2 (by rw [hu])
theorem key108 : Try.prog.keyTypeAt 2 108 = true := by kernel_rfl
theorem tiled108 : Try.prog.tiled 2 108 = true := by kernel_rfl
theorem law108 : KeyLaw Try.prog 108 := law_of Try.underlying108 key108 tiled108
theorem keyType108 : Try.prog.keyType 108 = true := by kernel_rfl
theorem size_types : Try.prog.types.size = 149 + 1 := by kernel_rfl
theorem cells108 : Try.prog.cellsOf 108 = 2 := by kernel_rfl
theorem cells3 : Try.prog.cellsOf 3 = 1 := by kernel_rfl
theorem keyOf_two {P : Program} {k e : TypeId} {f0 f1 : Field} {m : Nat} (hu : P.underlying k = some (.struct #[f0, f1])) (e0 : f0.type = e) (e1 : f1.type = e) (o0 : f0.offset = 0) (o1 : f1.offset = 1) (n0 : (f0.name != "_") = true) (n1 : (f1.name != "_") = true)
    (he : P.underlying e = some (.int .i64)) (hc : P.cellsOf k = 2) (hce : P.cellsOf e = 1) (hkt : P.keyType k = true) (hsz : P.types.size = m + 1) (a b : Int) (wa : (Lit.int .i64 a).wf = true) (wb : (Lit.int .i64 b).wf = true) :
    keyOf P k (dk a b) = some (.string (keyBytes [.int .i64 a, .int .i64 b])) := by
  unfold keyOf
  simp only [hu]
  rw [if_pos (by simp [hkt, Value.formed, hu, hc]), hsz]
  unfold Program.keyLits
  simp only [hu, Value.cells]
  rw [if_pos (by simp [hc, n0, n1])]
  simp [Program.keyLits, e0, e1, o0, o1, hce, he, wa, wb]
theorem key_dk (a b : Int) (wa : (Lit.int .i64 a).wf = true) (wb : (Lit.int .i64 b).wf = true) : keyOf Try.prog 108 (dk a b) = some (.string (keyBytes [.int .i64 a, .int .i64 b])) :=
  keyOf_two (m := 149) Try.underlying108 rfl rfl rfl rfl rfl rfl Try.underlying3 cells108 cells3 keyType108 size_types a b wa wb
theorem zero109 (w : World) : (zeroValue 109).run Try.prog w = .ok (.agg #[]) w := by kernel_rfl
def wf2 (x : Int × Int) : Prop := (Lit.int .i64 x.1).wf = true ∧ (Lit.int .i64 x.2).wf = true
/-- the map in block b holds just these pairs, in the order in which they came -/
def MP (w : World) (b : Nat) (D : List (Int × Int)) : Prop := ∃ es clock, w.heap[b]? = some (.map es clock) ∧ es.toList.map (·.key) = D.map (fun x => dk x.1 x.2) ∧ (∀ x ∈ es.toList, x.val = .agg #[]) ∧ ∀ x ∈ D, wf2 x
theorem MP.keys {D : List (Int × Int)} {es : List MapEntry} (h : es.map (·.key) = D.map (fun x => dk x.1 x.2)) (hD : ∀ x ∈ D, wf2 x) : ∀ e ∈ es, ∃ l, keyOf Try.prog 108 e.key = some l := by
  intro e he
  have : e.key ∈ D.map (fun x => dk x.1 x.2) := by rw [← h]; exact List.mem_map_of_mem he
  obtain ⟨x, hx, e1⟩ := List.mem_map.1 this
  rw [← e1]
  exact ⟨_, key_dk _ _ (hD x hx).1 (hD x hx).2⟩
theorem dk_inj {a b c d : Int} (h : dk a b = dk c d) : a = c ∧ b = d := by simpa using h
theorem MP.look {w : World} {b : Nat} {D : List (Int × Int)} (h : MP w b D) (a p : Int) (hw : wf2 (a, p)) : (Instr.lookup 82 (.map (some b)) (dk a p) true).run Try.prog w = .ok (.tuple #[.agg #[], .bool (decide ((a, p) ∈ D))]) w := by
  obtain ⟨es, clock, hb, hk, hv, hD⟩ := h
  have hkey := key_dk a p hw.1 hw.2
  rcases law108.find w hkey es.toList (MP.keys hk hD) with ⟨h1, h2⟩ | ⟨j, e0, h1, h2, h3⟩
  · have hn : decide ((a, p) ∈ D) = false := by
      rw [decide_eq_false_iff_not]
      intro hm
      have : dk a p ∈ es.toList.map (·.key) := by rw [hk]; exact List.mem_map.2 ⟨_, hm, rfl⟩
      obtain ⟨e, he, e1⟩ := List.mem_map.1 this
      exact h2 e he e1
    rw [hn]
    simp [Instr.lookup, run_underlying Try.underlying82, MapKept.run_getObj_map hb, law108.check w _ hkey, h1, zero109, Result.andThen]
  · have hm : e0 ∈ es.toList := List.mem_of_getElem? h2
    have hn : decide ((a, p) ∈ D) = true := by
      rw [decide_eq_true_eq]
      have : e0.key ∈ D.map (fun x => dk x.1 x.2) := by rw [← hk]; exact List.mem_map_of_mem hm
      obtain ⟨x, hx, e1⟩ := List.mem_map.1 this
      rw [h3] at e1
      obtain ⟨rfl, rfl⟩ := dk_inj e1
      exact hx
    rw [hn]
    simp [Instr.lookup, run_underlying Try.underlying82, MapKept.run_getObj_map hb, law108.check w _ hkey, h1, hv e0 hm, Result.andThen]
def putB (w : World) (b : Nat) (o : Obj) : World := { w with heap := w.heap.setIfInBounds b o }
theorem putB_size (w : World) (b : Nat) (o : Obj) : (putB w b o).heap.size = w.heap.size := by simp [putB]
theorem putB_other (w : World) {b k : Nat} (o : Obj) (h : k ≠ b) : (putB w b o).heap[k]? = w.heap[k]? := by
  simp only [putB]
  rw [Array.getElem?_setIfInBounds_ne (fun e => h e.symm)]
theorem MP.put {w : World} {b : Nat} {D : List (Int × Int)} (h : MP w b D) (a p : Int) (hw : wf2 (a, p)) (hn : (a, p) ∉ D) : ∃ o, (Instr.mapUpdate 82 (.map (some b)) (dk a p) (.agg #[])).run Try.prog w = .ok () (putB w b o) ∧ MP (putB w b o) b (D ++ [(a, p)]) := by
  obtain ⟨es, clock, hb, hk, hv, hD⟩ := h
  have hkey := key_dk a p hw.1 hw.2
  rcases law108.find w hkey es.toList (MP.keys hk hD) with ⟨h1, h2⟩ | ⟨j, e0, h1, h2, h3⟩
  · refine ⟨Obj.map (es.push ⟨dk a p, .agg #[], clock⟩) (clock + 1), ?_, es.push ⟨dk a p, .agg #[], clock⟩, clock + 1, ?_, ?_, ?_, ?_⟩
    · simp [Instr.mapUpdate, run_underlying Try.underlying82, MapKept.run_getObj_map hb, law108.check w false hkey, h1, MapKept.run_setObj_map _ hb, Result.andThen, putB]
    · have := (Array.getElem?_eq_some_iff.1 hb).1
      simp [putB, this]
    · simp [hk]
    · intro x hx
      simp only [Array.toList_push, List.mem_append, List.mem_singleton] at hx
      rcases hx with hx | rfl
      · exact hv x hx
      · rfl
    · intro x hx
      simp only [List.mem_append, List.mem_singleton] at hx
      rcases hx with hx | rfl
      · exact hD x hx
      · exact hw
  · exfalso
    have hm : e0 ∈ es.toList := List.mem_of_getElem? h2
    have : e0.key ∈ D.map (fun x => dk x.1 x.2) := by rw [← hk]; exact List.mem_map_of_mem hm
    obtain ⟨x, hx, e1⟩ := List.mem_map.1 this
    rw [h3] at e1
    obtain ⟨rfl, rfl⟩ := dk_inj e1
    exact hn hx
end Go.Proofs.Ytnpocciioedgpaa
/- HELPERS: runes.Right and runes.Has. -/
namespace Go.Proofs.Ytnpocciioedgpaa
open Go.RowKit Go.Lib
set_option linter.unusedVariables false
set_option linter.unusedSimpArgs false
def hasB (L : List (Int × Int)) (r : Int) : Bool := L.any fun g => decide (g.1 ≤ r) && decide (r ≤ g.2)
def dom (r : Int) : Bool := decide (0 ≤ r ∧ r < 55296 ∨ 57343 < r ∧ r ≤ 1114111)
theorem dom41 (r : Int) (w : World) : Calls Try.prog 100 #[.int .i64 r] w fun e w' => e = .returned (.bool (dom r)) ∧ w' = w := by
  go_enter Try.func100, Try.ntmps100
  go_wp2
  all_goals go_ret
  all_goals exact ⟨ret_bool (by rw [Bool.eq_iff_iff]; simp [dom]; omega), rfl⟩
/-- a slice value whose cells hold ranges, in a block below N -/
def RowAt (N : Nat) (w : World) (v : Value) (L : List (Int × Int)) : Prop := ∃ ad cap, v = .slice ad L.length cap ∧ (L.length = 0 ∨ ∃ b off, ad = some ⟨b, off, none⟩ ∧ b < N ∧
  (∀ k, k < L.length → w.cell? ⟨b, off + k * 2, none⟩ = some (.int .i64 (L.getD k (0, 0)).1)) ∧ (∀ k, k < L.length → w.cell? ⟨b, off + k * 2 + 1, none⟩ = some (.int .i64 (L.getD k (0, 0)).2)))
theorem RowAt.below {N N' B : Nat} {w w' : World} {v : Value} {L : List (Int × Int)} (h : RowAt N w v L) (hb : Below B w w') (hB : N ≤ B) (hN : N ≤ N') : RowAt N' w' v L := by
  obtain ⟨ad, cap, hv, h | ⟨b, off, ha, hbN, h0, h1⟩⟩ := h
  · exact ⟨ad, cap, hv, .inl h⟩
  · exact ⟨ad, cap, hv, .inr ⟨b, off, ha, by omega, fun k hk => (hb.cell (p := ⟨b, off + k * 2, none⟩) (by show b < B; omega)).trans (h0 k hk), fun k hk => (hb.cell (p := ⟨b, off + k * 2 + 1, none⟩) (by show b < B; omega)).trans (h1 k hk)⟩⟩
def gapB (g : Int × Int) : Bool := decide (g.1 < 55296 ∧ 57343 < g.2)
def okG (least : Int) (g : Int × Int) : Bool := decide (least ≤ g.1) && decide (g.1 ≤ g.2) && dom g.1 && dom g.2 && !gapB g
def rightFrom : Int → List (Int × Int) → Bool
  | _, [] => true
  | least, g :: t => okG least g && rightFrom (g.2 + 2) t
def rightB (L : List (Int × Int)) : Bool := decide (L.length ≤ 5000) && rightFrom 0 L
theorem drop_consR (L : List (Int × Int)) (k : Nat) (h : k < L.length) : L.drop k = L.getD k (0, 0) :: L.drop (k + 1) := by
  rw [List.drop_eq_getElem_cons h]; simp [h]
theorem gap46 (lo hi : Int) (w : World) : Calls Try.prog 101 #[.agg #[.int .i64 lo, .int .i64 hi]] w fun e w' => e = .returned (.bool (gapB (lo, hi))) ∧ w' = w.alloc (.cells #[.int .i64 lo, .int .i64 hi] 70) := by
  go_enter Try.func101, Try.ntmps101
  go_wp2
  all_goals go_ret
  all_goals exact ⟨ret_bool (by rw [Bool.eq_iff_iff]; simp [gapB]; omega), rfl⟩
set_option maxHeartbeats 2000000 in
set_option maxRecDepth 1000000 in
theorem right_short (L : List (Int × Int)) (ad : Option Addr) (n cap : Nat) (w : World) (hn : Hid (n = L.length)) (hS : n ≤ 5000) (hl : Hid (RowAt w.heap.size w (.slice ad n cap) L)) :
    Calls Try.prog 76 #[.slice ad n cap] w fun e w' => e = .returned (.bool (rightFrom 0 L)) ∧ Below w.heap.size w w' := by
  go_enter Try.func76, Try.ntmps76
  go_wp2
  go_loopw [3, 11] (fun lv i wr => ∃ (k : Nat) (ls : Int), k ≤ n ∧ 0 ≤ ls ∧ ls ≤ 1114113 ∧ lv = .int .i64 ls ∧ i = .int .i64 k ∧ Below w.heap.size w wr ∧ Hid (rightFrom 0 L = rightFrom ls (L.drop k)))
    (fun _ i _ => n - (intOf i).toNat)
  case atStart => exact ⟨0, 0, by omega, by omega, by omega, rfl, rfl, Below.refl _ _, by exact rfl⟩
  case round =>
    obtain ⟨k, ls, hk, hs0, hs1, rfl, rfl, hbw, HR⟩ := hrel
    have hsz := hbw.size
    by_cases hlt : k < n
    · obtain ⟨ad', cap', he, h | ⟨b, off, rfl, hbN, hc0, hc1⟩⟩ := hl.out
      · exact absurd h (by rw [← hn.out]; omega)
      · have hn' := hn.out
        simp only [Value.slice.injEq] at he
        obtain ⟨rfl, -, rfl⟩ := he
        have d0 := (hbw.cell (p := ⟨b, off + k * 2, none⟩) hbN).trans (hc0 k (by omega))
        have d1 := (hbw.cell (p := ⟨b, off + k * 2 + 1, none⟩) hbN).trans (hc1 k (by omega))
        have hdr := drop_consR L k (by omega)
        have hR := HR.out
        rw [hdr] at hR
        generalize L.getD k (0, 0) = g at d0 d1 hR
        obtain ⟨lo, hi⟩ := g
        simp only at d0 d1
        have HR2 : Hid (rightFrom 0 L = (okG ls (lo, hi) && rightFrom (hi + 2) (L.drop (k + 1)))) := hR
        clear hdr hR HR hc0 hc1 hn'
        have hd0 := dom41 lo
        have hd1 := dom41 hi
        have hgp := gap46 lo hi
        generalize ho : okG ls (lo, hi) = ok at HR2
        have hok : ok = (decide (ls ≤ lo) && decide (lo ≤ hi) && dom lo && dom hi && !gapB (lo, hi)) := ho.symm
        clear ho
        generalize h3 : dom lo = e3 at hd0 hok
        generalize h4 : dom hi = e4 at hd1 hok
        generalize h5 : gapB (lo, hi) = e5 at hgp hok
        have H4 : Hid (dom hi = e4) := h4
        clear h3 h4 h5
        have HOK : Hid (ok = (decide (ls ≤ lo) && decide (lo ≤ hi) && e3 && e4 && !e5)) := hok
        clear hok
        by_cases g1 : ls ≤ lo
        · by_cases g2 : lo ≤ hi
          · cases e3
            · have hE : Hid (rightFrom 0 L = false) := by show rightFrom 0 L = _; rw [HR2.out, HOK.out]; simp
              go_wp2_with (first | (go_at_call_of 41 (.int .i64 lo); refine (hd0 _).mono ?_; rintro e w' ⟨rfl, rfl⟩) | (go_at_call 100; refine (hd0 _).mono ?_; rintro e w' ⟨rfl, rfl⟩))
              go_ret
              exact ⟨ret_bool hE.out.symm, hbw.alloc hsz _⟩
            · cases e4
              · have hE : Hid (rightFrom 0 L = false) := by show rightFrom 0 L = _; rw [HR2.out, HOK.out]; simp
                go_wp2_with fail
                refine (hd0 _).mono ?_
                rintro e w' ⟨rfl, rfl⟩
                go_wp2_with fail
                refine (hd1 _).mono ?_
                rintro e w' ⟨rfl, rfl⟩
                go_wp2
                go_ret
                exact ⟨ret_bool hE.out.symm, hbw.alloc hsz _⟩
              · cases e5
                · have hE : Hid (rightFrom 0 L = rightFrom (hi + 2) (L.drop (k + 1))) := by show rightFrom 0 L = _; rw [HR2.out, HOK.out]; simp [g1, g2]
                  obtain ⟨hh0, hh1⟩ : 0 ≤ hi ∧ hi ≤ 1114111 := by have := H4.out; simp [dom] at this; omega
                  go_wp2_with fail
                  refine (hd0 _).mono ?_
                  rintro e w' ⟨rfl, rfl⟩
                  go_wp2_with fail
                  refine (hd1 _).mono ?_
                  rintro e w' ⟨rfl, rfl⟩
                  go_wp2_with fail
                  refine (hgp _).mono ?_
                  rintro e w' ⟨rfl, rfl⟩
                  go_wp2
                  go_roundw
                  case rel => exact ⟨k + 1, hi + 2, by omega, by omega, by omega, rfl, by go_num, (hbw.alloc hsz _).alloc (by simp; omega) _, hE⟩
                  case measure => simp [intOf]; omega
                · have hE : Hid (rightFrom 0 L = false) := by show rightFrom 0 L = _; rw [HR2.out, HOK.out]; simp
                  go_wp2_with fail
                  refine (hd0 _).mono ?_
                  rintro e w' ⟨rfl, rfl⟩
                  go_wp2_with fail
                  refine (hd1 _).mono ?_
                  rintro e w' ⟨rfl, rfl⟩
                  go_wp2_with fail
                  refine (hgp _).mono ?_
                  rintro e w' ⟨rfl, rfl⟩
                  go_wp2
                  go_ret
                  exact ⟨ret_bool hE.out.symm, (hbw.alloc hsz _).alloc (by simp; omega) _⟩
          · have hE : Hid (rightFrom 0 L = false) := by show rightFrom 0 L = _; rw [HR2.out, HOK.out]; simp [g2]
            clear hd0 hd1 hgp
            go_wp2
            go_ret
            exact ⟨ret_bool hE.out.symm, hbw.alloc hsz _⟩
        · have hE : Hid (rightFrom 0 L = false) := by show rightFrom 0 L = _; rw [HR2.out, HOK.out]; simp [g1]
          clear hd0 hd1 hgp
          go_wp2
          go_ret
          exact ⟨ret_bool hE.out.symm, hbw.alloc hsz _⟩
    · obtain rfl : k = n := by omega
      have hE : Hid (rightFrom 0 L = true) := by
        show rightFrom 0 L = _
        rw [HR.out, List.drop_of_length_le (by rw [← hn.out]; exact Nat.le_refl _)]; rfl
      clear HR
      go_wp2
      go_ret
      exact ⟨ret_bool hE.out.symm, hbw⟩
set_option maxHeartbeats 1000000 in
theorem right_long (L : List (Int × Int)) (ad : Option Addr) (n cap : Nat) (w : World) (hS : 5000 < n) (hS2 : n ≤ 17592186044416) :
    Calls Try.prog 76 #[.slice ad n cap] w fun e w' => e = .returned (.bool false) ∧ Below w.heap.size w w' := by
  go_enter Try.func76, Try.ntmps76
  go_wp2
  go_ret
  exact ⟨rfl, Below.refl _ _⟩
theorem right25 (L : List (Int × Int)) (ad : Option Addr) (n cap : Nat) (w : World) (hn : n = L.length) (hS2 : n ≤ 17592186044416) (hl : RowAt w.heap.size w (.slice ad n cap) L) :
    Calls Try.prog 76 #[.slice ad n cap] w fun e w' => e = .returned (.bool (rightB L)) ∧ Below w.heap.size w w' := by
  by_cases h : n ≤ 5000
  · have e : rightB L = rightFrom 0 L := by unfold rightB; rw [← hn]; simp [h]
    rw [e]
    exact right_short L ad n cap w hn h hl
  · have e : rightB L = false := by unfold rightB; rw [← hn]; simp [h]
    rw [e]
    exact right_long L ad n cap w (by omega) hS2
theorem rightB_len {L : List (Int × Int)} (h : rightB L = true) : L.length ≤ 5000 := by unfold rightB at h; rw [Bool.and_eq_true, decide_eq_true_eq] at h; exact h.1
theorem nan52 (a : Int) (w : World) : Calls Try.prog 111 #[.int .i64 a] w fun e w' => e = .returned (.bool false) ∧ w' = w := by
  go_enter Try.func111, Try.ntmps111
  go_wp2
  go_ret
  exact ⟨ret_bool (by simp), rfl⟩
theorem cmp51 (a b : Int) (w : World) : Calls Try.prog 108 #[.int .i64 a, .int .i64 b] w fun e w' => e = .returned (.int .i64 (Lib.compareInt a b)) ∧ w' = w := by
  go_enter Try.func108, Try.ntmps108
  go_wp2_with (go_at_call 111; (with_reducible refine (nan52 _ _).mono ?_); rintro e w' ⟨rfl, rfl⟩)
  all_goals go_ret
  all_goals exact ⟨ret_int (by unfold Lib.compareInt; (repeat' split) <;> omega), rfl⟩
set_option maxHeartbeats 1000000 in
theorem closure50 (lo hi r : Int) (W : World) : Calls Try.prog 107 #[.agg #[.int .i64 lo, .int .i64 hi], .int .i64 r] W fun e w' => e = .returned (.int .i64 (Lib.compareInt hi r)) ∧ Below W.heap.size W w' := by
  have hcon := fun W' => cmp51 hi r W'
  generalize Lib.compareInt hi r = c at hcon ⊢
  go_enter Try.func107, Try.ntmps107
  go_wp2_with (go_at_call 108; refine (hcon _).mono ?_; rintro e w' ⟨rfl, rfl⟩)
  go_ret
  exact ⟨rfl, (Below.refl _ _).alloc (Nat.le_refl _) _⟩
theorem cmp_lt (a b : Int) : Lib.compareInt a b < 0 ↔ a < b := by
  unfold Lib.compareInt
  by_cases h1 : a < b
  · simp [h1]
  · by_cases h2 : b < a <;> simp [h1, h2]
set_option maxHeartbeats 3000000 in
set_option maxRecDepth 1000000 in
theorem bs49 (L : List (Int × Int)) (ad : Option Addr) (n cap : Nat) (r : Int) (w : World) (hn : Hid (n = L.length)) (hl : Hid (RowAt w.heap.size w (.slice ad n cap) L)) (hS : n ≤ 5000) :
    Calls Try.prog 106 #[.slice ad n cap, .int .i64 r, .func (.func 107) #[] #[]] w fun e w' => ∃ (i : Nat) (f : Bool), e = .returned (.tuple #[.int .i64 i, .bool f]) ∧ Below w.heap.size w w' ∧ i ≤ n ∧ (i = 0 ∨ (L.getD (i - 1) (0, 0)).2 < r) ∧ (i = n ∨ r ≤ (L.getD i (0, 0)).2) := by
  go_enter Try.func106, Try.ntmps106
  go_wp2
  go_loopw [9, 10] (fun a b wr => ∃ (i j : Nat), a = .int .i64 i ∧ b = .int .i64 j ∧ i ≤ j ∧ j ≤ n ∧ Below w.heap.size w wr ∧ Hid ((i = 0 ∨ (L.getD (i - 1) (0, 0)).2 < r) ∧ (j = n ∨ r ≤ (L.getD j (0, 0)).2)))
    (fun a b _ => (intOf b).toNat - (intOf a).toNat)
  case atStart => exact ⟨0, n, rfl, rfl, by omega, by omega, Below.refl _ _, by exact ⟨.inl rfl, .inl rfl⟩⟩
  case round =>
    obtain ⟨i, j, rfl, rfl, hij, hjn, hbw, HR⟩ := hrel
    have hsz := hbw.size
    by_cases hlt : i < j
    · obtain ⟨ad', cap', he, h | ⟨b, off, rfl, hbN, hc0, hc1⟩⟩ := hl.out
      · exact absurd h (by rw [← hn.out]; omega)
      · have hn' := hn.out
        simp only [Value.slice.injEq] at he
        obtain ⟨rfl, -, rfl⟩ := he
        have hm1 : i ≤ (i + j) / 2 := by omega
        have hm2 : (i + j) / 2 < j := by omega
        have d0 := (hbw.cell (p := ⟨b, off + (i + j) / 2 * 2, none⟩) hbN).trans (hc0 ((i + j) / 2) (by omega))
        have d1 := (hbw.cell (p := ⟨b, off + (i + j) / 2 * 2 + 1, none⟩) hbN).trans (hc1 ((i + j) / 2) (by omega))
        generalize hg : L.getD ((i + j) / 2) (0, 0) = g at d0 d1
        obtain ⟨lo, hi⟩ := g
        simp only at d0 d1
        have HG : Hid (L.getD ((i + j) / 2) (0, 0) = (lo, hi)) := hg
        clear hg hc0 hc1 hn'
        have hcl := closure50 lo hi r
        have hcmp := cmp_lt hi r
        generalize Lib.compareInt hi r = c at hcl hcmp
        by_cases hc : c < 0
        · have HX : Hid (hi < r) := hcmp.1 hc
          clear hcmp
          go_wp2_with (go_at_call 107; refine (hcl _).mono ?_; rintro e w2 ⟨rfl, hb2⟩)
          go_roundw
          case rel => exact ⟨(i + j) / 2 + 1, j, by go_num, rfl, by omega, by omega, hbw.trans (hb2.mono hsz), by exact ⟨.inr (by rw [Nat.add_sub_cancel, HG.out]; exact HX.out), HR.out.2⟩⟩
          case measure => simp [intOf]; omega
        · have HX : Hid (r ≤ hi) := by show r ≤ hi; have := mt hcmp.2 hc; omega
          clear hcmp
          go_wp2_with (go_at_call 107; refine (hcl _).mono ?_; rintro e w2 ⟨rfl, hb2⟩)
          go_roundw
          case rel => exact ⟨i, (i + j) / 2, rfl, by go_num, by omega, by omega, hbw.trans (hb2.mono hsz), by exact ⟨HR.out.1, .inr (by rw [HG.out]; exact HX.out)⟩⟩
          case measure => simp [intOf]; omega
    · obtain rfl : i = j := by omega
      by_cases hin : i < n
      · obtain ⟨ad', cap', he, h | ⟨b, off, rfl, hbN, hc0, hc1⟩⟩ := hl.out
        · exact absurd h (by rw [← hn.out]; omega)
        · have hn' := hn.out
          simp only [Value.slice.injEq] at he
          obtain ⟨rfl, -, rfl⟩ := he
          have d0 := (hbw.cell (p := ⟨b, off + i * 2, none⟩) hbN).trans (hc0 i (by omega))
          have d1 := (hbw.cell (p := ⟨b, off + i * 2 + 1, none⟩) hbN).trans (hc1 i (by omega))
          generalize L.getD i (0, 0) = g at d0 d1
          obtain ⟨lo, hi⟩ := g
          simp only at d0 d1
          clear hc0 hc1 hn'
          have hcl := closure50 lo hi r
          generalize Lib.compareInt hi r = c at hcl
          go_wp2_with (go_at_call 107; refine (hcl _).mono ?_; rintro e w2 ⟨rfl, hb2⟩)
          go_ret2
          exact ⟨i, _, rfl, hbw.trans (hb2.mono hsz), by omega, HR.out.1, HR.out.2⟩
      · go_wp2
        go_ret2
        exact ⟨i, _, rfl, hbw, by omega, HR.out.1, HR.out.2⟩
theorem right_rise (L : List (Int × Int)) : ∀ (ls : Int) (k : Nat), rightFrom ls L = true → k + 1 < L.length → (L.getD k (0, 0)).2 < (L.getD (k + 1) (0, 0)).1 ∧ (L.getD (k + 1) (0, 0)).1 ≤ (L.getD (k + 1) (0, 0)).2 := by
  induction L with
  | nil => intro ls k _ h; simp at h
  | cons a t ih =>
    intro ls k h hk
    simp only [rightFrom, Bool.and_eq_true] at h
    cases k with
    | zero =>
      cases t with
      | nil => simp at hk
      | cons b t =>
        have h2 := h.2
        simp only [rightFrom, okG, Bool.and_eq_true, decide_eq_true_eq] at h2
        have := h2.1.1.1.1.1
        have := h2.1.1.1.1.2
        simp
        omega
    | succ k => simpa using ih _ k h.2 (by simpa using hk)
theorem right_mono (L : List (Int × Int)) (ls : Int) (h : rightFrom ls L = true) : ∀ (d k : Nat), k + d < L.length → (L.getD k (0, 0)).2 ≤ (L.getD (k + d) (0, 0)).2 := by
  intro d
  induction d with
  | zero => intro k _; simp
  | succ d ih =>
    intro k hk
    have h1 := ih k (by omega)
    have h2 := right_rise L ls (k + d) h (by omega)
    have e : k + (d + 1) = k + d + 1 := by omega
    rw [e]
    omega
theorem right_lo (L : List (Int × Int)) (ls : Int) (h : rightFrom ls L = true) (a b : Nat) (hab : a < b) (hb : b < L.length) : (L.getD a (0, 0)).2 < (L.getD b (0, 0)).1 := by
  obtain ⟨d, rfl⟩ := Nat.exists_eq_add_of_le (show a + 1 ≤ b by omega)
  have h1 := right_mono L ls h d a (by omega)
  have h2 := right_rise L ls (a + d) h (by omega)
  have e : a + 1 + d = a + d + 1 := by omega
  rw [e]
  omega
theorem has_search (L : List (Int × Int)) (r : Int) (i : Nat) (h : rightB L = true) (hi : i ≤ L.length) (h0 : i = 0 ∨ (L.getD (i - 1) (0, 0)).2 < r) (h1 : i = L.length ∨ r ≤ (L.getD i (0, 0)).2) :
    hasB L r = (decide (i < L.length) && decide ((L.getD i (0, 0)).1 ≤ r)) := by
  have hr : rightFrom 0 L = true := by unfold rightB at h; rw [Bool.and_eq_true] at h; exact h.2
  have hge : ∀ k (hk : k < L.length), L[k] = L.getD k (0, 0) := fun k hk => by simp [List.getD, hk]
  rw [Bool.eq_iff_iff]
  unfold hasB
  rw [List.any_eq_true]
  simp only [Bool.and_eq_true, decide_eq_true_eq]
  constructor
  · rintro ⟨g, hg, ha, hb⟩
    obtain ⟨k, hk, rfl⟩ := List.getElem_of_mem hg
    rw [hge k hk] at ha hb
    have hki : ¬ k < i := fun hlt => by
      rcases h0 with h0 | h0
      · omega
      · have := right_mono L 0 hr (i - 1 - k) k (by omega)
        rw [show k + (i - 1 - k) = i - 1 by omega] at this
        omega
    have hik : ¬ i < k := fun hlt => by
      rcases h1 with h1 | h1
      · omega
      · have := right_lo L 0 hr i k hlt hk
        omega
    obtain rfl : k = i := by omega
    exact ⟨hk, ha⟩
  · rintro ⟨hk, ha⟩
    refine ⟨L[i], List.getElem_mem hk, ?_⟩
    rw [hge i hk]
    rcases h1 with h1 | h1
    · omega
    · exact ⟨ha, h1⟩
set_option maxHeartbeats 2000000 in
set_option maxRecDepth 1000000 in
theorem has30 (L : List (Int × Int)) (ad : Option Addr) (n cap : Nat) (r : Int) (w : World) (hn : Hid (n = L.length)) (hS2 : n ≤ 17592186044416) (hl : Hid (RowAt w.heap.size w (.slice ad n cap) L)) :
    Calls Try.prog 90 #[.slice ad n cap, .int .i64 r] w fun e w' => e = .returned (.bool (rightB L && hasB L r)) ∧ Below w.heap.size w w' := by
  have hr1 := right25 L ad n cap w hn.out hS2 hl.out
  cases hr : rightB L
  · rw [hr] at hr1
    clear hr
    go_enter Try.func90, Try.ntmps90
    go_wp2_with (go_at_call 76; refine hr1.mono ?_; rintro e w1 ⟨rfl, hb1⟩)
    go_ret
    exact ⟨rfl, hb1⟩
  · rw [hr] at hr1
    have hlen := rightB_len hr
    rw [← hn.out] at hlen
    have HRB : Hid (rightB L = true) := hr
    clear hr
    go_enter Try.func90, Try.ntmps90
    go_wp2_with fail
    refine hr1.mono ?_
    rintro e w1 ⟨rfl, hb1⟩
    have hs1 := hb1.size
    have hb := bs49 L ad n cap r w1 hn (hl.out.below hb1 (Nat.le_refl _) hs1) hlen
    go_wp2_with fail
    refine hb.mono ?_
    rintro e w2 ⟨i, f, rfl, hb2, hin, h0, h1⟩
    have hbw := hb1.trans (hb2.mono hs1)
    have HE : Hid (hasB L r = (decide (i < n) && decide ((L.getD i (0, 0)).1 ≤ r))) := by
      show hasB L r = _
      have := has_search L r i HRB.out (by rw [← hn.out]; exact hin) h0 (by rw [← hn.out]; exact h1)
      rw [← hn.out] at this
      exact this
    clear h0 h1
    by_cases hlt : i < n
    · obtain ⟨ad', cap', he, h | ⟨b, off, rfl, hbN, hc0, hc1⟩⟩ := hl.out
      · exact absurd h (by rw [← hn.out]; omega)
      · have hn' := hn.out
        simp only [Value.slice.injEq] at he
        obtain ⟨rfl, -, rfl⟩ := he
        have d0 := (hbw.cell (p := ⟨b, off + i * 2, none⟩) hbN).trans (hc0 i (by omega))
        have d1 := (hbw.cell (p := ⟨b, off + i * 2 + 1, none⟩) hbN).trans (hc1 i (by omega))
        have hE := HE.out
        generalize L.getD i (0, 0) = g at d0 d1 hE
        obtain ⟨lo, hi⟩ := g
        simp only at d0 d1 hE
        have HE2 : Hid ((true && hasB L r) = decide (lo ≤ r)) := by show _ = _; rw [hE]; simp [hlt]
        clear hE HE hc0 hc1 hn'
        go_wp2
        go_ret
        exact ⟨ret_bool HE2.out.symm, hbw⟩
    · have HE2 : Hid ((true && hasB L r) = false) := by show _ = _; rw [HE.out]; simp [hlt]
      go_wp2
      go_ret
      exact ⟨ret_bool HE2.out.symm, hbw⟩
end Go.Proofs.Ytnpocciioedgpaa
/- HELPERS: the contracts of the small functions of package look: the table of rows, Holds, Word, the methods of a spot. -/
namespace Go.Proofs.Ytnpocciioedgpaa.Look
open Go.RowKit
set_option linter.unusedVariables false
set_option linter.unusedSimpArgs false
/-- a whole array into the block that was made last -/
theorem wpList_store_new {P : Program} {ops : Array Oper} {rest : List Oper} {op : Oper} {a : Act} {w : World} {Q : Exit → Act → World → Prop} (hgd : op.guard = none) (ty : TypeId) (x y : Operand) (ho : op.op = .store ty x y)
    (c c' : Array Value) (hx : a.eval x = .pointer (some ⟨w.heap.size, 0, none⟩)) (hy : a.eval y = .agg c') (hi : (P.info? ty).map (·.size) = some c'.size) (hc : c.size = c'.size) (h1 : c'.all (·.oneCell') = true)
    (h : wpList P ops Q rest (a.put op.dst undef) (w.alloc (.cells c' ty))) : wpList P ops Q (op :: rest) a (w.alloc (.cells c ty)) :=
  wpList_plain hgd fun K hK => by
    unfold Oper.wp execOp
    simp only [ho, hx, hy, Sem.run_bind, Sem.run_pure, Result.andThen_ok, run_storeAt_new w ty c c' hi hc h1]
    exact hK _ _ h
theorem results_cell1 {fn : Func} {p : Tmp} {ty : TypeId} (h : fn.results = #[.cell p ty]) (tmps : Array Value) (P : Program) (w : World) :
    (results fn tmps).run P w = ((asAddr (tmps.getD p undef)).run P w).andThen fun a w₁ => ((loadVar ty a).run P w₁).andThen fun v w₂ => .ok v w₂ := by
  simp only [results, h]
  simp [Sem.run_bind, Result.andThen]
  cases (asAddr (tmps[p]?.getD undef)).run P w with
  | halt h w => rfl
  | ok a w => show (loadVar ty a).run P w = _; cases h : (loadVar ty a).run P w <;> simp [h]
def fv (f : Nat) : Value := .func (.func f) #[] #[]
def rowsV : Array Value := #[.int .i64 1, .int .i64 2, fv 81, .int .i64 2, .int .i64 1, fv 82, .int .i64 4, .int .i64 8, fv 83, .int .i64 8, .int .i64 4, fv 84, .int .i64 16, .int .i64 16, fv 85, .int .i64 32, .int .i64 32, fv 86]
theorem info37 : (Try.prog.info? 96).map (·.size) = some 18 := by kernel_rfl
theorem one37 : (rowsV.all (·.oneCell')) = true := by simp [rowsV, fv, Value.oneCell']
set_option maxRecDepth 100000 in
theorem rows17 (w : World) : Calls Try.prog 62 #[] w fun e w' => e = .returned (.agg rowsV) ∧ w' = w.alloc (.cells rowsV 96) := by
  go_enter Try.func62, Try.ntmps62
  go_wp2_with (refine wpList_store_new rfl 96 (.tmp 0) (.tmp 7) rfl _ rowsV rfl rfl info37 rfl one37 ?_)
  refine bodyPost_ret (v := .agg rowsV) ?_ rfl ⟨rfl, rfl⟩
  rw [results_cell1 Try.results62]
  have h := run_loadVar_new (P := Try.prog) w 96 rowsV 6 95 Try.underlying96 info37
  simp [asAddr, Result.andThen, h, Act.put]
theorem holds13 (x y : Int) (w : World) : Calls Try.prog 92 #[.int .i64 x, .int .i64 y] w fun e w' => e = .returned (.bool (bits .andNot .i64 x y == 0)) ∧ w' = w := by
  go_enter Try.func92, Try.ntmps92
  go_wp2
  go_ret
  exact ⟨rfl, rfl⟩
/-- is a number a rune of the domain -/
def dom (r : Int) : Bool := decide (0 ≤ r ∧ r < 55296 ∨ 57343 < r ∧ r ≤ 1114111)
/-- is a rune one of a word -/
def wordR (r : Int) : Bool := decide (48 ≤ r ∧ r ≤ 57 ∨ 65 ≤ r ∧ r ≤ 90 ∨ 97 ≤ r ∧ r ≤ 122 ∨ r = 95)
theorem dom28 (r : Int) (w : World) : Calls Try.prog 100 #[.int .i64 r] w fun e w' => e = .returned (.bool (dom r)) ∧ w' = w := by
  go_enter Try.func100, Try.ntmps100
  go_wp2
  all_goals go_ret
  all_goals exact ⟨ret_bool (by rw [Bool.eq_iff_iff]; simp [dom]; omega), rfl⟩
theorem word18 (r : Int) (w : World) : Calls Try.prog 57 #[.int .i64 r] w fun e w' => e = .returned (.bool (wordR r)) ∧ w' = w := by
  go_enter Try.func57, Try.ntmps57
  go_wp2
  all_goals go_ret
  all_goals exact ⟨ret_bool (by rw [Bool.eq_iff_iff]; simp [wordR]; omega), rfl⟩
theorem word27 (r : Int) (w : World) : Calls Try.prog 103 #[.int .i64 r] w fun e w' => e = .returned (.bool (wordR r)) ∧ w' = w := by
  have hd := dom28 r w
  by_cases hD : dom r = true
  · rw [hD] at hd
    have hr : 0 ≤ r ∧ r ≤ 1114111 := by simp [dom] at hD; omega
    have hw : IntKind.i32.wrap r = r := by simp [IntKind.wrap, IntKind.bits, IntKind.signed]; omega
    clear hD
    go_enter Try.func103, Try.ntmps103
    go_wp2_with (go_at_call 100; refine hd.mono ?_; rintro e w' ⟨rfl, rfl⟩)
    all_goals go_ret
    all_goals exact ⟨ret_bool (by rw [Bool.eq_iff_iff]; simp [wordR, hw]; omega), rfl⟩
  · have hD' : dom r = false := by simpa using hD
    rw [hD'] at hd
    have hr : wordR r = false := by simp [dom] at hD; simp [wordR]; omega
    rw [hr]
    go_enter Try.func103, Try.ntmps103
    go_wp2_with (go_at_call 100; refine hd.mono ?_; rintro e w' ⟨rfl, rfl⟩)
    go_ret
    exact ⟨rfl, rfl⟩
end Go.Proofs.Ytnpocciioedgpaa.Look
/- HELPERS: the contracts of the methods of a spot: what holds at a place. -/
namespace Go.Proofs.Ytnpocciioedgpaa.Look
open Go.RowKit
set_option linter.unusedVariables false
set_option linter.unusedSimpArgs false
/-- a text in memory, below N -/
def TextAt (N : Nat) (w : World) (ad : Option Addr) (n : Nat) (l : List Int) : Prop :=
  n = l.length ∧ n ≤ 35184372088832 ∧ (n = 0 ∨ ∃ b off, ad = some ⟨b, off, none⟩ ∧ b < N ∧ ∀ k, k < n → w.cell? ⟨b, off + k, none⟩ = some (.int .i64 (l.getD k 0)))
theorem TextAt.below {N : Nat} {w w' : World} {ad : Option Addr} {n : Nat} {l : List Int} (h : TextAt N w ad n l) (hb : Below N w w') : TextAt N w' ad n l := by
  obtain ⟨h1, h2, h | ⟨b, off, ha, hbN, hc⟩⟩ := h
  · exact ⟨h1, h2, .inl h⟩
  · exact ⟨h1, h2, .inr ⟨b, off, ha, hbN, fun k hk => (hb.cell (p := ⟨b, off + k, none⟩) hbN).trans (hc k hk)⟩⟩
theorem TextAt.mono {N M : Nat} {w : World} {ad : Option Addr} {n : Nat} {l : List Int} (h : TextAt N w ad n l) (hNM : N ≤ M) : TextAt M w ad n l := by
  obtain ⟨h1, h2, h | ⟨b, off, ha, hbN, hc⟩⟩ := h
  · exact ⟨h1, h2, .inl h⟩
  · exact ⟨h1, h2, .inr ⟨b, off, ha, by omega, hc⟩⟩
def spot (ad : Option Addr) (n cap : Nat) (p : Int) : Value := .agg #[.slice ad n cap, .int .i64 p]
def begB (p : Nat) : Bool := decide (p = 0)
def endB (l : List Int) (p : Nat) : Bool := decide (p = l.length)
def blB (l : List Int) (p : Nat) : Bool := decide (p = 0) || decide (l.getD (p - 1) 0 = 10)
def elB (l : List Int) (p : Nat) : Bool := decide (p = l.length) || decide (l.getD p 0 = 10)
def waB (l : List Int) (p : Nat) : Bool := decide (0 < p) && wordR (l.getD (p - 1) 0)
def wbB (l : List Int) (p : Nat) : Bool := decide (p < l.length) && wordR (l.getD p 0)
theorem beg19 (ad : Option Addr) (n cap p : Nat) (w : World) : Calls Try.prog 81 #[.agg #[.slice ad n cap, .int .i64 p]] w fun e w' => e = .returned (.bool (begB p)) ∧ Below w.heap.size w w' := by
  go_enter Try.func81, Try.ntmps81
  go_wp2
  go_ret
  exact ⟨ret_bool (by rw [Bool.eq_iff_iff]; simp [begB]), (Below.refl _ _).alloc (Nat.le_refl _) _⟩
theorem end20 (ad : Option Addr) (n cap p : Nat) (l : List Int) (w : World) (hn : n = l.length) : Calls Try.prog 82 #[.agg #[.slice ad n cap, .int .i64 p]] w fun e w' => e = .returned (.bool (endB l p)) ∧ Below w.heap.size w w' := by
  go_enter Try.func82, Try.ntmps82
  go_wp2
  go_ret
  exact ⟨ret_bool (by rw [Bool.eq_iff_iff]; simp [endB, hn]; omega), (Below.refl _ _).alloc (Nat.le_refl _) _⟩
/-- the box of a spot and a cell of its text, behind a call -/
theorem box_cells {w w' : World} {v : Value} {p : Int} (hb : Below (w.alloc (.cells #[v, .int .i64 p] 92)).heap.size (w.alloc (.cells #[v, .int .i64 p] 92)) w') :
    w'.cell? ⟨w.heap.size, 0, none⟩ = some v ∧ w'.cell? ⟨w.heap.size, 1, none⟩ = some (.int .i64 p) ∧ (∀ b o : Nat, b < w.heap.size → w'.cell? ⟨b, o, none⟩ = w.cell? ⟨b, o, none⟩) ∧ Below w.heap.size w w' := by
  refine ⟨(hb.cell (p := ⟨w.heap.size, 0, none⟩) (by simp)).trans ?_, (hb.cell (p := ⟨w.heap.size, 1, none⟩) (by simp)).trans ?_, fun b o ha => (hb.cell (p := ⟨b, o, none⟩) (by simp; omega)).trans ?_, ((Below.refl _ _).alloc (Nat.le_refl _) _).trans (hb.mono (by simp))⟩
  · rw [World.cell?_alloc_at _ _ _ _ rfl]; rfl
  · rw [World.cell?_alloc_at _ _ _ _ rfl]; rfl
  · exact World.cell?_alloc_past _ _ _ (by omega)
set_option maxHeartbeats 1000000 in
theorem bl21 (ad : Option Addr) (n cap p : Nat) (l : List Int) (w : World) (hT : Hid (TextAt w.heap.size w ad n l)) (hp : p ≤ n) : Calls Try.prog 83 #[.agg #[.slice ad n cap, .int .i64 p]] w fun e w' => e = .returned (.bool (blB l p)) ∧ Below w.heap.size w w' := by
  have hbeg := fun w => beg19 ad n cap p w
  by_cases h0 : p = 0
  · subst h0
    have e1 : begB 0 = true := by decide
    have e2 : blB l 0 = true := by simp [blB]
    rw [e1] at hbeg
    rw [e2]
    go_enter Try.func83, Try.ntmps83
    go_wp2_with (go_at_call 81; refine (hbeg _).mono ?_; rintro e w' ⟨rfl, hb⟩)
    go_ret
    exact ⟨rfl, ((Below.refl _ _).alloc (Nat.le_refl _) _).trans (hb.mono (by simp))⟩
  · have e1 : begB p = false := by simp [begB, h0]
    have e2 : blB l p = decide (l.getD (p - 1) 0 = 10) := by simp [blB, h0]
    rw [e1] at hbeg
    rw [e2]
    obtain ⟨hn, hmax, h | ⟨b, off, rfl, hbN, hc⟩⟩ := hT.out
    · omega
    · have d0 := hc (p - 1) (by omega)
      generalize l.getD (p - 1) 0 = x at d0
      clear hc e1 e2 hn
      go_enter Try.func83, Try.ntmps83
      go_wp2_with fail
      refine (hbeg _).mono ?_
      rintro e w' ⟨rfl, hb⟩
      obtain ⟨c0, c1, hk, hb2⟩ := box_cells hb
      have d1 := (hk b (off + (p - 1)) hbN).trans d0
      clear hb hk d0 hbeg
      go_wp2
      go_ret
      exact ⟨ret_bool (by rw [Bool.eq_iff_iff]; simp), hb2⟩
set_option maxHeartbeats 1000000 in
theorem el22 (ad : Option Addr) (n cap p : Nat) (l : List Int) (w : World) (hT : Hid (TextAt w.heap.size w ad n l)) (hp : p ≤ n) : Calls Try.prog 84 #[.agg #[.slice ad n cap, .int .i64 p]] w fun e w' => e = .returned (.bool (elB l p)) ∧ Below w.heap.size w w' := by
  have hend := fun w => end20 ad n cap p l w hT.out.1
  have hn := hT.out.1
  by_cases h0 : p = n
  · subst h0
    have e1 : endB l p = true := by simp [endB, hn]
    have e2 : elB l p = true := by simp [elB, hn]
    rw [e1] at hend
    rw [e2]
    clear hn e1 e2
    go_enter Try.func84, Try.ntmps84
    go_wp2_with (go_at_call 82; refine (hend _).mono ?_; rintro e w' ⟨rfl, hb⟩)
    go_ret
    exact ⟨rfl, ((Below.refl _ _).alloc (Nat.le_refl _) _).trans (hb.mono (by simp))⟩
  · have e1 : endB l p = false := by simp [endB]; omega
    have e2 : elB l p = decide (l.getD p 0 = 10) := by
      have : ¬ p = l.length := by omega
      simp [elB, this]
    rw [e1] at hend
    rw [e2]
    obtain ⟨hn', hmax, h | ⟨b, off, rfl, hbN, hc⟩⟩ := hT.out
    · omega
    · have d0 := hc p (by omega)
      generalize l.getD p 0 = x at d0
      have hp2 : p < n := by omega
      clear hc e1 e2 hn hn'
      go_enter Try.func84, Try.ntmps84
      go_wp2_with fail
      refine (hend _).mono ?_
      rintro e w' ⟨rfl, hb⟩
      obtain ⟨c0, c1, hk, hb2⟩ := box_cells hb
      have d1 := (hk b (off + p) hbN).trans d0
      clear hb hk d0 hend
      go_wp2
      go_ret
      exact ⟨ret_bool (by rw [Bool.eq_iff_iff]; simp), hb2⟩
set_option maxHeartbeats 1000000 in
theorem wa25 (ad : Option Addr) (n cap p : Nat) (l : List Int) (w : World) (hT : Hid (TextAt w.heap.size w ad n l)) (hp : p ≤ n) : Calls Try.prog 104 #[.agg #[.slice ad n cap, .int .i64 p]] w fun e w' => e = .returned (.bool (waB l p)) ∧ Below w.heap.size w w' := by
  have hbeg := fun w => beg19 ad n cap p w
  by_cases h0 : p = 0
  · subst h0
    have e1 : begB 0 = true := by decide
    have e2 : waB l 0 = false := by simp [waB]
    rw [e1] at hbeg
    rw [e2]
    go_enter Try.func104, Try.ntmps104
    go_wp2_with (go_at_call 81; refine (hbeg _).mono ?_; rintro e w' ⟨rfl, hb⟩)
    go_ret
    exact ⟨rfl, ((Below.refl _ _).alloc (Nat.le_refl _) _).trans (hb.mono (by simp))⟩
  · have e1 : begB p = false := by simp [begB, h0]
    have e2 : waB l p = wordR (l.getD (p - 1) 0) := by
      have : 0 < p := by omega
      simp [waB, this]
    rw [e1] at hbeg
    rw [e2]
    obtain ⟨hn, hmax, h | ⟨b, off, rfl, hbN, hc⟩⟩ := hT.out
    · omega
    · have d0 := hc (p - 1) (by omega)
      generalize l.getD (p - 1) 0 = x at d0
      have hword := fun w => word27 x w
      clear hc e1 e2 hn
      generalize wordR x = bx at hword
      go_enter Try.func104, Try.ntmps104
      go_wp2_with fail
      refine (hbeg _).mono ?_
      rintro e w' ⟨rfl, hb⟩
      obtain ⟨c0, c1, hk, hb2⟩ := box_cells hb
      have d1 := (hk b (off + (p - 1)) hbN).trans d0
      clear hb hk d0 hbeg
      go_wp2_with (go_at_call 103; refine (hword _).mono ?_; rintro e w'' ⟨rfl, rfl⟩)
      go_ret
      exact ⟨rfl, hb2⟩
set_option maxHeartbeats 1000000 in
theorem wb26 (ad : Option Addr) (n cap p : Nat) (l : List Int) (w : World) (hT : Hid (TextAt w.heap.size w ad n l)) (hp : p ≤ n) : Calls Try.prog 105 #[.agg #[.slice ad n cap, .int .i64 p]] w fun e w' => e = .returned (.bool (wbB l p)) ∧ Below w.heap.size w w' := by
  have hend := fun w => end20 ad n cap p l w hT.out.1
  have hn := hT.out.1
  by_cases h0 : p = n
  · subst h0
    have e1 : endB l p = true := by simp [endB, hn]
    have e2 : wbB l p = false := by simp [wbB, hn]
    rw [e1] at hend
    rw [e2]
    clear hn e1 e2
    go_enter Try.func105, Try.ntmps105
    go_wp2_with (go_at_call 82; refine (hend _).mono ?_; rintro e w' ⟨rfl, hb⟩)
    go_ret
    exact ⟨rfl, ((Below.refl _ _).alloc (Nat.le_refl _) _).trans (hb.mono (by simp))⟩
  · have e1 : endB l p = false := by simp [endB]; omega
    have e2 : wbB l p = wordR (l.getD p 0) := by
      have : p < l.length := by omega
      simp [wbB, this]
    rw [e1] at hend
    rw [e2]
    obtain ⟨hn', hmax, h | ⟨b, off, rfl, hbN, hc⟩⟩ := hT.out
    · omega
    · have d0 := hc p (by omega)
      generalize l.getD p 0 = x at d0
      have hp2 : p < n := by omega
      have hword := fun w => word27 x w
      clear hc e1 e2 hn hn'
      generalize wordR x = bx at hword
      go_enter Try.func105, Try.ntmps105
      go_wp2_with fail
      refine (hend _).mono ?_
      rintro e w' ⟨rfl, hb⟩
      obtain ⟨c0, c1, hk, hb2⟩ := box_cells hb
      have d1 := (hk b (off + p) hbN).trans d0
      clear hb hk d0 hend
      go_wp2_with (go_at_call 103; refine (hword _).mono ?_; rintro e w'' ⟨rfl, rfl⟩)
      go_ret
      exact ⟨rfl, hb2⟩
end Go.Proofs.Ytnpocciioedgpaa.Look
/- HELPERS: the contract of At. -/
namespace Go.Proofs.Ytnpocciioedgpaa.Look
open Go.RowKit
set_option linter.unusedVariables false
set_option linter.unusedSimpArgs false
def edgeB (l : List Int) (p : Nat) : Bool := waB l p != wbB l p
/-- a world that has grown out of w, with a box of two cells at g -/
def Box (w : World) (g : Nat) (v : Value) (p : Int) (w' : World) : Prop := Below w.heap.size w w' ∧ w'.cell? ⟨g, 0, none⟩ = some v ∧ w'.cell? ⟨g, 1, none⟩ = some (.int .i64 p) ∧ g < w'.heap.size
theorem Box.below {w : World} {g : Nat} {v : Value} {p : Int} {w1 w2 : World} (h : Box w g v p w1) (hb : Below w1.heap.size w1 w2) : Box w g v p w2 :=
  ⟨h.1.trans (hb.mono h.1.size), (hb.cell (p := ⟨g, 0, none⟩) h.2.2.2).trans h.2.1, (hb.cell (p := ⟨g, 1, none⟩) h.2.2.2).trans h.2.2.1, Nat.lt_of_lt_of_le h.2.2.2 hb.size⟩
theorem Box.new (w : World) (v : Value) (p : Int) : Box w w.heap.size v p (w.alloc (.cells #[v, .int .i64 p] 92)) := by
  refine ⟨(Below.refl _ _).alloc (Nat.le_refl _) _, ?_, ?_, by simp⟩
  · rw [World.cell?_alloc_at _ _ _ _ rfl]; rfl
  · rw [World.cell?_alloc_at _ _ _ _ rfl]; rfl
theorem Box.drew {w : World} {g : Nat} {v : Value} {p : Int} {w1 : World} (h : Box w g v p w1) : Box w g v p w1.drew :=
  ⟨h.1.trans ⟨rfl, rfl, rfl, Nat.le_refl _, fun _ _ => rfl⟩, h.2.1, h.2.2.1, h.2.2.2⟩
set_option maxHeartbeats 1000000 in
theorem edge23 (ad : Option Addr) (n cap p : Nat) (l : List Int) (w : World) (hT : Hid (TextAt w.heap.size w ad n l)) (hp : p ≤ n) : Calls Try.prog 85 #[.agg #[.slice ad n cap, .int .i64 p]] w fun e w' => e = .returned (.bool (edgeB l p)) ∧ Below w.heap.size w w' := by
  have h1 := fun w' (hb : Box w w.heap.size (.slice ad n cap) p w') => (wa25 ad n cap p l w' ((hT.out.below hb.1).mono hb.1.size) hp).mono fun e w'' h => (⟨h.1, hb.below h.2⟩ : _ ∧ Box w w.heap.size (.slice ad n cap) p w'')
  have h2 := fun w' (hb : Box w w.heap.size (.slice ad n cap) p w') => (wb26 ad n cap p l w' ((hT.out.below hb.1).mono hb.1.size) hp).mono fun e w'' h => (⟨h.1, hb.below h.2⟩ : _ ∧ Box w w.heap.size (.slice ad n cap) p w'')
  have hB0 := (Box.new w (.slice ad n cap) p).drew
  have he : edgeB l p = (waB l p != wbB l p) := rfl
  generalize edgeB l p = E at he ⊢
  generalize waB l p = A at he h1
  generalize wbB l p = B at he h2
  subst he
  go_enter Try.func85, Try.ntmps85
  go_wp2
  go_region_with (first
    | (go_at_call 104; refine (h1 _ (by assumption)).mono ?_; rintro e w' ⟨rfl, hB⟩; obtain ⟨hb, c0, c1, hg⟩ := id hB)
    | (go_at_call 105; refine (h2 _ (by assumption)).mono ?_; rintro e w' ⟨rfl, hB⟩; obtain ⟨hb, c0, c1, hg⟩ := id hB))
  all_goals go_wp2
  all_goals go_ret
  all_goals exact ⟨rfl, by assumption⟩
set_option maxHeartbeats 1000000 in
theorem noedge24 (ad : Option Addr) (n cap p : Nat) (l : List Int) (w : World) (hT : Hid (TextAt w.heap.size w ad n l)) (hp : p ≤ n) : Calls Try.prog 86 #[.agg #[.slice ad n cap, .int .i64 p]] w fun e w' => e = .returned (.bool (!edgeB l p)) ∧ Below w.heap.size w w' := by
  have h1 := fun w' (hb : Box w w.heap.size (.slice ad n cap) p w') => (edge23 ad n cap p l w' ((hT.out.below hb.1).mono hb.1.size) hp).mono fun e w'' h => (⟨h.1, hb.below h.2⟩ : _ ∧ Box w w.heap.size (.slice ad n cap) p w'')
  have hB0 := (Box.new w (.slice ad n cap) p)
  generalize edgeB l p = E at h1
  go_enter Try.func86, Try.ntmps86
  go_wp2_with (go_at_call 85; refine (h1 _ (by assumption)).mono ?_; rintro e w' ⟨rfl, hB⟩)
  go_ret
  exact ⟨rfl, hB.1⟩
def bI (b : Bool) (x : Int) : Int := if b then x else 0
/-- the sum of the first k of six -/
def sumB (b1 b2 b3 b4 b5 : Bool) : Nat → Int
  | 0 => 0
  | 1 => bI b1 1
  | 2 => bI b1 1 + bI b2 2
  | 3 => bI b1 1 + bI b2 2 + bI b3 4
  | 4 => bI b1 1 + bI b2 2 + bI b3 4 + bI b4 8
  | 5 => bI b1 1 + bI b2 2 + bI b3 4 + bI b4 8 + bI b5 16
  | _ => bI b1 1 + bI b2 2 + bI b3 4 + bI b4 8 + bI b5 16 + bI (!b5) 32
/-- what holds at a place -/
def atP (l : List Int) (p : Nat) : Int := sumB (begB p) (endB l p) (blB l p) (elB l p) (edgeB l p) 6
def atN (l : List Int) (p : Int) : Int := if p < 0 ∨ (l.length : Int) < p then 0 else atP l p.toNat
theorem or_row (b1 b2 b3 b4 b5 : Bool) :
    bits .or .i64 (sumB b1 b2 b3 b4 b5 0) 1 = sumB true b2 b3 b4 b5 1 ∧
    bits .or .i64 (sumB b1 b2 b3 b4 b5 1) 2 = sumB b1 true b3 b4 b5 2 ∧
    bits .or .i64 (sumB b1 b2 b3 b4 b5 2) 4 = sumB b1 b2 true b4 b5 3 ∧
    bits .or .i64 (sumB b1 b2 b3 b4 b5 3) 8 = sumB b1 b2 b3 true b5 4 ∧
    bits .or .i64 (sumB b1 b2 b3 b4 b5 4) 16 = sumB b1 b2 b3 b4 true 5 ∧
    bits .or .i64 (sumB b1 b2 b3 b4 false 5) 32 = sumB b1 b2 b3 b4 false 6 := by
  cases b1 <;> cases b2 <;> cases b3 <;> cases b4 <;> cases b5 <;> decide +kernel
set_option maxRecDepth 100000 in
theorem ix0 (w : World) : (Instr.index 96 (.agg rowsV) (.int .i64 0)).run Try.prog w = .ok (.agg #[.int .i64 1, .int .i64 2, .func (.func 81) #[] #[]]) w := rfl
set_option maxRecDepth 100000 in
theorem ix1 (w : World) : (Instr.index 96 (.agg rowsV) (.int .i64 1)).run Try.prog w = .ok (.agg #[.int .i64 2, .int .i64 1, .func (.func 82) #[] #[]]) w := rfl
set_option maxRecDepth 100000 in
theorem ix2 (w : World) : (Instr.index 96 (.agg rowsV) (.int .i64 2)).run Try.prog w = .ok (.agg #[.int .i64 4, .int .i64 8, .func (.func 83) #[] #[]]) w := rfl
set_option maxRecDepth 100000 in
theorem ix3 (w : World) : (Instr.index 96 (.agg rowsV) (.int .i64 3)).run Try.prog w = .ok (.agg #[.int .i64 8, .int .i64 4, .func (.func 84) #[] #[]]) w := rfl
set_option maxRecDepth 100000 in
theorem ix4 (w : World) : (Instr.index 96 (.agg rowsV) (.int .i64 4)).run Try.prog w = .ok (.agg #[.int .i64 16, .int .i64 16, .func (.func 85) #[] #[]]) w := rfl
set_option maxRecDepth 100000 in
theorem ix5 (w : World) : (Instr.index 96 (.agg rowsV) (.int .i64 5)).run Try.prog w = .ok (.agg #[.int .i64 32, .int .i64 32, .func (.func 86) #[] #[]]) w := rfl
set_option maxHeartbeats 1000000 in
theorem at_in (l : List Int) (ad : Option Addr) (n cap p : Nat) (w : World) (hT : Hid (TextAt w.heap.size w ad n l)) (hp : p ≤ n) (hm : n ≤ 35184372088832) :
    Calls Try.prog 50 #[.slice ad n cap, .int .i64 p] w fun e w' => e = .returned (.int .i64 (atP l p)) ∧ Below w.heap.size w w' := by
  have k0 := fun w' (hb : Box w w.heap.size (.slice ad n cap) p w') => (beg19 ad n cap p w').mono fun e w'' h => (⟨h.1, hb.below h.2, h.2⟩ : _ ∧ Box w w.heap.size (.slice ad n cap) p w'' ∧ Below w'.heap.size w' w'')
  have k1 := fun w' (hb : Box w w.heap.size (.slice ad n cap) p w') => (end20 ad n cap p l w' hT.out.1).mono fun e w'' h => (⟨h.1, hb.below h.2, h.2⟩ : _ ∧ Box w w.heap.size (.slice ad n cap) p w'' ∧ Below w'.heap.size w' w'')
  have k2 := fun w' (hb : Box w w.heap.size (.slice ad n cap) p w') => (bl21 ad n cap p l w' ((hT.out.below hb.1).mono hb.1.size) hp).mono fun e w'' h => (⟨h.1, hb.below h.2, h.2⟩ : _ ∧ Box w w.heap.size (.slice ad n cap) p w'' ∧ Below w'.heap.size w' w'')
  have k3 := fun w' (hb : Box w w.heap.size (.slice ad n cap) p w') => (el22 ad n cap p l w' ((hT.out.below hb.1).mono hb.1.size) hp).mono fun e w'' h => (⟨h.1, hb.below h.2, h.2⟩ : _ ∧ Box w w.heap.size (.slice ad n cap) p w'' ∧ Below w'.heap.size w' w'')
  have k4 := fun w' (hb : Box w w.heap.size (.slice ad n cap) p w') => (edge23 ad n cap p l w' ((hT.out.below hb.1).mono hb.1.size) hp).mono fun e w'' h => (⟨h.1, hb.below h.2, h.2⟩ : _ ∧ Box w w.heap.size (.slice ad n cap) p w'' ∧ Below w'.heap.size w' w'')
  have k5 := fun w' (hb : Box w w.heap.size (.slice ad n cap) p w') => (noedge24 ad n cap p l w' ((hT.out.below hb.1).mono hb.1.size) hp).mono fun e w'' h => (⟨h.1, hb.below h.2, h.2⟩ : _ ∧ Box w w.heap.size (.slice ad n cap) p w'' ∧ Below w'.heap.size w' w'')
  have hB0 := (Box.new w (.slice ad n cap) p)
  have he : atP l p = sumB (begB p) (endB l p) (blB l p) (elB l p) (edgeB l p) 6 := rfl
  generalize atP l p = E at he ⊢
  generalize begB p = b1 at he k0
  generalize endB l p = b2 at he k1
  generalize blB l p = b3 at he k2
  generalize elB l p = b4 at he k3
  generalize edgeB l p = b5 at he k4 k5
  subst he
  have hrows := rows17
  go_enter Try.func50, Try.ntmps50
  go_wp2_with (go_at_call 62; refine (hrows _).mono ?_; rintro e w' ⟨rfl, rfl⟩)
  go_loopw [6, 21] (fun bt i wr => ∃ (k : Nat), k ≤ 6 ∧ i = .int .i64 k ∧ bt = .int .i64 (sumB b1 b2 b3 b4 b5 k) ∧ Box w w.heap.size (.slice ad n cap) p wr) (fun _ i _ => 6 - (intOf i).toNat)
  case atStart => exact ⟨0, by omega, rfl, rfl, hB0.below ((Below.refl _ _).alloc (Nat.le_refl _) _)⟩
  case round =>
    obtain ⟨k, hk, rfl, rfl, hB⟩ := hrel
    by_cases hlt : k < 6
    · have hk6 : k = 0 ∨ k = 1 ∨ k = 2 ∨ k = 3 ∨ k = 4 ∨ k = 5 := by omega
      rcases hk6 with rfl | rfl | rfl | rfl | rfl | rfl
      · obtain ⟨hb, c0, c1, hg⟩ := id hB
        have hix := ix0
        have hor := (or_row b1 b2 b3 b4 b5).1
        cases b1
        · go_wp2_with (go_at_call 81; refine (k0 _ (by exact hB.below ((Below.refl _ _).alloc (Nat.le_refl _) _))).mono ?_; rintro e w' ⟨rfl, hB2, hb2⟩; have r0 : w'.cell? ⟨wr.heap.size, 0, none⟩ = some (.int .i64 1) := (hb2.cell (p := ⟨wr.heap.size, 0, none⟩) (by simp)).trans (by rw [World.cell?_alloc_at _ _ _ _ rfl]; rfl))
          go_roundw
          case rel => exact ⟨1, by omega, by go_num, by simp [sumB, bI], hB2⟩
          case measure => simp [intOf]
        · go_wp2_with (go_at_call 81; refine (k0 _ (by exact hB.below ((Below.refl _ _).alloc (Nat.le_refl _) _))).mono ?_; rintro e w' ⟨rfl, hB2, hb2⟩; have r0 : w'.cell? ⟨wr.heap.size, 0, none⟩ = some (.int .i64 1) := (hb2.cell (p := ⟨wr.heap.size, 0, none⟩) (by simp)).trans (by rw [World.cell?_alloc_at _ _ _ _ rfl]; rfl))
          go_roundw
          case rel => exact ⟨1, by omega, by go_num, by first | rfl | exact congrArg _ hor, hB2⟩
          case measure => simp [intOf]
      · obtain ⟨hb, c0, c1, hg⟩ := id hB
        have hix := ix1
        have hor := (or_row b1 b2 b3 b4 b5).2.1
        cases b2
        · go_wp2_with (go_at_call 82; refine (k1 _ (by exact hB.below ((Below.refl _ _).alloc (Nat.le_refl _) _))).mono ?_; rintro e w' ⟨rfl, hB2, hb2⟩; have r0 : w'.cell? ⟨wr.heap.size, 0, none⟩ = some (.int .i64 2) := (hb2.cell (p := ⟨wr.heap.size, 0, none⟩) (by simp)).trans (by rw [World.cell?_alloc_at _ _ _ _ rfl]; rfl))
          go_roundw
          case rel => exact ⟨2, by omega, by go_num, by simp [sumB, bI], hB2⟩
          case measure => simp [intOf]
        · go_wp2_with (go_at_call 82; refine (k1 _ (by exact hB.below ((Below.refl _ _).alloc (Nat.le_refl _) _))).mono ?_; rintro e w' ⟨rfl, hB2, hb2⟩; have r0 : w'.cell? ⟨wr.heap.size, 0, none⟩ = some (.int .i64 2) := (hb2.cell (p := ⟨wr.heap.size, 0, none⟩) (by simp)).trans (by rw [World.cell?_alloc_at _ _ _ _ rfl]; rfl))
          go_roundw
          case rel => exact ⟨2, by omega, by go_num, by first | rfl | exact congrArg _ hor, hB2⟩
          case measure => simp [intOf]
      · obtain ⟨hb, c0, c1, hg⟩ := id hB
        have hix := ix2
        have hor := (or_row b1 b2 b3 b4 b5).2.2.1
        cases b3
        · go_wp2_with (go_at_call 83; refine (k2 _ (by exact hB.below ((Below.refl _ _).alloc (Nat.le_refl _) _))).mono ?_; rintro e w' ⟨rfl, hB2, hb2⟩; have r0 : w'.cell? ⟨wr.heap.size, 0, none⟩ = some (.int .i64 4) := (hb2.cell (p := ⟨wr.heap.size, 0, none⟩) (by simp)).trans (by rw [World.cell?_alloc_at _ _ _ _ rfl]; rfl))
          go_roundw
          case rel => exact ⟨3, by omega, by go_num, by simp [sumB, bI], hB2⟩
          case measure => simp [intOf]
        · go_wp2_with (go_at_call 83; refine (k2 _ (by exact hB.below ((Below.refl _ _).alloc (Nat.le_refl _) _))).mono ?_; rintro e w' ⟨rfl, hB2, hb2⟩; have r0 : w'.cell? ⟨wr.heap.size, 0, none⟩ = some (.int .i64 4) := (hb2.cell (p := ⟨wr.heap.size, 0, none⟩) (by simp)).trans (by rw [World.cell?_alloc_at _ _ _ _ rfl]; rfl))
          go_roundw
          case rel => exact ⟨3, by omega, by go_num, by first | rfl | exact congrArg _ hor, hB2⟩
          case measure => simp [intOf]
      · obtain ⟨hb, c0, c1, hg⟩ := id hB
        have hix := ix3
        have hor := (or_row b1 b2 b3 b4 b5).2.2.2.1
        cases b4
        · go_wp2_with (go_at_call 84; refine (k3 _ (by exact hB.below ((Below.refl _ _).alloc (Nat.le_refl _) _))).mono ?_; rintro e w' ⟨rfl, hB2, hb2⟩; have r0 : w'.cell? ⟨wr.heap.size, 0, none⟩ = some (.int .i64 8) := (hb2.cell (p := ⟨wr.heap.size, 0, none⟩) (by simp)).trans (by rw [World.cell?_alloc_at _ _ _ _ rfl]; rfl))
          go_roundw
          case rel => exact ⟨4, by omega, by go_num, by simp [sumB, bI], hB2⟩
          case measure => simp [intOf]
        · go_wp2_with (go_at_call 84; refine (k3 _ (by exact hB.below ((Below.refl _ _).alloc (Nat.le_refl _) _))).mono ?_; rintro e w' ⟨rfl, hB2, hb2⟩; have r0 : w'.cell? ⟨wr.heap.size, 0, none⟩ = some (.int .i64 8) := (hb2.cell (p := ⟨wr.heap.size, 0, none⟩) (by simp)).trans (by rw [World.cell?_alloc_at _ _ _ _ rfl]; rfl))
          go_roundw
          case rel => exact ⟨4, by omega, by go_num, by first | rfl | exact congrArg _ hor, hB2⟩
          case measure => simp [intOf]
      · obtain ⟨hb, c0, c1, hg⟩ := id hB
        have hix := ix4
        have hor := (or_row b1 b2 b3 b4 b5).2.2.2.2.1
        cases b5
        · go_wp2_with (go_at_call 85; refine (k4 _ (by exact hB.below ((Below.refl _ _).alloc (Nat.le_refl _) _))).mono ?_; rintro e w' ⟨rfl, hB2, hb2⟩; have r0 : w'.cell? ⟨wr.heap.size, 0, none⟩ = some (.int .i64 16) := (hb2.cell (p := ⟨wr.heap.size, 0, none⟩) (by simp)).trans (by rw [World.cell?_alloc_at _ _ _ _ rfl]; rfl))
          go_roundw
          case rel => exact ⟨5, by omega, by go_num, by simp [sumB, bI], hB2⟩
          case measure => simp [intOf]
        · go_wp2_with (go_at_call 85; refine (k4 _ (by exact hB.below ((Below.refl _ _).alloc (Nat.le_refl _) _))).mono ?_; rintro e w' ⟨rfl, hB2, hb2⟩; have r0 : w'.cell? ⟨wr.heap.size, 0, none⟩ = some (.int .i64 16) := (hb2.cell (p := ⟨wr.heap.size, 0, none⟩) (by simp)).trans (by rw [World.cell?_alloc_at _ _ _ _ rfl]; rfl))
          go_roundw
          case rel => exact ⟨5, by omega, by go_num, by first | rfl | exact congrArg _ hor, hB2⟩
          case measure => simp [intOf]
      · obtain ⟨hb, c0, c1, hg⟩ := id hB
        have hix := ix5
        have hor := (or_row b1 b2 b3 b4 b5).2.2.2.2.2
        cases b5
        · go_wp2_with (go_at_call 86; refine (k5 _ (by exact hB.below ((Below.refl _ _).alloc (Nat.le_refl _) _))).mono ?_; rintro e w' ⟨rfl, hB2, hb2⟩; have r0 : w'.cell? ⟨wr.heap.size, 0, none⟩ = some (.int .i64 32) := (hb2.cell (p := ⟨wr.heap.size, 0, none⟩) (by simp)).trans (by rw [World.cell?_alloc_at _ _ _ _ rfl]; rfl))
          go_roundw
          case rel => exact ⟨6, by omega, by go_num, by first | rfl | exact congrArg _ hor, hB2⟩
          case measure => simp [intOf]
        · go_wp2_with (go_at_call 86; refine (k5 _ (by exact hB.below ((Below.refl _ _).alloc (Nat.le_refl _) _))).mono ?_; rintro e w' ⟨rfl, hB2, hb2⟩; have r0 : w'.cell? ⟨wr.heap.size, 0, none⟩ = some (.int .i64 32) := (hb2.cell (p := ⟨wr.heap.size, 0, none⟩) (by simp)).trans (by rw [World.cell?_alloc_at _ _ _ _ rfl]; rfl))
          go_roundw
          case rel => exact ⟨6, by omega, by go_num, by simp [sumB, bI], hB2⟩
          case measure => simp [intOf]
    · obtain rfl : k = 6 := by omega
      go_wp2
      go_ret
      exact ⟨rfl, hB.1⟩
set_option maxHeartbeats 1000000 in
theorem at_out (l : List Int) (ad : Option Addr) (n cap : Nat) (p : Int) (w : World) (hp : p < 0 ∨ (n : Int) < p) :
    Calls Try.prog 50 #[.slice ad n cap, .int .i64 p] w fun e w' => e = .returned (.int .i64 0) ∧ Below w.heap.size w w' := by
  rcases hp with hp | hp
  · go_enter Try.func50, Try.ntmps50
    go_wp2
    go_ret
    exact ⟨rfl, Below.refl _ _⟩
  · by_cases h0 : p < 0
    · go_enter Try.func50, Try.ntmps50
      go_wp2
      go_ret
      exact ⟨rfl, Below.refl _ _⟩
    · go_enter Try.func50, Try.ntmps50
      go_wp2
      go_ret
      exact ⟨rfl, Below.refl _ _⟩
theorem at10 (l : List Int) (ad : Option Addr) (n cap : Nat) (p : Int) (w : World) (hT : TextAt w.heap.size w ad n l) :
    Calls Try.prog 50 #[.slice ad n cap, .int .i64 p] w fun e w' => e = .returned (.int .i64 (atN l p)) ∧ Below w.heap.size w w' := by
  have hn := hT.1
  by_cases h : p < 0 ∨ (l.length : Int) < p
  · rw [show atN l p = 0 by unfold atN; rw [if_pos h]]
    exact at_out l ad n cap p w (by rw [hn]; exact h)
  · obtain ⟨q, rfl⟩ := Int.eq_ofNat_of_zero_le (show 0 ≤ p by omega)
    rw [show atN l (q : Int) = atP l q by unfold atN; rw [if_neg h]; rfl]
    exact at_in l ad n cap q w hT (by omega) hT.2.1
end Go.Proofs.Ytnpocciioedgpaa.Look
/- HELPERS: ways: what a walk does from a place on, as data; how they lie in memory. -/
namespace Go.Proofs.Ytnpocciioedgpaa
open Go.RowKit
set_option linter.unusedVariables false
set_option linter.unusedSimpArgs false
theorem hid {p : Prop} (h : p) : Hid p := h
abbrev Rng := List (Int × Int)
def encR (x : Int × Int) : List Value := [.int .i64 x.1, .int .i64 x.2]
def fl (L : List (Int × Int)) : List Value := L.flatMap encR
/-- a way -/
inductive Way where
  | through
  | once (n : Int) (d : Way)
  | noted (c : Nat) (d : Way)
  | runeOf (L : Rng) (d : Way)
  | ifHolds (a : Int) (d : Way)
  | inOrder (l : List Way)
  | again (b : Nat)
/-- what was done, what is noted, what came through -/
structure Sg where
  done : List (Int × Int)
  notes : List Int
  parses : List (Int × List Int)
/-- what is asserted holds at a place -/
def heldB (tx : List Int) (a : Int) (p : Nat) : Bool := bits .andNot .i64 a (Look.atN tx (p : Int)) == 0
/-- to go a way from a place -/
inductive Ex (tx : List Int) (E : Nat → Way) : Way → Nat → Sg → Sg → Prop
  | through (p : Nat) (s : Sg) : Ex tx E .through p s { s with parses := s.parses ++ [((p : Int), s.notes.set 1 (p : Int))] }
  | skip {n : Int} {d : Way} {p : Nat} {s : Sg} (h : (n, (p : Int)) ∈ s.done) : Ex tx E (.once n d) p s s
  | once {n : Int} {d : Way} {p : Nat} {s s' : Sg} (h : (n, (p : Int)) ∉ s.done) (hd : Ex tx E d p { s with done := s.done ++ [(n, (p : Int))] } s') : Ex tx E (.once n d) p s s'
  | noted {c : Nat} {d : Way} {p : Nat} {s s' : Sg} (hd : Ex tx E d p { s with notes := s.notes.set c (p : Int) } s') : Ex tx E (.noted c d) p s { s' with notes := s'.notes.set c (s.notes.getD c 0) }
  | over {L : Rng} {d : Way} {p : Nat} {s : Sg} (h : tx.length ≤ p) : Ex tx E (.runeOf L d) p s s
  | other {L : Rng} {d : Way} {p : Nat} {s : Sg} (h : p < tx.length) (hr : (rightB L && hasB L (tx.getD p 0)) = false) : Ex tx E (.runeOf L d) p s s
  | rune {L : Rng} {d : Way} {p : Nat} {s s' : Sg} (h : p < tx.length) (hr : (rightB L && hasB L (tx.getD p 0)) = true) (hd : Ex tx E d (p + 1) s s') : Ex tx E (.runeOf L d) p s s'
  | fails {a : Int} {d : Way} {p : Nat} {s : Sg} (h : heldB tx a p = false) : Ex tx E (.ifHolds a d) p s s
  | holds {a : Int} {d : Way} {p : Nat} {s s' : Sg} (h : heldB tx a p = true) (hd : Ex tx E d p s s') : Ex tx E (.ifHolds a d) p s s'
  | inOrder {l : List Way} {p : Nat} (ss : Nat → Sg) (h : ∀ i (hi : i < l.length), Ex tx E (l[i]'hi) p (ss i) (ss (i + 1))) : Ex tx E (.inOrder l) p (ss 0) (ss l.length)
  | again {b p : Nat} {s s' : Sg} (h : Ex tx E (E b) p s s') : Ex tx E (.again b) p s s'
abbrev pt (b : Nat) : Value := .pointer (some ⟨b, 0, none⟩)
/-- a box of one cell -/
abbrev Bx (w : World) (b : Nat) (t : TypeId) (v : Value) : Prop := w.heap[b]? = some (.cells #[v] t (0, 0))
/-- a row of ranges, wherever it lies; the block -/
def RowIn (w : World) (v : Value) (R : Rng) (G : List Nat) : Prop := (∃ ad cap, v = .slice ad 0 cap ∧ R = [] ∧ G = []) ∨
  ∃ b off cap, v = .slice (some ⟨b, off, none⟩) R.length cap ∧ 0 < R.length ∧ G = [b] ∧ (∀ k, k < R.length → w.cell? ⟨b, off + k * 2, none⟩ = some (.int .i64 (R.getD k (0, 0)).1)) ∧ (∀ k, k < R.length → w.cell? ⟨b, off + k * 2 + 1, none⟩ = some (.int .i64 (R.getD k (0, 0)).2))
theorem RowIn.kept {w w' : World} {v : Value} {R : Rng} {G : List Nat} (h : RowIn w v R G) (hk : ∀ b ∈ G, w'.heap[b]? = w.heap[b]?) : RowIn w' v R G := by
  rcases h with h | ⟨b, off, cap, h1, h2, rfl, h3, h4⟩
  · exact .inl h
  · have e : ∀ o, w'.cell? ⟨b, o, none⟩ = w.cell? ⟨b, o, none⟩ := fun o => by simp only [World.cell?, hk b (by simp)]
    exact .inr ⟨b, off, cap, h1, h2, rfl, fun k hk => (e _).trans (h3 k hk), fun k hk => (e _).trans (h4 k hk)⟩
theorem RowIn.low {w : World} {v : Value} {R : Rng} {G : List Nat} (h : RowIn w v R G) : ∀ k ∈ G, k < w.heap.size := by
  rcases h with ⟨_, _, _, _, rfl⟩ | ⟨b, off, cap, h1, h2, rfl, h3, h4⟩
  · intro k hk; cases hk
  · intro k hk
    simp at hk
    subst hk
    exact World.block_lt_of_cell? _ _ (h3 0 h2)
theorem RowIn.at {w : World} {v : Value} {R : Rng} {G : List Nat} (h : RowIn w v R G) {M : Nat} (hM : w.heap.size ≤ M) : RowAt M w v R := by
  rcases h with ⟨ad, cap, rfl, rfl, _⟩ | ⟨b, off, cap, h1, h2, rfl, h3, h4⟩
  · exact ⟨ad, cap, rfl, .inl rfl⟩
  · exact ⟨_, cap, h1, .inr ⟨b, off, rfl, Nat.lt_of_lt_of_le (World.block_lt_of_cell? _ _ (h3 0 h2)) hM, h3, h4⟩⟩
theorem RowIn.form {w : World} {v : Value} {R : Rng} {G : List Nat} (h : RowIn w v R G) : ∃ s1 s3, v = .slice s1 R.length s3 := by
  rcases h with ⟨ad, cap, rfl, rfl, _⟩ | ⟨b, off, cap, h1, _⟩
  · exact ⟨_, _, rfl⟩
  · exact ⟨_, _, h1⟩
mutual
/-- a value is a way's closure; the blocks in which it lies -/
inductive Rep (g K : Nat) (L : Nat → Prop) (w : World) : Value → Way → List Nat → Prop
  | through : Rep g K L w (.func (.func 55) #[pt g] #[]) .through []
  | once {b5 b2 b3 : Nat} {v : Value} {d : Way} {F : List Nat} {n : Int} (h5 : Bx w b5 3 (.int .i64 n)) (h2 : Bx w b2 60 (pt g)) (h3 : Bx w b3 84 v) (hn : 0 ≤ n ∧ n < 4611686018427387904) (hd : Rep g K L w v d F) :
      Rep g K L w (.func (.func 70) #[] #[pt b5, pt b2, pt b3]) (.once n d) (b5 :: b2 :: b3 :: F)
  | noted {b3 b4 b5 c : Nat} {v : Value} {d : Way} {F : List Nat} (h3 : Bx w b3 60 (pt g)) (h4 : Bx w b4 3 (.int .i64 (c : Int))) (h5 : Bx w b5 84 v) (hc : c < K) (hd : Rep g K L w v d F) :
      Rep g K L w (.func (.func 95) #[] #[pt b3, pt b4, pt b5]) (.noted c d) (b3 :: b4 :: b5 :: F)
  | runeOf {b3 b4 b5 : Nat} {v rv : Value} {d : Way} {F G : List Nat} {R : Rng} (h3 : Bx w b3 60 (pt g)) (h4 : Bx w b4 25 rv) (h5 : Bx w b5 84 v) (hr : RowIn w rv R G) (hd : Rep g K L w v d F) :
      Rep g K L w (.func (.func 89) #[] #[pt b3, pt b4, pt b5]) (.runeOf R d) (b3 :: b4 :: b5 :: (G ++ F))
  | ifHolds {b4 b3 b5 : Nat} {a : Int} {v : Value} {d : Way} {F : List Nat} (h4 : Bx w b4 3 (.int .i64 a)) (h3 : Bx w b3 60 (pt g)) (h5 : Bx w b5 84 v) (hd : Rep g K L w v d F) :
      Rep g K L w (.func (.func 91) #[] #[pt b4, pt b3, pt b5]) (.ifHolds a d) (b4 :: b3 :: b5 :: F)
  | inOrder {b1 N0 : Nat} {sv : Value} {l : List Way} {vs : List Value} {F : List Nat} (h1 : Bx w b1 124 sv) (hs : w.ownsRow N0 84 1 sv l.length vs) (hl : Reps g K L w vs l F) :
      Rep g K L w (.func (.func 109) #[] #[pt b1]) (.inOrder l) (b1 :: (sv.ownBlock.toList ++ F))
  | again {b : Nat} (hb : L b) : Rep g K L w (.func (.func 110) #[] #[pt b]) (.again b) []
inductive Reps (g K : Nat) (L : Nat → Prop) (w : World) : List Value → List Way → List Nat → Prop
  | nil : Reps g K L w [] [] []
  | cons {v : Value} {vs : List Value} {d : Way} {l : List Way} {F G : List Nat} (h : Rep g K L w v d F) (hs : Reps g K L w vs l G) : Reps g K L w (v :: vs) (d :: l) (F ++ G)
end
theorem row_kept {w w' : World} {base e size n : Nat} {v : Value} {xs : List Value} (h : w.ownsRow base e size v n xs) (hk : ∀ b, v.ownBlock = some b → w'.heap[b]? = w.heap[b]?) : w'.ownsRow base e size v n xs := by
  refine ⟨h.1, ?_⟩
  rcases h.2 with hn | ⟨g, cap, cur, rfl, hb, hgg, rest⟩
  · exact .inl hn
  · exact .inr ⟨g, cap, cur, rfl, hb, (hk g rfl).trans hgg, rest⟩
mutual
theorem Rep.kept {g K : Nat} {L : Nat → Prop} {w w' : World} {v : Value} {d : Way} {F : List Nat} (h : Rep g K L w v d F) (hk : ∀ k ∈ F, w'.heap[k]? = w.heap[k]?) : Rep g K L w' v d F := by
  cases h with
  | through => exact .through
  | once h5 h2 h3 hn hd => exact .once ((hk _ (by simp)).trans h5) ((hk _ (by simp)).trans h2) ((hk _ (by simp)).trans h3) hn (hd.kept fun k hkk => hk k (by simp [hkk]))
  | noted h3 h4 h5 hc hd => exact .noted ((hk _ (by simp)).trans h3) ((hk _ (by simp)).trans h4) ((hk _ (by simp)).trans h5) hc (hd.kept fun k hkk => hk k (by simp [hkk]))
  | runeOf h3 h4 h5 hr hd => exact .runeOf ((hk _ (by simp)).trans h3) ((hk _ (by simp)).trans h4) ((hk _ (by simp)).trans h5) (hr.kept fun b hb => hk b (by simp [hb])) (hd.kept fun k hkk => hk k (by simp [hkk]))
  | ifHolds h4 h3 h5 hd => exact .ifHolds ((hk _ (by simp)).trans h4) ((hk _ (by simp)).trans h3) ((hk _ (by simp)).trans h5) (hd.kept fun k hkk => hk k (by simp [hkk]))
  | inOrder h1 hs hl => exact .inOrder ((hk _ (by simp)).trans h1) (row_kept hs fun b hb => hk b (by simp [hb])) (hl.kept fun k hkk => hk k (by simp [hkk]))
  | again hb => exact .again hb
theorem Reps.kept {g K : Nat} {L : Nat → Prop} {w w' : World} {v : List Value} {d : List Way} {F : List Nat} (h : Reps g K L w v d F) (hk : ∀ k ∈ F, w'.heap[k]? = w.heap[k]?) : Reps g K L w' v d F := by
  cases h with
  | nil => exact .nil
  | cons h hs => exact .cons (h.kept fun k hkk => hk k (by simp [hkk])) (hs.kept fun k hkk => hk k (by simp [hkk]))
end
theorem bx_lt {w : World} {b : Nat} {t : TypeId} {v : Value} (h : Bx w b t v) : b < w.heap.size := (Array.getElem?_eq_some_iff.1 h).1
mutual
theorem Rep.low {g K : Nat} {L : Nat → Prop} {w : World} {v : Value} {d : Way} {F : List Nat} (h : Rep g K L w v d F) : ∀ k ∈ F, k < w.heap.size := by
  cases h with
  | through => intro k hk; cases hk
  | once h5 h2 h3 hn hd =>
    intro k hk
    simp only [List.mem_cons] at hk
    rcases hk with rfl | rfl | rfl | hk
    · exact bx_lt h5
    · exact bx_lt h2
    · exact bx_lt h3
    · exact hd.low k hk
  | noted h3 h4 h5 hc hd =>
    intro k hk
    simp only [List.mem_cons] at hk
    rcases hk with rfl | rfl | rfl | hk
    · exact bx_lt h3
    · exact bx_lt h4
    · exact bx_lt h5
    · exact hd.low k hk
  | runeOf h3 h4 h5 hr hd =>
    intro k hk
    simp only [List.mem_cons, List.mem_append] at hk
    rcases hk with rfl | rfl | rfl | hk | hk
    · exact bx_lt h3
    · exact bx_lt h4
    · exact bx_lt h5
    · exact hr.low k hk
    · exact hd.low k hk
  | ifHolds h4 h3 h5 hd =>
    intro k hk
    simp only [List.mem_cons] at hk
    rcases hk with rfl | rfl | rfl | hk
    · exact bx_lt h4
    · exact bx_lt h3
    · exact bx_lt h5
    · exact hd.low k hk
  | inOrder h1 hs hl =>
    intro k hk
    simp only [List.mem_cons, List.mem_append, Option.mem_toList] at hk
    rcases hk with rfl | hk | hk
    · exact bx_lt h1
    · exact (hs.lt k hk).2
    · exact hl.low k hk
  | again hb => intro k hk; cases hk
theorem Reps.low {g K : Nat} {L : Nat → Prop} {w : World} {v : List Value} {d : List Way} {F : List Nat} (h : Reps g K L w v d F) : ∀ k ∈ F, k < w.heap.size := by
  cases h with
  | nil => intro k hk; cases hk
  | cons h hs =>
    intro k hk
    rcases List.mem_append.1 hk with hk | hk
    · exact h.low k hk
    · exact hs.low k hk
end
/-- what came through, in memory -/
inductive PR (N : Nat) (w : World) : List Value → List (Int × List Int) → List Nat → Prop
  | nil : PR N w [] [] []
  | cons {e : Int} {cp : List Int} {cv : Value} {cs : List Value} {l : List (Int × List Int)} {F : List Nat} (h : w.ownsRow N 3 1 cv cp.length (I64 cp)) (hl : PR N w cs l F) :
      PR N w (.int .i64 e :: cv :: cs) ((e, cp) :: l) (cv.ownBlock.toList ++ F)
theorem PR.kept {N : Nat} {w w' : World} {cs : List Value} {l : List (Int × List Int)} {F : List Nat} (h : PR N w cs l F) (hk : ∀ k ∈ F, w'.heap[k]? = w.heap[k]?) : PR N w' cs l F := by
  induction h with
  | nil => exact .nil
  | cons h hl ih => exact .cons (row_kept h fun b hb => hk b (by simp [hb])) (ih fun k hkk => hk k (by simp [hkk]))
theorem PR.low {N : Nat} {w : World} {cs : List Value} {l : List (Int × List Int)} {F : List Nat} (h : PR N w cs l F) : ∀ k ∈ F, N ≤ k ∧ k < w.heap.size := by
  induction h with
  | nil => intro k hk; cases hk
  | cons h hl ih =>
    intro k hk
    rcases List.mem_append.1 hk with hk | hk
    · exact h.lt k (by simpa using hk)
    · exact ih k hk
theorem PR.snoc {N : Nat} {w : World} {cs : List Value} {l : List (Int × List Int)} {F : List Nat} (h : PR N w cs l F) {e : Int} {cp : List Int} {cv : Value} (hc : w.ownsRow N 3 1 cv cp.length (I64 cp)) : PR N w (cs ++ [.int .i64 e, cv]) (l ++ [(e, cp)]) (F ++ cv.ownBlock.toList) := by
  induction h with
  | nil => simpa using PR.cons (e := e) hc .nil
  | cons h hl ih => rw [List.append_assoc]; exact .cons h ih
/-- what stays of a walk's object: the text, what holds, the whole, how many things, the map, the notes -/
structure Cx where
  tv : Value
  hv : Value
  wh : Value
  n : Int
  mb : Nat
  nb : Nat
  ncap : Nat
  K : Nat
def Cx.nv (C : Cx) : Value := .slice (some ⟨C.nb, 0, none⟩) C.K C.ncap
/-- a walk's object, its map, its notes, what came through; B: the blocks of all these -/
structure WS (N : Nat) (w : World) (g : Nat) (C : Cx) (s : Sg) (B : List Nat) : Prop where
  ex : ∃ pv cs F, w.heap[g]? = some (.cells #[C.tv, C.hv, C.wh, .int .i64 C.n, .map (some C.mb), C.nv, pv] 86 (0, 0)) ∧ w.ownsRow N 53 2 pv s.parses.length cs ∧ PR N w cs s.parses F ∧ C.nb ∉ F ∧
    B = g :: C.mb :: C.nb :: (pv.ownBlock.toList ++ F)
  map : MP w C.mb s.done
  notes : w.ownsRow N 3 1 C.nv s.notes.length (I64 s.notes)
  len : s.notes.length = C.K
  two : 2 ≤ C.K
  few : C.K ≤ 10000
  low : N ≤ g ∧ N ≤ C.mb
end Go.Proofs.Ytnpocciioedgpaa
/- HELPERS: a thing that is done at most once. -/
namespace Go.Proofs.Ytnpocciioedgpaa
open Go.RowKit
set_option linter.unusedVariables false
set_option linter.unusedSimpArgs false
theorem bx0 {w : World} {b : Nat} {t : TypeId} {v : Value} (h : Bx w b t v) : w.cell? ⟨b, 0, none⟩ = some v := Joins.cell_of_block h 0
theorem bx1 {w : World} {b : Nat} {t : TypeId} {v : Value} (o : Obj) (h : Bx w b t v) : (w.alloc o).cell? ⟨b, 0, none⟩ = some v := Joins.cell_of_block ((heap_alloc_old w o (bx_lt h)).trans h) 0
theorem bx2 {w : World} {b : Nat} {t : TypeId} {v : Value} (o o' : Obj) (h : Bx w b t v) : ((w.alloc o).alloc o').cell? ⟨b, 0, none⟩ = some v := bx1 o' ((heap_alloc_old w o (bx_lt h)).trans h)
theorem wf_two {n : Int} {p : Nat} (hn : 0 ≤ n ∧ n < 4611686018427387904) (hp : p < 4611686018427387904) : wf2 (n, (p : Int)) := by
  constructor <;> simp [Lit.wf, IntKind.bits, IntKind.min, IntKind.max, IntKind.signed] <;> omega
theorem MP.same {w w' : World} {b : Nat} {D : List (Int × Int)} (h : MP w b D) (hk : w'.heap[b]? = w.heap[b]?) : MP w' b D := by
  obtain ⟨es, c, h1, h2⟩ := h
  exact ⟨es, c, hk.trans h1, h2⟩
theorem MP.lt {w : World} {b : Nat} {D : List (Int × Int)} (h : MP w b D) : b < w.heap.size := by
  obtain ⟨es, c, h1, h2⟩ := h
  exact (Array.getElem?_eq_some_iff.1 h1).1
set_option maxHeartbeats 2000000 in
theorem skip70 (N g : Nat) (C : Cx) (s : Sg) (B : List Nat) (w : World) (hW : Hid (WS N w g C s B)) (b5 b2 b3 : Nat) (v : Value) (n : Int) (p : Nat) (h5 : Bx w b5 3 (.int .i64 n)) (h2 : Bx w b2 60 (pt g)) (h3 : Bx w b3 84 v)
    (hn : 0 ≤ n ∧ n < 4611686018427387904) (hp : p < 4611686018427387904) (hd : (n, (p : Int)) ∈ s.done) :
    Calls Try.prog 70 #[.int .i64 (p : Int), pt b5, pt b2, pt b3] w fun e w' => e = .returned (.tuple #[]) ∧ Below w.heap.size w w' := by
  obtain ⟨pv, cs, F, hg, _⟩ := hW.out.ex
  have hmp := hW.out.map
  have hwf : wf2 (n, (p : Int)) := wf_two hn hp
  obtain ⟨W, hW1⟩ : ∃ W, W = w.alloc (.cells #[.int .i64 n, .int .i64 (p : Int)] 108) := ⟨_, rfl⟩
  have hm4 : W.cell? ⟨g, 4, none⟩ = some (.map (some C.mb)) := by rw [hW1]; exact Joins.cell_of_block ((heap_alloc_old w _ (Array.getElem?_eq_some_iff.1 hg).1).trans hg) 4
  have c5 := bx0 h5
  have c2 : W.cell? ⟨b2, 0, none⟩ = some (pt g) := by rw [hW1]; exact bx1 _ h2
  go_enter Try.func70, Try.ntmps70
  go_wp2_with fail
  rw [← hW1]
  have hmW : MP W C.mb s.done := MP.same hmp (by rw [hW1]; exact heap_alloc_old w _ hmp.lt)
  have HL : (Instr.lookup 82 (.map (some C.mb)) (.agg #[.int .i64 n, .int .i64 (p : Int)]) true).run Try.prog W.drew = .ok (.tuple #[.agg #[], .bool true]) W.drew := by
    rw [(MP.same (w' := W.drew) hmW rfl).look n (p : Int) hwf, decide_eq_true hd]
  have HL2 : (Instr.lookup 82 (.map (some C.mb)) (.agg #[.int .i64 n, .int .i64 (p : Int)]) true).run Try.prog (W.alloc (.cells #[] 109)).drew = .ok (.tuple #[.agg #[], .bool true]) (W.alloc (.cells #[] 109)).drew := by
    rw [(MP.same (w' := (W.alloc (.cells #[] 109)).drew) hmW (heap_alloc_old W _ hmW.lt)).look n (p : Int) hwf, decide_eq_true hd]
  have d0 : W.cell? ⟨w.heap.size, 0, none⟩ = some (.int .i64 n) := by rw [hW1]; simp
  have d1 : W.cell? ⟨w.heap.size, 1, none⟩ = some (.int .i64 (p : Int)) := by rw [hW1]; simp
  have hgl : g < W.heap.size := by have := (Array.getElem?_eq_some_iff.1 hg).1; rw [hW1]; simp; omega
  have l2 : b2 < W.heap.size := by have := bx_lt h2; rw [hW1]; simp; omega
  have ld : w.heap.size < W.heap.size := by rw [hW1]; simp
  obtain ⟨db, hdb⟩ : ∃ db, db = w.heap.size := ⟨_, rfl⟩
  rw [← hdb] at d0 d1 ld ⊢
  have HW1 := hid hW1
  have HDB := hid hdb
  clear hW1 hdb hmp hg hmW
  go_region
  all_goals
    go_wp2
    refine bodyPost_ret (results_none rfl _ _ _) rfl ?_
    refine ⟨rfl, ?_⟩
    rw [HW1.out]
    exact (Joins.below_alloc1 w _).trans (Joins.below_le ((Joins.below_alloc1 _ _).drew) (by simp))
theorem mb_in {N : Nat} {w : World} {g : Nat} {C : Cx} {s : Sg} {B : List Nat} (h : WS N w g C s B) : C.mb ∈ B := by
  obtain ⟨pv, cs, F, _, _, _, _, rfl⟩ := h.ex
  simp
theorem WS.put_map {N : Nat} {w w' : World} {g : Nat} {C : Cx} {s : Sg} {B : List Nat} {D : List (Int × Int)} (h : WS N w g C s B) (hk : ∀ k, k < w.heap.size → k ≠ C.mb → w'.heap[k]? = w.heap[k]?) (hm : MP w' C.mb D) : WS N w' g C { s with done := D } B := by
  obtain ⟨pv, cs, F, h1, h2, h3, h4, rfl⟩ := h.ex
  have hmb : ∃ es cl, w.heap[C.mb]? = some (.map es cl) := by obtain ⟨es, cl, h, _⟩ := h.map; exact ⟨es, cl, h⟩
  obtain ⟨es, cl, hmb⟩ := hmb
  have hrow : ∀ {base e size n : Nat} {v : Value} {xs : List Value}, w.ownsRow base e size v n xs → w'.ownsRow base e size v n xs := fun hr => row_kept hr fun b hb => hk b (hr.lt b hb).2 (fun e => by
    subst e
    rcases hr.2 with ⟨rfl, _⟩ | ⟨b2, cap, cur, rfl, _, hgg, _⟩
    · simp [Value.ownBlock] at hb
    · simp [Value.ownBlock] at hb
      subst hb
      rw [hgg] at hmb
      cases hmb)
  have hPR : ∀ {cs : List Value} {l : List (Int × List Int)} {F : List Nat}, PR N w cs l F → PR N w' cs l F := fun hp => by
    induction hp with
    | nil => exact .nil
    | cons h hl ih => exact .cons (hrow h) ih
  refine ⟨⟨pv, cs, F, (hk g (Array.getElem?_eq_some_iff.1 h1).1 (fun e => by subst e; rw [h1] at hmb; cases hmb)).trans h1, hrow h2, hPR h3, h4, rfl⟩, hm, hrow h.notes, h.len, h.two, h.few, h.low⟩
/-- a call of a function value -/
def CallsV (v : Value) (p : Nat) (w : World) (Q : Ending → World → Prop) : Prop := ∃ f fi ca, v = .func (.func f) fi ca ∧ (∀ args w, (callFunc f args).run Try.prog w = .ok (.enter f args) w) ∧ Calls Try.prog f (fi.push (.int .i64 (p : Int)) ++ ca) w Q
set_option maxRecDepth 100000 in
set_option maxHeartbeats 2000000 in
theorem go70 (N g : Nat) (C : Cx) (s : Sg) (B : List Nat) (w : World) (hW : Hid (WS N w g C s B)) (b5 b2 b3 : Nat) (v : Value) (n : Int) (p : Nat) (h5 : Bx w b5 3 (.int .i64 n)) (h2 : Bx w b2 60 (pt g)) (h3 : Bx w b3 84 v)
    (hB2 : b2 ∉ B) (hB3 : b3 ∉ B) (hn : 0 ≤ n ∧ n < 4611686018427387904) (hp : p < 4611686018427387904) (hd : (n, (p : Int)) ∉ s.done) (R : World → Prop)
    (hQ : ∀ w', WS N w' g C { s with done := s.done ++ [(n, (p : Int))] } B → Chg w w' B B → CallsV v p w' fun e w2 => e = .returned (.tuple #[]) ∧ R w2) :
    Calls Try.prog 70 #[.int .i64 (p : Int), pt b5, pt b2, pt b3] w fun e w2 => e = .returned (.tuple #[]) ∧ R w2 := by
  obtain ⟨pv, cs, F, hg, _⟩ := hW.out.ex
  have hmp := hW.out.map
  have hwf : wf2 (n, (p : Int)) := wf_two hn hp
  obtain ⟨W, hW1⟩ : ∃ W, W = w.alloc (.cells #[.int .i64 n, .int .i64 (p : Int)] 108) := ⟨_, rfl⟩
  have hm4 : W.cell? ⟨g, 4, none⟩ = some (.map (some C.mb)) := by rw [hW1]; exact Joins.cell_of_block ((heap_alloc_old w _ (Array.getElem?_eq_some_iff.1 hg).1).trans hg) 4
  have c5 := bx0 h5
  have c2 : W.cell? ⟨b2, 0, none⟩ = some (pt g) := by rw [hW1]; exact bx1 _ h2
  have c3 : W.cell? ⟨b3, 0, none⟩ = some v := by rw [hW1]; exact bx1 _ h3
  go_enter Try.func70, Try.ntmps70
  go_wp2_with fail
  rw [← hW1]
  have hmW : MP W C.mb s.done := MP.same hmp (by rw [hW1]; exact heap_alloc_old w _ hmp.lt)
  have HL : (Instr.lookup 82 (.map (some C.mb)) (.agg #[.int .i64 n, .int .i64 (p : Int)]) true).run Try.prog W.drew = .ok (.tuple #[.agg #[], .bool false]) W.drew := by
    rw [(MP.same (w' := W.drew) hmW rfl).look n (p : Int) hwf, decide_eq_false hd]
  have HL2 : (Instr.lookup 82 (.map (some C.mb)) (.agg #[.int .i64 n, .int .i64 (p : Int)]) true).run Try.prog (W.alloc (.cells #[] 109)).drew = .ok (.tuple #[.agg #[], .bool false]) (W.alloc (.cells #[] 109)).drew := by
    rw [(MP.same (w' := (W.alloc (.cells #[] 109)).drew) hmW (heap_alloc_old W _ hmW.lt)).look n (p : Int) hwf, decide_eq_false hd]
  have d0 : W.cell? ⟨w.heap.size, 0, none⟩ = some (.int .i64 n) := by rw [hW1]; simp
  have d1 : W.cell? ⟨w.heap.size, 1, none⟩ = some (.int .i64 (p : Int)) := by rw [hW1]; simp
  have hgl : g < W.heap.size := by have := (Array.getElem?_eq_some_iff.1 hg).1; rw [hW1]; simp; omega
  have l2 : b2 < W.heap.size := by have := bx_lt h2; rw [hW1]; simp; omega
  have l3 : b3 < W.heap.size := by have := bx_lt h3; rw [hW1]; simp; omega
  have ld : w.heap.size < W.heap.size := by rw [hW1]; simp
  obtain ⟨db, hdb⟩ : ∃ db, db = w.heap.size := ⟨_, rfl⟩
  rw [← hdb] at d0 d1 ld ⊢
  obtain ⟨X, hX⟩ : ∃ X, X = (W.alloc (.cells #[] 109)).drew := ⟨_, rfl⟩
  obtain ⟨o, hrun, hput⟩ := (MP.same (w' := X.drew) hmW (by rw [hX]; exact heap_alloc_old W _ hmW.lt)).put n (p : Int) hwf hd
  have HU : (Instr.mapUpdate 82 (.map (some C.mb)) (.agg #[.int .i64 n, .int .i64 (p : Int)]) (.agg #[])).run Try.prog X.drew = .ok () (putB X.drew C.mb o) := hrun
  have bX : ∀ k, k < W.heap.size → X.heap[k]? = W.heap[k]? := fun k hk => by rw [hX]; exact heap_alloc_old W _ hk
  have bW : ∀ k, k < w.heap.size → W.heap[k]? = w.heap[k]? := fun k hk => by rw [hW1]; exact heap_alloc_old w _ hk
  have x2 : X.cell? ⟨b2, 0, none⟩ = some (pt g) := bx0 (t := 60) ((bX _ l2).trans ((bW _ (bx_lt h2)).trans h2))
  have hgX := (bX _ hgl).trans ((bW _ (Array.getElem?_eq_some_iff.1 hg).1).trans hg)
  have x4 : X.cell? ⟨g, 4, none⟩ = some (.map (some C.mb)) := Joins.cell_of_block hgX 4
  have hdX : X.heap[db]? = some (.cells #[.int .i64 n, .int .i64 (p : Int)] 108 (0, 0)) := (bX _ ld).trans (by rw [hW1, hdb]; exact heap_alloc_new w _)
  have e0 : X.cell? ⟨db, 0, none⟩ = some (.int .i64 n) := Joins.cell_of_block hdX 0
  have e1 : X.cell? ⟨db, 1, none⟩ = some (.int .i64 (p : Int)) := Joins.cell_of_block hdX 1
  have hne3 : b3 ≠ C.mb := fun e => hB3 (by rw [e]; exact mb_in hW.out)
  have hp3 : Bx (putB X.drew C.mb o) b3 84 v := (putB_other X.drew o hne3).trans ((bX _ l3).trans ((bW _ (bx_lt h3)).trans h3))
  have x3 : (putB X.drew C.mb o).cell? ⟨b3, 0, none⟩ = some v := bx0 hp3
  have HW1 := hid hW1
  have HDB := hid hdb
  have HMW := hid hmW
  have HX := hid hX
  have HP := hid hput
  have BX := hid bX
  have BW := hid bW
  clear hW1 hdb hmp hg hmW hrun hput hgX hdX hp3 bX bW
  have hgo : ∀ k, k < w.heap.size → k ≠ C.mb → (putB X.drew C.mb o).heap[k]? = w.heap[k]? := fun k hk hne => (putB_other X.drew o hne).trans ((BX.out k (by have := HDB.out; omega)).trans (BW.out k hk))
  have hCh : Chg w (putB X.drew C.mb o) B B := by
    refine ⟨?_, ?_, ?_, ?_, fun k hk hn2 => hgo k hk (fun e => hn2 (by rw [e]; exact mb_in hW.out)), fun k hk => .inl hk⟩
    · show X.os = w.os
      rw [HX.out, HW1.out]; rfl
    · show X.tape = w.tape
      rw [HX.out, HW1.out]; rfl
    · show X.output = w.output
      rw [HX.out, HW1.out]; rfl
    · rw [putB_size]
      show w.heap.size ≤ X.heap.size
      rw [HX.out, HW1.out]; simp; omega
  have hWS : WS N (putB X.drew C.mb o) g C { s with done := s.done ++ [(n, (p : Int))] } B := hW.out.put_map hgo HP.out
  obtain ⟨f, fi, ca, rfl, hcf, hC⟩ := hQ (putB X.drew C.mb o) hWS hCh
  go_region
  all_goals
    rw [← hX]
    clear hX
    go_wp2_with fail
    go_region
    all_goals
      go_wp2_with ((with_reducible refine hC.mono ?_); rintro e w2 ⟨rfl, hR⟩)
      go_end0
      exact ⟨rfl, hR⟩
end Go.Proofs.Ytnpocciioedgpaa
/- HELPERS: a place that is noted ahead of a way. -/
namespace Go.Proofs.Ytnpocciioedgpaa
open Go.RowKit
set_option linter.unusedVariables false
set_option linter.unusedSimpArgs false
theorem row_set {w : World} {base e n b cap j : Nat} {u : Value} {xs : List Value} (h : w.ownsRow base e 1 (.slice (some ⟨b, 0, none⟩) n cap) n xs) (hj : j < n) : (w.setCell ⟨b, j, none⟩ u).ownsRow base e 1 (.slice (some ⟨b, 0, none⟩) n cap) n (xs.set j u) := by
  refine ⟨by rw [List.length_set]; exact h.1, .inr ?_⟩
  rcases h.2 with ⟨h, _⟩ | ⟨g, cap', cur, he, hb, hgg, h1, h2, h3, h4⟩
  · cases h
  · simp only [Value.slice.injEq, Option.some.injEq, Addr.mk.injEq] at he
    obtain ⟨⟨rfl, _⟩, _, rfl⟩ := he
    refine ⟨b, cap, cur.setIfInBounds j u, rfl, hb, Joins.block_setCell hgg u, h1, h2, by simpa using h3, ?_⟩
    rw [← h4]
    simp only [Array.toList_setIfInBounds]
    rw [List.take_set]
theorem WS.blocks {N : Nat} {w : World} {g : Nat} {C : Cx} {s : Sg} {B : List Nat} (h : WS N w g C s B) : g ∈ B ∧ C.mb ∈ B ∧ C.nb ∈ B := by
  obtain ⟨pv, cs, F, _, _, _, _, rfl⟩ := h.ex
  simp
theorem WS.nblk {N : Nat} {w : World} {g : Nat} {C : Cx} {s : Sg} {B : List Nat} (h : WS N w g C s B) : ∃ cur, w.heap[C.nb]? = some (.cells cur 3 (0, 0)) := by
  have h1 := h.notes
  rcases h1.2 with ⟨h2, _⟩ | ⟨b, cap', cur, he, hb, hgg, _⟩
  · simp [Cx.nv] at h2
  · simp only [Cx.nv, Value.slice.injEq, Option.some.injEq, Addr.mk.injEq] at he
    obtain ⟨⟨rfl, _⟩, _⟩ := he
    exact ⟨cur, hgg⟩
theorem WS.note {N : Nat} {w : World} {g : Nat} {C : Cx} {s : Sg} {B : List Nat} (h : WS N w g C s B) (c : Nat) (hc : c < C.K) (x : Int) : WS N (w.setCell ⟨C.nb, c, none⟩ (.int .i64 x)) g C { s with notes := s.notes.set c x } B := by
  obtain ⟨pv, cs, F, h1, h2, h3, h4, rfl⟩ := h.ex
  obtain ⟨cur, hn⟩ := h.nblk
  obtain ⟨es, cl, hm, hm2⟩ := h.map
  have hkeep : ∀ k, k ≠ C.nb → (w.setCell ⟨C.nb, c, none⟩ (.int .i64 x)).heap[k]? = w.heap[k]? := fun k hk => Below.heap_setCell _ _ _ _ hk
  have hrow : ∀ {e size n : Nat} {v : Value} {xs : List Value}, e ≠ 3 → w.ownsRow N e size v n xs → (w.setCell ⟨C.nb, c, none⟩ (.int .i64 x)).ownsRow N e size v n xs := fun he hr => own_setCell hr (fun e2 => own_ne hr hn he.symm e2)
  refine ⟨⟨pv, cs, F, ?_, hrow (by decide) h2, h3.kept fun k hk => hkeep k (fun e => h4 (e ▸ hk)), h4, rfl⟩, ⟨es, cl, (hkeep _ (fun e => by rw [e, hn] at hm; cases hm)).trans hm, hm2⟩, ?_, by simpa using h.len, h.two, h.few, h.low⟩
  · exact (hkeep g (fun e => by rw [e, hn] at h1; cases h1)).trans h1
  · have hl := h.len
    have := row_set (u := .int .i64 x) (j := c) (b := C.nb) (cap := C.ncap) (n := C.K) (by have := h.notes; rw [hl] at this; exact this) hc
    rw [List.length_set, hl]
    rw [show I64 (s.notes.set c x) = (I64 s.notes).set c (.int .i64 x) by simp [I64, List.map_set]]
    exact this
theorem WS.read {N : Nat} {w : World} {g : Nat} {C : Cx} {s : Sg} {B : List Nat} (h : WS N w g C s B) (c : Nat) (hc : c < C.K) : w.cell? ⟨C.nb, c, none⟩ = some (.int .i64 (s.notes.getD c 0)) := by
  have hl := h.len
  have hN := h.notes
  rw [hl] at hN
  have hN2 : w.ownsRow N 3 1 (.slice (some ⟨C.nb, 0, none⟩) C.K C.ncap) C.K (I64 s.notes) := hN
  rw [hN2.cellAt c (by omega)]
  simp [I64, List.getD, List.getElem?_eq_getElem (show c < s.notes.length by omega)]
theorem WS.drew {N : Nat} {w : World} {g : Nat} {C : Cx} {s : Sg} {B : List Nat} (h : WS N w g C s B) : WS N w.drew g C s B := by
  obtain ⟨pv, cs, F, h1, h2, h3, h4, rfl⟩ := h.ex
  exact ⟨⟨pv, cs, F, h1, h2, h3.kept fun _ _ => rfl, h4, rfl⟩, h.map.same rfl, h.notes, h.len, h.two, h.few, h.low⟩
theorem Chg.trans {w w1 w2 : World} {F F' F2 : List Nat} (h : Chg w w1 F F') (h2 : Chg w1 w2 F' F2) : Chg w w2 F F2 := by
  refine ⟨h2.os.trans h.os, h2.tape.trans h.tape, h2.output.trans h.output, Nat.le_trans h.size h2.size, fun k hk hn => ?_, fun k hk => ?_⟩
  · refine (h2.block k (Nat.lt_of_lt_of_le hk h.size) (fun hm => ?_)).trans (h.block k hk hn)
    rcases h.new k hm with h3 | h3
    · exact hn h3
    · omega
  · rcases h2.new k hk with h3 | h3
    · exact h.new k h3
    · right; have := h.size; omega
theorem Chg.refl (w : World) (F : List Nat) : Chg w w F F := ⟨rfl, rfl, rfl, Nat.le_refl _, fun _ _ _ => rfl, fun _ h => .inl h⟩
set_option maxRecDepth 100000 in
set_option maxHeartbeats 2000000 in
theorem noted95 (N g : Nat) (C : Cx) (s : Sg) (B : List Nat) (w : World) (hW : Hid (WS N w g C s B)) (b3 b4 b5 c : Nat) (v : Value) (p : Nat) (h3 : Bx w b3 60 (pt g)) (h4 : Bx w b4 3 (.int .i64 (c : Int))) (h5 : Bx w b5 84 v)
    (hB3 : b3 ∉ B) (hB4 : b4 ∉ B) (hB5 : b5 ∉ B) (hc : c < C.K) (s' : Sg)
    (hQ : ∀ w', WS N w' g C { s with notes := s.notes.set c (p : Int) } B → Chg w w' B B → CallsV v p w' fun e w2 => e = .returned (.tuple #[]) ∧ ∃ B', WS N w2 g C s' B' ∧ Chg w' w2 B B') :
    Calls Try.prog 95 #[.int .i64 (p : Int), pt b3, pt b4, pt b5] w fun e w2 => e = .returned (.tuple #[]) ∧ ∃ B', WS N w2 g C { s' with notes := s'.notes.set c (s.notes.getD c 0) } B' ∧ Chg w w2 B B' := by
  obtain ⟨pv, cs, F, hg, _⟩ := hW.out.ex
  have few := hW.out.few
  have g5 : w.cell? ⟨g, 5, none⟩ = some (.slice (some ⟨C.nb, 0, none⟩) C.K C.ncap) := Joins.cell_of_block hg 5
  have c3 := bx0 h3
  have c4 := bx0 h4
  obtain ⟨old, hold⟩ : ∃ old, old = s.notes.getD c 0 := ⟨_, rfl⟩
  have rd := hW.out.read c hc
  rw [← hold] at rd ⊢
  obtain ⟨cur, hn⟩ := hW.out.nblk
  have uf := Joins.unfrozen_of_block hn c
  have i1 : (c : Int) < (C.K : Int) := by omega
  have HG := hid hg
  have HWS := hid hW.out
  have HQ := hid hQ
  have HO := hid hold
  have H3 := hid h3
  have H4 := hid h4
  have H5 := hid h5
  clear hg hn h3 h4 h5 hQ hW hold
  go_enter Try.func95, Try.ntmps95
  go_wp2_with fail
  go_region
  all_goals
    go_wp2_with fail
    go_region
    all_goals
      obtain ⟨X, hX⟩ : ∃ X, X = (w.setCell ⟨C.nb, c, none⟩ (.int .i64 (p : Int))).drew.drew := ⟨_, rfl⟩
      rw [← hX]
      have hXs : WS N X g C { s with notes := s.notes.set c (p : Int) } B := by rw [hX]; exact (HWS.out.note c hc (p : Int)).drew.drew
      have hXc : Chg w X B B := by rw [hX]; exact (((Chg.refl w B).set (a := ⟨C.nb, c, none⟩) (.int .i64 (p : Int)) HWS.out.blocks.2.2).drew).drew
      have x5 : X.cell? ⟨b5, 0, none⟩ = some v := bx0 (t := 84) ((hXc.block b5 (bx_lt H5.out) hB5).trans H5.out)
      obtain ⟨f, fi, ca, rfl, hcf, hC⟩ := HQ.out X hXs hXc
      have HXs := hid hXs
      have HXc := hid hXc
      have HX := hid hX
      clear hXs hXc hX
      go_wp2_with ((with_reducible refine hC.mono ?_); rintro e w2 ⟨rfl, B2, hW2, hC2⟩; clear hC; have HC := hid (HXc.out.trans hC2); have HW2 := hid hW2; clear hW2 hC2)
      obtain ⟨pv2, cs2, F2, hg2, _⟩ := HW2.out.ex
      have y5 : w2.cell? ⟨g, 5, none⟩ = some (.slice (some ⟨C.nb, 0, none⟩) C.K C.ncap) := Joins.cell_of_block hg2 5
      have y3 := bx0 (t := 60) ((HC.out.block b3 (bx_lt H3.out) hB3).trans H3.out)
      have y4 := bx0 (t := 3) ((HC.out.block b4 (bx_lt H4.out) hB4).trans H4.out)
      obtain ⟨cur2, hn2⟩ := HW2.out.nblk
      have uf2 := Joins.unfrozen_of_block hn2 c
      have y6 := HW2.out.read c hc
      obtain ⟨old2, hold2⟩ : ∃ old2, old2 = s'.notes.getD c 0 := ⟨_, rfl⟩
      rw [← hold2] at y6
      clear hg2 hn2 hold2
      go_wp2_with fail
      go_region
      all_goals
        go_wp2
        go_end0
        exact ⟨rfl, B2, (HW2.out.note c hc old).drew, ((HC.out.set (a := ⟨C.nb, c, none⟩) (.int .i64 old) HWS.out.blocks.2.2).drew)⟩
end Go.Proofs.Ytnpocciioedgpaa
/- HELPERS: ways in order; a loop's next round. -/
namespace Go.Proofs.Ytnpocciioedgpaa
open Go.RowKit
set_option linter.unusedVariables false
set_option linter.unusedSimpArgs false
set_option maxRecDepth 100000 in
set_option maxHeartbeats 2000000 in
theorem again110 (b : Nat) (v : Value) (p : Nat) (w : World) (hb : Bx w b 84 v) (R : World → Prop) (hQ : CallsV v p w fun e w2 => e = .returned (.tuple #[]) ∧ R w2) :
    Calls Try.prog 110 #[.int .i64 (p : Int), pt b] w fun e w2 => e = .returned (.tuple #[]) ∧ R w2 := by
  have c0 := bx0 hb
  clear hb
  obtain ⟨f, fi, ca, rfl, hcf, hC⟩ := hQ
  go_enter Try.func110, Try.ntmps110
  go_wp2_with ((with_reducible refine hC.mono ?_); rintro e w2 ⟨rfl, hR⟩)
  go_end0
  exact ⟨rfl, hR⟩
theorem Reps.len {g K : Nat} {L : Nat → Prop} {w : World} {vs : List Value} {l : List Way} {F : List Nat} (h : Reps g K L w vs l F) : vs.length = l.length := by
  induction l generalizing vs F with
  | nil => cases h; rfl
  | cons d l ih => cases h with | cons h hs => simp [ih hs]
theorem Reps.get {g K : Nat} {L : Nat → Prop} {w : World} : ∀ {l : List Way} {vs : List Value} {F : List Nat}, Reps g K L w vs l F → ∀ (i : Nat) (hi : i < l.length), ∃ v Fi, vs[i]? = some v ∧ Rep g K L w v (l[i]'hi) Fi ∧ ∀ k ∈ Fi, k ∈ F := by
  intro l
  induction l with
  | nil => intro vs F h i hi; simp at hi
  | cons d l ih =>
    intro vs F h i hi
    cases h with
    | @cons v vs _ _ F1 G1 h1 h2 =>
      cases i with
      | zero => exact ⟨v, F1, rfl, h1, fun k hk => List.mem_append_left _ hk⟩
      | succ i =>
        obtain ⟨u, Fi, q1, q2, q3⟩ := ih h2 i (by simpa using hi)
        exact ⟨u, Fi, by simpa using q1, q2, fun k hk => List.mem_append_right _ (q3 k hk)⟩
theorem row_cap2 {w : World} {base e n b cap : Nat} {xs : List Value} (h : w.ownsRow base e 1 (.slice (some ⟨b, 0, none⟩) n cap) n xs) : n ≤ cap := by
  rcases h.2 with ⟨h, _⟩ | ⟨g, cap', cur, he, hb, hgg, h1, h2, h3, h4⟩
  · cases h
  · simp only [Value.slice.injEq, Option.some.injEq, Addr.mk.injEq] at he
    obtain ⟨⟨rfl, _⟩, _, rfl⟩ := he
    omega
set_option maxRecDepth 100000 in
set_option maxHeartbeats 2000000 in
theorem inOrder109 (N N0 g : Nat) (C : Cx) (ss : Nat → Sg) (B : List Nat) (w : World) (hW : Hid (WS N w g C (ss 0) B)) (b1 n : Nat) (sv : Value) (vs : List Value) (p : Nat) (h1 : Bx w b1 124 sv) (hs : w.ownsRow N0 84 1 sv n vs)
    (hB1 : b1 ∉ B) (hBs : ∀ k, sv.ownBlock = some k → k ∉ B) (hvl : vs.length = n)
    (hQ : Hid (∀ i v w' B', i < n → vs[i]? = some v → WS N w' g C (ss i) B' → Chg w w' B B' → CallsV v p w' fun e w2 => e = .returned (.tuple #[]) ∧ ∃ B2, WS N w2 g C (ss (i + 1)) B2 ∧ Chg w' w2 B' B2)) :
    Calls Try.prog 109 #[.int .i64 (p : Int), pt b1] w fun e w2 => e = .returned (.tuple #[]) ∧ ∃ B', WS N w2 g C (ss n) B' ∧ Chg w w2 B B' := by
  have c0 := bx0 h1
  have kn : n ≤ 9223372036854775807 := by
    rcases hs.2 with ⟨_, h⟩ | ⟨g, cap, cur, he, h1, h2, h3, h4, h5, h6⟩
    · omega
    · unfold maxLen at h4
      omega
  obtain ⟨s1, s3, rfl⟩ : ∃ s1 s3, sv = .slice s1 n s3 := by
    rcases Joins.ownsRow_forms hs with ⟨rfl, h⟩ | ⟨b, cap, rfl⟩
    · exact ⟨none, 0, by rw [h]⟩
    · exact ⟨_, _, rfl⟩
  have HS := hid hs
  have HBs := hid hBs
  have HVL := hid hvl
  clear hs h1 hBs hvl
  go_enter Try.func109, Try.ntmps109
  go_wp2_with fail
  go_loopw [7] (fun x wq => ∃ i : Nat, x = .int .i64 (i : Int) ∧ i ≤ n ∧ Hid (∃ B', WS N wq g C (ss i) B' ∧ Chg w wq B B')) (fun x _ => n - (intOf x).toNat)
  case atStart => exact ⟨0, rfl, by omega, by exact ⟨B, hW.out, Chg.refl w B⟩⟩
  case round =>
    obtain ⟨i, rfl, hi, HI⟩ := hrel
    obtain ⟨B', hWi, hCi⟩ := HI.out
    clear HI
    by_cases hil : i < n
    · have b1 : decide ((i : Int) < (n : Int)) = true := by simp; omega
      have b2 : (i : Int) < (n : Int) := by omega
      obtain ⟨b, rfl⟩ : ∃ b, s1 = some ⟨b, 0, none⟩ := by
        rcases HS.out.2 with ⟨_, h⟩ | ⟨g, cap, cur, he, _⟩
        · omega
        · simp only [Value.slice.injEq] at he
          exact ⟨g, he.1⟩
      obtain ⟨v, hv⟩ : ∃ v, vs[i]? = some v := ⟨vs[i]'(by rw [HVL.out]; exact hil), List.getElem?_eq_getElem _⟩
      have hrow : wr.ownsRow N0 84 1 (.slice (some ⟨b, 0, none⟩) n s3) n vs := hCi.row HS.out HBs.out
      have hcap : n ≤ s3 := row_cap2 hrow
      have n0 : wr.cell? ⟨b, i, none⟩ = some v := (hrow.cellAt i (by omega)).trans hv
      obtain ⟨f, fi, ca, rfl, hcf, hC⟩ := hQ.out i v wr B' hil hv hWi hCi
      have ad1 : IntKind.i64.wrap ((i : Int) + 1) = (i : Int) + 1 := by simp [IntKind.wrap, IntKind.bits, IntKind.signed]; omega
      have HCi := hid hCi
      clear hrow hWi hCi hv
      go_wp2_with ((with_reducible refine hC.mono ?_); rintro e w2 ⟨rfl, B2, hW2, hC2⟩; have HW2 := hid hW2; have HC2 := hid hC2; clear hC hW2 hC2)
      refine ⟨⟨i + 1, by push_cast; rfl, by omega, by exact ⟨B2, HW2.out, HCi.out.trans HC2.out⟩⟩, ?_⟩
      simp [intOf]
      omega
    · have b1 : decide ((i : Int) < (n : Int)) = false := by simp; omega
      obtain rfl : i = n := by omega
      have HE : Hid (∃ B', WS N wr g C (ss i) B' ∧ Chg w wr B B') := ⟨B', hWi, hCi⟩
      clear hWi hCi
      go_wp2
      go_end0
      exact ⟨rfl, HE.out⟩
end Go.Proofs.Ytnpocciioedgpaa
