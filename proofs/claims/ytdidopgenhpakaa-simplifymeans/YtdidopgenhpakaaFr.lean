/- HELPERS: rows of nodes with a fixed length; rows that are copied; trees whose lists are their own. -/
import Derived.Test.YtdidopgenhpakaaUa
import Derived.WalkLawsBesides
import Derived.Lib.LazyBuf
import Derived.Deep.Cut
import Derived.Laws.Rows
import Derived.Deep.MidRow
import Derived.Deep.OwnRows
namespace Go.Proofs.Ytdidopgenhpakaa
open Go.RowKit
set_option linter.unusedVariables false
set_option linter.unusedSimpArgs false
theorem run_append_moveN {P : Program} (w : World) (base : Nat) (t ty e : TypeId) (i : TypeInfo) (z : Value) (size bytes : Nat) (ht : P.underlying t = some (.slice e)) (hi : P.info? e = some i) (hz : i.zero = some z)
    (hsize : i.size = size) (hby : i.bytes = bytes) (hzs : z.cells.size = size) (hpos : 0 < size)
    (v : Value) (n : Nat) (xs : List Value) (hown : w.ownsRow base e size v n xs)
    (a : Addr) (m c : Nat) (news : List Value) (hl : news.length = m * size) (hm : 0 < m) (hnews : ∀ j u, news[j]? = some u → w.cell? (a.add j) = some u) (h1 : ∀ u ∈ news, u.oneCell' = true)
    (h63 : n + m ≤ maxLen) (hbytes : (n + m) * bytes ≤ 140737488355328) (hbase : base ≤ w.heap.size) :
    ∃ v' w', (Builtin.append_ #[t, t] ty #[v, .slice (some a) m c]).run P w = .ok v' w' ∧ w'.ownsRow base e size v' (n + m) (xs ++ news) ∧ Moved w w' v v' := by
  obtain ⟨v', w', hrun, h2, h3, h4, h5⟩ := run_append_own_at (P := P) w base t ty e i z size bytes ht hi hz hsize hby hzs hpos v n xs hown a m c news hl hnews h1 h63 hbytes hbase
  refine ⟨v', w', hrun, h2, ?_⟩
  rcases hown.2 with ⟨rfl, rfl⟩ | ⟨g, cap, cur, rfl, hbg, hg, hnc, hcm, hcs, htake⟩
  · rcases h5 with h5 | h5
    · exact .inl ⟨h5, h3⟩
    · exact .inr ⟨h5, h3⟩
  · by_cases hroom : n + m ≤ cap
    · have hr := run_append_room (P := P) w t ty e i ht hi g n cap cur hg a m c news (by rw [hsize]; omega) hnews h1 hroom (by rw [hsize, hcs, hl, ← Nat.add_mul]; exact Nat.mul_le_mul_right _ hroom)
      have he := hrun.symm.trans hr
      injection he with e1 e2
      left
      exact ⟨by rw [e1]; rfl, h3⟩
    · have holds : ∀ j u, xs[j]? = some u → w.cell? ((⟨g, 0, none⟩ : Addr).add j) = some u := hown.cells (g := g) rfl
      have hr := run_append_grow (P := P) w t ty e i z ht hi hz ⟨g, 0, none⟩ n cap xs (by rw [hsize]; exact hown.1) holds a m c news (by rw [hsize]; omega) hnews (by omega) (by unfold maxLen at h63; omega) (growslice_fits (by omega) (by rw [hby]; exact hbytes))
      have he := hrun.symm.trans hr
      injection he with e1 e2
      right
      refine ⟨by rw [e1]; rfl, ?_⟩
      rw [e2]
      exact ⟨rfl, rfl, rfl, by simp, fun k hk _ => heap_alloc_old w.drew _ hk⟩
theorem wpList_append_moveN {P : Program} {w : World} {ops : Array Oper} {rest : List Oper} {o : Oper} {a : Act} {Q : Exit → Act → World → Prop} (hgd : o.guard = none) (s x : Operand) (t : TypeId)
    (ho : o.op = .call { callee := .builtin .append, args := #[s, x], argTypes := #[t, t] })
    (base : Nat) (e : TypeId) (i : TypeInfo) (z : Value) (size bytes : Nat) (ht : P.underlying t = some (.slice e)) (hi : P.info? e = some i) (hz : i.zero = some z)
    (hsize : i.size = size) (hby : i.bytes = bytes) (hzs : z.cells.size = size) (hpos : 0 < size)
    (v : Value) (n : Nat) (xs : List Value) (hs : a.eval s = v) (hown : w.ownsRow base e size v n xs)
    (ad : Addr) (m c : Nat) (news : List Value) (hx : a.eval x = .slice (some ad) m c) (hl : news.length = m * size) (hm : 0 < m) (hnews : ∀ j u, news[j]? = some u → w.cell? (ad.add j) = some u) (h1 : ∀ u ∈ news, u.oneCell' = true)
    (h63 : n + m ≤ maxLen) (hbytes : (n + m) * bytes ≤ 140737488355328) (hbase : base ≤ w.heap.size)
    (h : ∀ v' w', Hid (w'.ownsRow base e size v' (n + m) (xs ++ news)) → Hid (Moved w w' v v') → wpList P ops Q rest (a.put o.dst v') w') : wpList P ops Q (o :: rest) a w := by
  refine wpList_plain hgd fun K hK => ?_
  obtain ⟨v', w', hr, h2, h3⟩ := run_append_moveN (P := P) w base t o.type e i z size bytes ht hi hz hsize hby hzs hpos v n xs hown ad m c news hl hm hnews h1 h63 hbytes hbase
  unfold Oper.wp execOp
  simp only [ho, resolve, invoke, builtin, Sem.run_bind, Sem.run_pure, Result.andThen_ok, List.map_toArray, List.map_cons, List.map_nil, hs, hx, hr]
  exact hK _ _ (h v' w' h2 h3)
abbrev Z9 : Value := .agg #[.int .i64 0, .slice none 0 0, .int .i64 0, .slice none 0 0, .int .i64 0, .int .i64 0, .bool false, .int .i64 0, .string ⟨#[]⟩]
theorem info25 : (Try.prog.info? 25).map (fun i => (i.zero, i.size, i.bytes)) = some (some Z9, 9, 112) := by kernel_rfl
theorem info53 : (Try.prog.info? 63).map (fun i => (i.zero, i.size, i.bytes)) = some (some (.agg #[.int .i64 0, .int .i64 0]), 2, 16) := by kernel_rfl
theorem size25 : (Try.prog.info? 25).map (·.size) = some 9 := by kernel_rfl
theorem one9 (M : Nv) : ∀ u ∈ Nv.cs M, u.oneCell' = true := by
  intro u hu
  simp only [Nv.cs, List.mem_cons, List.not_mem_nil, or_false] at hu
  rcases hu with rfl | rfl | rfl | rfl | rfl | rfl | rfl | rfl | rfl <;> rfl
theorem moved_old' {w w' : World} {v v' : Value} {k : Nat} (h : Moved w w' v v') (hk : k < w.heap.size) (hn : v.ownBlock ≠ some k) : w'.heap[k]? = w.heap[k]? := by
  rcases h with ⟨_, h⟩ | ⟨_, h⟩
  · exact h.block k hk (fun e => hn e.symm)
  · exact h.block k hk (by simp)
theorem one9a (M : Nv) : (#[.int .i64 M.k, .slice M.r1 M.r2 M.r3, .int .i64 M.a2, .slice M.s1 M.s2 M.s3, .int .i64 M.a4, .int .i64 M.a5, .bool M.a6, .int .i64 M.a7, .string M.a8] : Array Value).all (·.oneCell') = true := by simp [Value.oneCell']
theorem run_append_nil0 {P : Program} (t ty e : TypeId) (i : TypeInfo) (ht : P.underlying t = some (.slice e)) (hi : P.info? e = some i) (ad : Option Addr) (c : Nat) (w : World) :
    (Builtin.append_ #[t, t] ty #[.slice none 0 0, .slice ad 0 c]).run P w = .ok (.slice none 0 0) w := by
  cases ad with
  | none => simp [Builtin.append_, run_underlying ht, sizeOf, typeInfo, hi, Builtin.lenOf, Builtin.firstCells]
  | some a => simp [Builtin.append_, run_underlying ht, sizeOf, typeInfo, hi, Builtin.lenOf, Builtin.firstCells, loadCells, loadCellsFrom]
/-- a row, or none of it, is copied onto nothing -/
theorem wpList_append_nil {P : Program} {w : World} {ops : Array Oper} {rest : List Oper} {o : Oper} {a : Act} {Q : Exit → Act → World → Prop} (hgd : o.guard = none) (s x : Operand) (t : TypeId)
    (ho : o.op = .call { callee := .builtin .append, args := #[s, x], argTypes := #[t, t] })
    (e : TypeId) (i : TypeInfo) (z : Value) (size bytes : Nat) (ht : P.underlying t = some (.slice e)) (hi : P.info? e = some i) (hz : i.zero = some z)
    (hsize : i.size = size) (hby : i.bytes = bytes) (hzs : z.cells.size = size) (hpos : 0 < size) (hs : a.eval s = .slice none 0 0)
    (ad : Option Addr) (m c : Nat) (news : List Value) (hx : a.eval x = .slice ad m c) (hl : news.length = m * size) (hnews : 0 < m → ∃ b f, ad = some ⟨b, f, none⟩ ∧ ∀ j u, news[j]? = some u → w.cell? ⟨b, f + j, none⟩ = some u) (h1 : ∀ u ∈ news, u.oneCell' = true)
    (h63 : m ≤ maxLen) (hbytes : m * bytes ≤ 140737488355328)
    (h : ∀ v' w', Hid (w'.ownsRow w.heap.size e size v' m news) → Hid (Below w.heap.size w w') → Hid (∀ b, v'.ownBlock = some b → b < w'.heap.size) → wpList P ops Q rest (a.put o.dst v') w') : wpList P ops Q (o :: rest) a w := by
  refine wpList_plain hgd fun K hK => ?_
  rcases Nat.eq_zero_or_pos m with h0 | h0
  · subst h0
    have hn : news = [] := List.length_eq_zero_iff.1 (by omega)
    subst hn
    have hr := run_append_nil0 (P := P) t o.type e i ht hi ad c w
    unfold Oper.wp execOp
    simp only [ho, resolve, invoke, builtin, Sem.run_bind, Sem.run_pure, Result.andThen_ok, List.map_toArray, List.map_cons, List.map_nil, hs, hx, hr]
    exact hK _ _ (h _ _ (World.ownsRow_nil _ _ _ _) (Below.refl _ _) (fun b hb => by cases hb))
  · obtain ⟨b, f, rfl, hc⟩ := hnews h0
    obtain ⟨v', w', hr, h2, h3⟩ := run_append_moveN (P := P) w w.heap.size t o.type e i z size bytes ht hi hz hsize hby hzs hpos (.slice none 0 0) 0 [] (World.ownsRow_nil _ _ _ _) ⟨b, f, none⟩ m c news hl h0 (fun j u hj => by rw [Addr.add_mid]; exact hc j u hj) h1 (by omega) (by rw [Nat.zero_add]; exact hbytes) (Nat.le_refl _)
    unfold Oper.wp execOp
    simp only [ho, resolve, invoke, builtin, Sem.run_bind, Sem.run_pure, Result.andThen_ok, List.map_toArray, List.map_cons, List.map_nil, hs, hx, hr]
    have hb : Below w.heap.size w w' := by
      rcases h3 with ⟨_, h⟩ | ⟨_, h⟩ <;> exact ⟨h.os, h.tape, h.output, h.size, fun k hk => h.block k hk (by simp [Value.ownBlock])⟩
    have h2' : w'.ownsRow w.heap.size e size v' m news := by simpa using h2
    exact hK _ _ (h v' w' h2' hb (fun b hb => (h2.lt b hb).2))
/-- a row of nodes of fixed length -/
def FR (w : World) (b n : Nat) (f : Nat → Nv) : Prop := (∃ arr : Array Value, w.heap[b]? = some (.cells arr 25 (0, 0)) ∧ arr.size = n * 9) ∧ ∀ i, i < n → N9 w b 0 i (f i)
theorem FR.kept {w w' : World} {b n : Nat} {f : Nat → Nv} (h : FR w b n f) (hk : w'.heap[b]? = w.heap[b]?) : FR w' b n f := by
  obtain ⟨⟨arr, h1, h2⟩, h3⟩ := h
  exact ⟨⟨arr, hk.trans h1, h2⟩, fun i hi => (h3 i hi).kept hk⟩
theorem FR.as {w : World} {b n : Nat} {f g : Nat → Nv} (h : FR w b n f) (he : ∀ i, i < n → f i = g i) : FR w b n g := ⟨h.1, fun i hi => by rw [← he i hi]; exact h.2 i hi⟩
theorem FR.lt {w : World} {b n : Nat} {f : Nat → Nv} (h : FR w b n f) : b < w.heap.size := by
  obtain ⟨⟨arr, h1, h2⟩, h3⟩ := h
  exact (Array.getElem?_eq_some_iff.1 h1).1
theorem FR.there {w : World} {b n : Nat} {f : Nat → Nv} (h : FR w b n f) {i : Nat} (hi : i < n) : w.there b (i * 9) 9 := fun j hj => by
  obtain ⟨⟨arr, h1, h2⟩, h3⟩ := h
  refine ⟨?_, Joins.unfrozen_of_block h1 _⟩
  rw [Joins.cell_of_block h1, Array.getElem?_eq_getElem (by omega)]
  rfl
theorem block_setCells {b : Nat} {t : TypeId} : ∀ (vs : List Value) (o : Nat) (w : World) (arr : Array Value), w.heap[b]? = some (.cells arr t (0, 0)) → ∃ arr', (w.setCells b o vs).heap[b]? = some (.cells arr' t (0, 0)) ∧ arr'.size = arr.size
  | [], _, _, arr, h => ⟨arr, h, rfl⟩
  | v :: vs, o, w, arr, h => by
    obtain ⟨arr', h1, h2⟩ := block_setCells vs (o + 1) (w.setCell ⟨b, o, none⟩ v) _ (Joins.block_setCell (i := o) h v)
    exact ⟨arr', h1, by simpa using h2⟩
theorem setCells_old (b : Nat) : ∀ (vs : List Value) (o : Nat) (w : World) (k : Nat), k ≠ b → (w.setCells b o vs).heap[k]? = w.heap[k]?
  | [], _, _, _, _ => rfl
  | v :: vs, o, w, k, h => (setCells_old b vs (o + 1) _ k h).trans (Below.heap_setCell _ _ _ _ h)
theorem setCells_size (b : Nat) : ∀ (vs : List Value) (o : Nat) (w : World), (w.setCells b o vs).heap.size = w.heap.size
  | [], _, _ => rfl
  | v :: vs, o, w => (setCells_size b vs (o + 1) _).trans (by simp [World.setCell])
theorem Below.setCells {B b : Nat} (hb : B ≤ b) : ∀ (vs : List Value) (o : Nat) (a w : World), Below B a w → Below B a (w.setCells b o vs)
  | [], _, _, _, h => h
  | v :: vs, o, a, w, h => Below.setCells hb vs (o + 1) a _ (h.setCell (by exact hb) v)
theorem FR.set {w : World} {b n : Nat} {f : Nat → Nv} (h : FR w b n f) {i : Nat} (hi : i < n) (M : Nv) : FR (w.setCells b (i * 9) (Nv.cs M)) b n (fun j => if j = i then M else f j) := by
  have ht := h.there hi
  obtain ⟨⟨arr, h1, h2⟩, h3⟩ := h
  refine ⟨?_, fun j hj => ?_⟩
  · obtain ⟨arr', g1, g2⟩ := block_setCells (Nv.cs M) (i * 9) w arr h1
    exact ⟨arr', g1, by omega⟩
  · by_cases e : j = i
    · subst e
      have hin := World.cell?_setCells_in b (Nv.cs M) (j * 9) w (fun k hk => (ht k (by simpa using hk)).1)
      simp only [if_pos]
      unfold N9
      simp only [Nat.zero_add]
      exact ⟨hin 0 (by simp), hin 1 (by simp), hin 2 (by simp), hin 3 (by simp), hin 4 (by simp), hin 5 (by simp), hin 6 (by simp), hin 7 (by simp), hin 8 (by simp)⟩
    · have hout : ∀ k, k < 9 → (w.setCells b (i * 9) (Nv.cs M)).cell? ⟨b, 0 + j * 9 + k, none⟩ = w.cell? ⟨b, 0 + j * 9 + k, none⟩ := fun k hk => World.cell?_setCells_out b (Nv.cs M) (i * 9) w _ (fun _ _ => by simp only [List.length_cons, List.length_nil]; omega)
      simp only [if_neg e]
      obtain ⟨n0, n1, n2, n3, n4, n5, n6, n7, n8⟩ := h3 j hj
      exact ⟨(hout 0 (by omega)).trans n0, (hout 1 (by omega)).trans n1, (hout 2 (by omega)).trans n2, (hout 3 (by omega)).trans n3, (hout 4 (by omega)).trans n4, (hout 5 (by omega)).trans n5, (hout 6 (by omega)).trans n6, (hout 7 (by omega)).trans n7, (hout 8 (by omega)).trans n8⟩
theorem make9 (c : Nat) (hc : c ≤ 1000000) (w : World) : (Instr.makeSlice 23 (.int .i64 (c : Int)) (.int .i64 (c : Int))).run Try.prog w = .ok (.slice (some ⟨w.heap.size, 0, none⟩) c c) (w.alloc (.cells (madeCells Z9.cells (c * 9)) 25)) := by
  obtain ⟨i0, hi0, hz0, hz1, hz2⟩ := info_parts info25
  have h := run_make (P := Try.prog) w 23 25 i0 Z9 Try.underlying23 hi0 hz0 .i64 .i64 c c (by omega) (Int.le_refl _) (by rw [hz2]; omega) (by omega)
  simp only [Int.toNat_natCast, hz1] at h
  exact h
theorem FR.made (w : World) (c : Nat) : FR (w.alloc (.cells (madeCells Z9.cells (c * 9)) 25)) w.heap.size c (fun _ => default) := by
  have hb := heap_alloc_new w (.cells (madeCells Z9.cells (c * 9)) 25)
  refine ⟨⟨_, hb, size_madeCells _ _⟩, fun i hi => ?_⟩
  have hc : ∀ k, k < 9 → (w.alloc (.cells (madeCells Z9.cells (c * 9)) 25)).cell? ⟨w.heap.size, 0 + i * 9 + k, none⟩ = some (Z9.cells[k]!) := fun k hk => by
    rw [Joins.cell_of_block hb]
    have h9 : Z9.cells.size = 9 := rfl
    simp only [madeCells, h9]
    rw [Array.getElem?_map, Array.getElem?_range, if_pos (by omega)]
    simp only [Option.map_some]
    rw [show (0 + i * 9 + k) % 9 = k by omega]
  exact ⟨hc 0 (by omega), hc 1 (by omega), hc 2 (by omega), hc 3 (by omega), hc 4 (by omega), hc 5 (by omega), hc 6 (by omega), hc 7 (by omega), hc 8 (by omega)⟩
theorem nine_cases {k : Nat} (hk : k < 9) : k = 0 ∨ k = 1 ∨ k = 2 ∨ k = 3 ∨ k = 4 ∨ k = 5 ∨ k = 6 ∨ k = 7 ∨ k = 8 := by omega
theorem FR.owns {w : World} {b n : Nat} {f : Nat → Nv} (h : FR w b n f) (hn : n ≤ maxLen) : w.ownsRow 0 25 9 (.slice (some ⟨b, 0, none⟩) n n) n (((List.range n).map f).flatMap Nv.cs) := by
  obtain ⟨⟨arr, h1, h2⟩, h3⟩ := h
  refine ⟨by rw [flat9_len]; simp, .inr ⟨b, n, arr, rfl, Nat.zero_le _, h1, Nat.le_refl _, hn, h2, ?_⟩⟩
  apply List.ext_getElem?
  intro j
  by_cases hj : j < n * 9
  · obtain ⟨i, r, hr, rfl⟩ : ∃ i r, r < 9 ∧ j = i * 9 + r := ⟨j / 9, j % 9, by omega, by omega⟩
    have hi : i < n := by omega
    rw [flat9 ((List.range n).map f) i r (by simpa using hi) hr, List.getElem?_take_of_lt hj]
    simp only [List.getElem_map, List.getElem_range]
    obtain ⟨n0, n1, n2, n3, n4, n5, n6, n7, n8⟩ := h3 i hi
    rw [Array.getElem?_toList, ← Joins.cell_of_block h1 (i * 9 + r)]
    simp only [Nat.zero_add] at n0 n1 n2 n3 n4 n5 n6 n7 n8
    rcases nine_cases hr with rfl | rfl | rfl | rfl | rfl | rfl | rfl | rfl | rfl
    · exact n0
    · exact n1
    · exact n2
    · exact n3
    · exact n4
    · exact n5
    · exact n6
    · exact n7
    · exact n8
  · rw [List.getElem?_eq_none (by simp; omega), List.getElem?_eq_none (by rw [flat9_len]; simp; omega)]
end Go.Proofs.Ytdidopgenhpakaa
