/- HELPERS: rows of a call's own that grow; what a call that writes leaves. -/
import Derived.Test.YtpckbpimgoljoaaGreatK4
import Derived.Test.YtpckbpimgoljoaaGreatK1
import Derived.Test.YtpckbpimgoljoaaGreatCc
import Derived.Deep.Cut
import Derived.Deep.MidRow
import Derived.Deep.OwnRows
import Derived.Laws.Rows
import Derived.WalkLawsBesides
import Derived.Maps.AppendAt
import Derived.Deep.RegionLaw
import Derived.Laws.CopyOwn
import Derived.Lib.LazyBuf
/- HELPERS: trees that lie in some blocks; rows of them. -/
namespace Go.Proofs.YtpckbpimgoljoaaGreat
open Go.RowKit
set_option linter.unusedVariables false
set_option linter.unusedSimpArgs false
/-- a row of ranges in blocks of A -/
def RP (w : World) (A : Nat → Prop) (ad : Option Addr) (R : List (Int × Int)) : Prop :=
  R ≠ [] → ∃ b o, ad = some ⟨b, o, none⟩ ∧ A b ∧ ∀ i (hi : i < R.length), w.cell? ⟨b, o + i * 2, none⟩ = some (.int .i64 R[i].1) ∧ w.cell? ⟨b, o + i * 2 + 1, none⟩ = some (.int .i64 R[i].2)
/-- a tree lies in blocks of A -/
inductive TP (w : World) (A : Nat → Prop) : Nv → Tn → Prop
  | mk {N : Nv} {R : List (Int × Int)} {ts : List Tn} {ND : Nat → Nv} (ok : N.ok) (hr : N.r2 = R.length) (hR : RP w A N.r1 R) (hRk : ∀ x ∈ R, I64ok x.1 ∧ I64ok x.2) (hs : N.s2 = ts.length)
      (hS : 0 < ts.length → ∃ b o, N.s1 = some ⟨b, o, none⟩ ∧ A b ∧ ∀ i, i < ts.length → N9 w b o i (ND i)) (hk : ∀ i (hi : i < ts.length), TP w A (ND i) ts[i]) :
      TP w A N (.mk N.k R N.a2 ts N.a4 N.a5 N.a6 N.a7 N.a8)
theorem RP.kept {w w' : World} {A A' : Nat → Prop} {ad : Option Addr} {R : List (Int × Int)} (h : RP w A ad R) (hk : ∀ b, A b → w'.heap[b]? = w.heap[b]?) (hA : ∀ b, A b → A' b) : RP w' A' ad R := fun hn => by
  obtain ⟨b, o, h1, h2, h3⟩ := h hn
  exact ⟨b, o, h1, hA b h2, fun i hi => ⟨(cell_eq (hk b h2) _).trans (h3 i hi).1, (cell_eq (hk b h2) _).trans (h3 i hi).2⟩⟩
theorem TP.kept {w w' : World} {A A' : Nat → Prop} {N : Nv} {t : Tn} (h : TP w A N t) (hk : ∀ b, A b → w'.heap[b]? = w.heap[b]?) (hA : ∀ b, A b → A' b) : TP w' A' N t := by
  induction h with
  | mk ok hr hR hRk hs hS hkk ih =>
    refine .mk ok hr (hR.kept hk hA) hRk hs (fun hp => ?_) ih
    obtain ⟨b, o, h1, h2, h3⟩ := hS hp
    exact ⟨b, o, h1, hA b h2, fun i hi => (h3 i hi).kept (hk b h2)⟩
theorem TI.tp {w : World} {B : Nat} {N : Nv} {t : Tn} (h : TI w B N t) : TP w (fun b => b < B) N t := by
  induction h with
  | mk ok hr hR hRk hs hS hkk ih => exact .mk ok hr hR hRk hs hS ih
theorem TP.ti {w : World} {A : Nat → Prop} {B : Nat} {N : Nv} {t : Tn} (h : TP w A N t) (hA : ∀ b, A b → b < B) : TI w B N t := by
  induction h with
  | mk ok hr hR hRk hs hS hkk ih =>
    refine .mk ok hr (fun hn => ?_) hRk hs (fun hp => ?_) ih
    · obtain ⟨b, o, h1, h2, h3⟩ := hR hn; exact ⟨b, o, h1, hA b h2, h3⟩
    · obtain ⟨b, o, h1, h2, h3⟩ := hS hp; exact ⟨b, o, h1, hA b h2, h3⟩
theorem TP.ok {w : World} {A : Nat → Prop} {N : Nv} {t : Tn} (h : TP w A N t) : N.ok := by cases h; assumption
theorem flat9 (MS : List Nv) : ∀ (j k : Nat) (hj : j < MS.length), k < 9 → (MS.flatMap Nv.cs)[j * 9 + k]? = (Nv.cs MS[j])[k]? := by
  induction MS with
  | nil => intro j k hj; simp at hj
  | cons M MS ih =>
    intro j k hj hk
    rw [List.flatMap_cons]
    have e9 : (Nv.cs M).length = 9 := rfl
    cases j with
    | zero => rw [List.getElem?_append_left (by rw [e9]; omega)]; simp
    | succ j =>
      rw [List.getElem?_append_right (by rw [e9]; omega)]
      have := ih j k (by simpa using hj) hk
      rw [e9, show (j + 1) * 9 + k - 9 = j * 9 + k by omega, this]
      rfl
theorem flat9_len (MS : List Nv) : (MS.flatMap Nv.cs).length = MS.length * 9 := by
  induction MS with
  | nil => rfl
  | cons M MS ih =>
    have e9 : (Nv.cs M).length = 9 := rfl
    rw [List.flatMap_cons, List.length_append, ih, e9, List.length_cons]
    omega
/-- a row of trees that grows: their node's cells lie in it, what is below them in blocks of A -/
structure RowN (base B : Nat) (w : World) (uv : Value) (MS : List Nv) (us : List Tn) (A : Nat → Prop) : Prop where
  row : w.ownsRow base 25 9 uv MS.length (MS.flatMap Nv.cs)
  len : MS.length = us.length
  tp : ∀ j (h : j < us.length) (h' : j < MS.length), TP w A MS[j] us[j]
  inA : ∀ b, b < B → A b
  low : ∀ b, A b → b < w.heap.size
  out : ∀ b, uv.ownBlock = some b → ¬ A b
/-- such a row as the list of a node -/
theorem RowN.node {base B : Nat} {w : World} {uv : Value} {MS : List Nv} {us : List Tn} {A : Nat → Prop} (h : RowN base B w uv MS us A) {N : Nv} {R : List (Int × Int)} (ok : N.ok) (hr : N.r2 = R.length) (hR : RP w A N.r1 R) (hRk : ∀ x ∈ R, I64ok x.1 ∧ I64ok x.2) (hu : uv = .slice N.s1 N.s2 N.s3) :
    TP w (fun b => A b ∨ uv.ownBlock = some b) N (.mk N.k R N.a2 us N.a4 N.a5 N.a6 N.a7 N.a8) := by
  have hs2 : N.s2 = us.length := by
    rcases Joins.ownsRow_forms h.row with ⟨e, h0⟩ | ⟨b, cap, e⟩
    · rw [e] at hu
      simp only [Value.slice.injEq] at hu
      have := h.len
      omega
    · rw [e] at hu
      simp only [Value.slice.injEq] at hu
      have := h.len
      omega
  refine .mk (ND := fun i => MS.getD i default) ok hr (hR.kept (fun _ _ => rfl) (fun b hb => .inl hb)) hRk hs2 (fun hp => ?_) (fun i hi => ?_)
  · rcases Joins.ownsRow_forms h.row with ⟨e, h0⟩ | ⟨b, cap, e⟩
    · have := h.len; omega
    · rw [e] at hu
      simp only [Value.slice.injEq] at hu
      refine ⟨b, 0, hu.1.symm, .inr (by rw [e]; rfl), fun i hi => ?_⟩
      have hl := h.len
      have hrow := h.row
      rw [e] at hrow
      have c : ∀ k, k < 9 → w.cell? ⟨b, 0 + i * 9 + k, none⟩ = (Nv.cs (MS.getD i default))[k]? := fun k hk => by
        rw [Nat.zero_add, hrow.cellAt (i * 9 + k) (by omega), flat9 MS i k (by omega) hk]
        simp [List.getD_eq_getElem?_getD, List.getElem?_eq_getElem (show i < MS.length by omega)]
      exact ⟨c 0 (by omega), c 1 (by omega), c 2 (by omega), c 3 (by omega), c 4 (by omega), c 5 (by omega), c 6 (by omega), c 7 (by omega), c 8 (by omega)⟩
  · have hl := h.len
    rw [List.getD_eq_getElem?_getD, List.getElem?_eq_getElem (show i < MS.length by omega)]
    exact (h.tp i hi (by omega)).kept (fun _ _ => rfl) (fun b hb => .inl hb)
theorem RowN.nil (base B : Nat) (w : World) (hB : B ≤ w.heap.size) : RowN base B w (.slice none 0 0) [] [] (fun b => b < B) :=
  ⟨World.ownsRow_nil _ _ _ _, rfl, fun j h => by simp at h, fun b hb => hb, fun b hb => by omega, fun b hb => by cases hb⟩
/-- one more -/
theorem RowN.next {base B : Nat} {w w' w2 w3 : World} {uv v' : Value} {MS : List Nv} {us : List Tn} {A : Nat → Prop} (h : RowN base B w uv MS us A) {M : Nv} {u : Tn} (hw : w.heap.size ≤ w'.heap.size) (hk1 : ∀ b, b < w.heap.size → w'.heap[b]? = w.heap[b]?) (hb : Below w'.heap.size w' w2) (hM : TP w2 (fun b => b < B ∨ w'.heap.size ≤ b ∧ b < w2.heap.size) M u) (o : Obj)
    (ho : w3.ownsRow base 25 9 v' (MS.length + 1) (MS.flatMap Nv.cs ++ Nv.cs M)) (hm : Moved (w2.alloc o) w3 uv v') : RowN base B w3 v' (MS ++ [M]) (us ++ [u]) (fun b => A b ∨ w'.heap.size ≤ b ∧ b < w2.heap.size) := by
  have hub : ∀ k, uv.ownBlock = some k → k < w.heap.size := fun k hk => (h.row.lt k hk).2
  have s2 := hb.size
  have e3 : ∀ k, k < w2.heap.size → uv.ownBlock ≠ some k → w3.heap[k]? = w2.heap[k]? := fun k hk hn => by
    have e : (w2.alloc o).heap[k]? = w2.heap[k]? := heap_alloc_old w2 o hk
    rcases hm with ⟨_, h⟩ | ⟨_, h⟩
    · exact (h.block k (by simp; omega) (fun h => hn h.symm)).trans e
    · exact (h.block k (by simp; omega) (by simp)).trans e
  have hs3 : w2.heap.size ≤ w3.heap.size := by rcases hm with ⟨_, h⟩ | ⟨_, h⟩ <;> (have := h.size; simp at this; omega)
  have hout : ∀ b, (A b ∨ w'.heap.size ≤ b ∧ b < w2.heap.size) → uv.ownBlock ≠ some b := fun b hA e => by
    rcases hA with hA | hA
    · exact h.out b e hA
    · have := hub b e; omega
  have hlow : ∀ b, (A b ∨ w'.heap.size ≤ b ∧ b < w2.heap.size) → b < w2.heap.size := fun b hA => by
    rcases hA with hA | hA
    · have := h.low b hA; omega
    · omega
  refine ⟨?_, by simp [h.len], fun j hj hj' => ?_, fun b hb => .inl (h.inA b hb), fun b hA => by have := hlow b hA; omega, fun b hb hA => ?_⟩
  · rw [List.length_append, List.flatMap_append]
    simpa using ho
  · by_cases hjl : j < us.length
    · have hl := h.len
      rw [List.getElem_append_left (by omega), List.getElem_append_left hjl]
      exact (h.tp j hjl (by omega)).kept (fun b hA => (e3 b (hlow b (.inl hA)) (hout b (.inl hA))).trans ((hb.block b (by have := h.low b hA; omega)).trans (hk1 b (h.low b hA)))) (fun b hA => .inl hA)
    · have hl := h.len
      simp only [List.length_append, List.length_cons, List.length_nil] at hj hj'
      have e : j = us.length := by omega
      subst e
      rw [List.getElem_append_right (by omega), List.getElem_append_right (Nat.le_refl _)]
      simp only [Nat.sub_self, hl, List.getElem_cons_zero]
      refine hM.kept (fun b hA => ?_) (fun b hA => ?_)
      · rcases hA with hA | hA
        · exact e3 b (by have := h.low b (h.inA b hA); omega) (hout b (.inl (h.inA b hA)))
        · exact e3 b hA.2 (hout b (.inr hA))
      · rcases hA with hA | hA
        · exact .inl (h.inA b hA)
        · exact .inr hA
  · rcases hm with ⟨h0, _⟩ | ⟨h0, _⟩
    · rw [h0] at hb
      exact hout b hA hb
    · rw [h0] at hb
      simp at hb
      have := hlow b hA
      omega
end Go.Proofs.YtpckbpimgoljoaaGreat
namespace Go.Proofs.YtpckbpimgoljoaaGreat
open Go.RowKit
set_option linter.unusedVariables false
set_option linter.unusedSimpArgs false
theorem run_append_moveN {P : Program} (w : World) (base : Nat) (t ty e : TypeId) (i : TypeInfo) (z : Value) (size bytes : Nat) (ht : P.underlying t = some (.slice e)) (hi : P.info? e = some i) (hz : i.zero = some z)
    (hsize : i.size = size) (hby : i.bytes = bytes) (hzs : z.cells.size = size) (hpos : 0 < size)
    (v : Value) (n : Nat) (xs : List Value) (hown : w.ownsRow base e size v n xs)
    (a : Addr) (m c : Nat) (news : List Value) (hl : news.length = m * size) (hm : 0 < m) (hnews : ∀ j u, news[j]? = some u → w.cell? (a.add j) = some u) (h1 : ∀ u ∈ news, u.oneCell' = true)
    (h63 : n + m ≤ maxLen) (hbytes : (n + m) * bytes ≤ 140737488355328) (hbase : base ≤ w.heap.size) :
    ∃ v' w', (Builtin.append_ #[t, t] ty #[v, .slice (some a) m c]).run P w = .ok v' w' ∧ w'.ownsRow base e size v' (n + m) (xs ++ news) ∧ Moved w w' v v' := by
  obtain ⟨v', w', hrun, h2, h3, h4, h5⟩ := run_append_own_at (P := P) w base t ty e i z size bytes ht hi hz hsize hby hzs hpos v n xs hown a m c news hl hnews h1 h63 hbytes hbase
  refine ⟨v', w', hrun, h2, ?_⟩
  rcases hown.2 with ⟨rfl, rfl⟩ | ⟨g, cap, cur, rfl, hbg, hg, hnc, hcm, hcs, htake⟩
  · rcases h5 with h5 | h5
    · exact .inl ⟨h5, h3⟩
    · exact .inr ⟨h5, h3⟩
  · by_cases hroom : n + m ≤ cap
    · have hr := run_append_room (P := P) w t ty e i ht hi g n cap cur hg a m c news (by rw [hsize]; omega) hnews h1 hroom (by rw [hsize, hcs, hl, ← Nat.add_mul]; exact Nat.mul_le_mul_right _ hroom)
      have he := hrun.symm.trans hr
      injection he with e1 e2
      left
      exact ⟨by rw [e1]; rfl, h3⟩
    · have holds : ∀ j u, xs[j]? = some u → w.cell? ((⟨g, 0, none⟩ : Addr).add j) = some u := hown.cells (g := g) rfl
      have hr := run_append_grow (P := P) w t ty e i z ht hi hz ⟨g, 0, none⟩ n cap xs (by rw [hsize]; exact hown.1) holds a m c news (by rw [hsize]; omega) hnews (by omega) (by unfold maxLen at h63; omega) (growslice_fits (by omega) (by rw [hby]; exact hbytes))
      have he := hrun.symm.trans hr
      injection he with e1 e2
      right
      refine ⟨by rw [e1]; rfl, ?_⟩
      rw [e2]
      exact ⟨rfl, rfl, rfl, by simp, fun k hk _ => heap_alloc_old w.drew _ hk⟩
theorem wpList_append_moveN {P : Program} {w : World} {ops : Array Oper} {rest : List Oper} {o : Oper} {a : Act} {Q : Exit → Act → World → Prop} (hgd : o.guard = none) (s x : Operand) (t : TypeId)
    (ho : o.op = .call { callee := .builtin .append, args := #[s, x], argTypes := #[t, t] })
    (base : Nat) (e : TypeId) (i : TypeInfo) (z : Value) (size bytes : Nat) (ht : P.underlying t = some (.slice e)) (hi : P.info? e = some i) (hz : i.zero = some z)
    (hsize : i.size = size) (hby : i.bytes = bytes) (hzs : z.cells.size = size) (hpos : 0 < size)
    (v : Value) (n : Nat) (xs : List Value) (hs : a.eval s = v) (hown : w.ownsRow base e size v n xs)
    (ad : Addr) (m c : Nat) (news : List Value) (hx : a.eval x = .slice (some ad) m c) (hl : news.length = m * size) (hm : 0 < m) (hnews : ∀ j u, news[j]? = some u → w.cell? (ad.add j) = some u) (h1 : ∀ u ∈ news, u.oneCell' = true)
    (h63 : n + m ≤ maxLen) (hbytes : (n + m) * bytes ≤ 140737488355328) (hbase : base ≤ w.heap.size)
    (h : ∀ v' w', Hid (w'.ownsRow base e size v' (n + m) (xs ++ news)) → Hid (Moved w w' v v') → wpList P ops Q rest (a.put o.dst v') w') : wpList P ops Q (o :: rest) a w := by
  refine wpList_plain hgd fun K hK => ?_
  obtain ⟨v', w', hr, h2, h3⟩ := run_append_moveN (P := P) w base t o.type e i z size bytes ht hi hz hsize hby hzs hpos v n xs hown ad m c news hl hm hnews h1 h63 hbytes hbase
  unfold Oper.wp execOp
  simp only [ho, resolve, invoke, builtin, Sem.run_bind, Sem.run_pure, Result.andThen_ok, List.map_toArray, List.map_cons, List.map_nil, hs, hx, hr]
  exact hK _ _ (h v' w' h2 h3)
theorem moved_old' {w w' : World} {v v' : Value} {k : Nat} (h : Moved w w' v v') (hk : k < w.heap.size) (hn : v.ownBlock ≠ some k) : w'.heap[k]? = w.heap[k]? := by
  rcases h with ⟨_, h⟩ | ⟨_, h⟩
  · exact h.block k hk (fun e => hn e.symm)
  · exact h.block k hk (by simp)
theorem run_append_nil0 {P : Program} (t ty e : TypeId) (i : TypeInfo) (ht : P.underlying t = some (.slice e)) (hi : P.info? e = some i) (ad : Option Addr) (c : Nat) (w : World) :
    (Builtin.append_ #[t, t] ty #[.slice none 0 0, .slice ad 0 c]).run P w = .ok (.slice none 0 0) w := by
  cases ad with
  | none => simp [Builtin.append_, run_underlying ht, sizeOf, typeInfo, hi, Builtin.lenOf, Builtin.firstCells]
  | some a => simp [Builtin.append_, run_underlying ht, sizeOf, typeInfo, hi, Builtin.lenOf, Builtin.firstCells, loadCells, loadCellsFrom]
/-- a row, or none of it, is copied onto nothing -/
theorem wpList_append_nil {P : Program} {w : World} {ops : Array Oper} {rest : List Oper} {o : Oper} {a : Act} {Q : Exit → Act → World → Prop} (hgd : o.guard = none) (s x : Operand) (t : TypeId)
    (ho : o.op = .call { callee := .builtin .append, args := #[s, x], argTypes := #[t, t] })
    (e : TypeId) (i : TypeInfo) (z : Value) (size bytes : Nat) (ht : P.underlying t = some (.slice e)) (hi : P.info? e = some i) (hz : i.zero = some z)
    (hsize : i.size = size) (hby : i.bytes = bytes) (hzs : z.cells.size = size) (hpos : 0 < size) (hs : a.eval s = .slice none 0 0)
    (ad : Option Addr) (m c : Nat) (news : List Value) (hx : a.eval x = .slice ad m c) (hl : news.length = m * size) (hnews : 0 < m → ∃ b f, ad = some ⟨b, f, none⟩ ∧ ∀ j u, news[j]? = some u → w.cell? ⟨b, f + j, none⟩ = some u) (h1 : ∀ u ∈ news, u.oneCell' = true)
    (h63 : m ≤ maxLen) (hbytes : m * bytes ≤ 140737488355328)
    (h : ∀ v' w', Hid (w'.ownsRow w.heap.size e size v' m news) → Hid (Below w.heap.size w w') → Hid (∀ b, v'.ownBlock = some b → b < w'.heap.size) → wpList P ops Q rest (a.put o.dst v') w') : wpList P ops Q (o :: rest) a w := by
  refine wpList_plain hgd fun K hK => ?_
  rcases Nat.eq_zero_or_pos m with h0 | h0
  · subst h0
    have hn : news = [] := List.length_eq_zero_iff.1 (by omega)
    subst hn
    have hr := run_append_nil0 (P := P) t o.type e i ht hi ad c w
    unfold Oper.wp execOp
    simp only [ho, resolve, invoke, builtin, Sem.run_bind, Sem.run_pure, Result.andThen_ok, List.map_toArray, List.map_cons, List.map_nil, hs, hx, hr]
    exact hK _ _ (h _ _ (World.ownsRow_nil _ _ _ _) (Below.refl _ _) (fun b hb => by cases hb))
  · obtain ⟨b, f, rfl, hc⟩ := hnews h0
    obtain ⟨v', w', hr, h2, h3⟩ := run_append_moveN (P := P) w w.heap.size t o.type e i z size bytes ht hi hz hsize hby hzs hpos (.slice none 0 0) 0 [] (World.ownsRow_nil _ _ _ _) ⟨b, f, none⟩ m c news hl h0 (fun j u hj => by rw [Addr.add_mid]; exact hc j u hj) h1 (by omega) (by rw [Nat.zero_add]; exact hbytes) (Nat.le_refl _)
    unfold Oper.wp execOp
    simp only [ho, resolve, invoke, builtin, Sem.run_bind, Sem.run_pure, Result.andThen_ok, List.map_toArray, List.map_cons, List.map_nil, hs, hx, hr]
    have hb : Below w.heap.size w w' := by
      rcases h3 with ⟨_, h⟩ | ⟨_, h⟩ <;> exact ⟨h.os, h.tape, h.output, h.size, fun k hk => h.block k hk (by simp [Value.ownBlock])⟩
    have h2' : w'.ownsRow w.heap.size e size v' m news := by simpa using h2
    exact hK _ _ (h v' w' h2' hb (fun b hb => (h2.lt b hb).2))
theorem block_setCells {b : Nat} {t : TypeId} : ∀ (vs : List Value) (o : Nat) (w : World) (arr : Array Value), w.heap[b]? = some (.cells arr t (0, 0)) → ∃ arr', (w.setCells b o vs).heap[b]? = some (.cells arr' t (0, 0)) ∧ arr'.size = arr.size
  | [], _, _, arr, h => ⟨arr, h, rfl⟩
  | v :: vs, o, w, arr, h => by
    obtain ⟨arr', h1, h2⟩ := block_setCells vs (o + 1) (w.setCell ⟨b, o, none⟩ v) _ (Joins.block_setCell (i := o) h v)
    exact ⟨arr', h1, by simpa using h2⟩
theorem setCells_old (b : Nat) : ∀ (vs : List Value) (o : Nat) (w : World) (k : Nat), k ≠ b → (w.setCells b o vs).heap[k]? = w.heap[k]?
  | [], _, _, _, _ => rfl
  | v :: vs, o, w, k, h => (setCells_old b vs (o + 1) _ k h).trans (Below.heap_setCell _ _ _ _ h)
theorem Below.setCells {B b : Nat} (hb : B ≤ b) : ∀ (vs : List Value) (o : Nat) (a w : World), Below B a w → Below B a (w.setCells b o vs)
  | [], _, _, _, h => h
  | v :: vs, o, a, w, h => Below.setCells hb vs (o + 1) a _ (h.setCell (by exact hb) v)
/-- the cells of ranges -/
abbrev O2 (R : List (Int × Int)) : List Value := R.flatMap fun x => [.int .i64 x.1, .int .i64 x.2]
theorem O2_len (R : List (Int × Int)) : (O2 R).length = R.length * 2 := by
  induction R with
  | nil => rfl
  | cons x R ih => simp only [O2, List.flatMap_cons, List.length_append, List.length_cons, List.length_nil] at ih ⊢; omega
theorem O2_at : ∀ (R : List (Int × Int)) (i : Nat) (hi : i < R.length), (O2 R)[i * 2]? = some (.int .i64 R[i].1) ∧ (O2 R)[i * 2 + 1]? = some (.int .i64 R[i].2) := by
  intro R
  induction R with
  | nil => intro i hi; simp at hi
  | cons x R ih =>
    intro i hi
    cases i with
    | zero => simp [O2]
    | succ i =>
      have := ih i (by simpa using hi)
      have hf : O2 (x :: R) = [.int .i64 x.1, .int .i64 x.2] ++ O2 R := by simp [O2]
      rw [hf, show (i + 1) * 2 = i * 2 + 2 by omega, List.getElem?_append_right (by simp), show i * 2 + 2 + 1 = i * 2 + 1 + 2 by omega, List.getElem?_append_right (by simp)]
      simpa using this
theorem O2_one (R : List (Int × Int)) : ∀ u ∈ O2 R, u.oneCell' = true := by
  intro u hu
  simp only [O2, List.mem_flatMap] at hu
  obtain ⟨x, _, hx⟩ := hu
  simp at hx
  rcases hx with rfl | rfl <;> rfl
theorem row_len {w : World} {base e size n : Nat} {a : Option Addr} {l c : Nat} {xs : List Value} (h : w.ownsRow base e size (.slice a l c) n xs) : l = n := by
  rcases h.2 with ⟨e, h0⟩ | ⟨g, cap, cur, e, _⟩
  · simp only [Value.slice.injEq] at e; omega
  · simp only [Value.slice.injEq] at e; omega
/-- what an append onto a row of the call's own leaves of all else -/
structure Frm (w w' : World) (v v' : Value) : Prop where
  os : w'.os = w.os
  tape : w'.tape = w.tape
  output : w'.output = w.output
  size : w.heap.size ≤ w'.heap.size
  block : ∀ k, k < w.heap.size → v.ownBlock ≠ some k → w'.heap[k]? = w.heap[k]?
  own : ∀ k, v'.ownBlock = some k → v.ownBlock = some k ∨ k = w.heap.size
theorem Moved.frm {w w' : World} {v v' : Value} (h : Moved w w' v v') : Frm w w' v v' := by
  rcases h with ⟨e, h⟩ | ⟨e, h⟩
  · exact ⟨h.os, h.tape, h.output, h.size, fun k hk hn => h.block k hk (fun e => hn e.symm), fun k hk => .inl (by rw [← e]; exact hk)⟩
  · exact ⟨h.os, h.tape, h.output, h.size, fun k hk hn => h.block k hk (by simp), fun k hk => .inr (by rw [e] at hk; simp at hk; exact hk.symm)⟩
theorem Frm.refl (w : World) (v : Value) : Frm w w v v := ⟨rfl, rfl, rfl, Nat.le_refl _, fun _ _ _ => rfl, fun k hk => .inl hk⟩
theorem step_append_moveN {P : Program} {ops : Array Oper} {o : Oper} {a : Act} {w : World} {K : Act → World → Prop} {Q : Exit → Act → World → Prop} {E : Prop}
    (hg : o.guard = none) (s x : Operand) (t : TypeId) (hop : o.op = Op.call { callee := Callee.builtin Builtin.append, args := #[s, x], argTypes := #[t, t] })
    (base : Nat) (e : TypeId) (i : TypeInfo) (z : Value) (size bytes : Nat) (h1 : P.underlying t = some (.slice e)) (h2 : P.info? e = some i) (h3 : i.zero = some z) (h4 : i.size = size) (h5 : i.bytes = bytes) (h6 : z.cells.size = size) (h7 : 0 < size)
    (v : Value) (n : Nat) (xs : List Value) (hs : a.eval s = v) (hown : w.ownsRow base e size v n xs)
    (ad : Addr) (m c : Nat) (news : List Value) (hx : a.eval x = .slice (some ad) m c) (hn : news.length = m * size) (hm : 0 < m) (hc : ∀ j u, news[j]? = some u → w.cell? (ad.add j) = some u) (h1c : ∀ u ∈ news, u.oneCell' = true)
    (b1 : n + m ≤ maxLen) (b2 : (n + m) * bytes ≤ 140737488355328) (hb : base ≤ w.heap.size)
    (hK : ∀ v' w', w'.ownsRow base e size v' (n + m) (xs ++ news) → Moved w w' v v' → K (a.put o.dst v') w') :
    if Region.wanted o (yielded ops a.tmps) = true then Oper.wp P o a w K Q else E := by
  have hw : Region.wanted o (yielded ops a.tmps) = true := by simp [Region.wanted, hg]
  rw [if_pos hw]
  obtain ⟨v', w', hrun, r1, r2⟩ := run_append_moveN (P := P) w base t o.type e i z size bytes h1 h2 h3 h4 h5 h6 h7 v n xs hown ad m c news hn hm hc h1c b1 b2 hb
  unfold Oper.wp
  simp [execOp, hop, resolve, invoke, builtin, hs, hx, hrun, Result.andThen]
  exact hK v' w' r1 r2
theorem step_append_row {P : Program} {ops : Array Oper} {o : Oper} {a : Act} {w : World} {K : Act → World → Prop} {Q : Exit → Act → World → Prop} {E : Prop}
    (hg : o.guard = none) (s x : Operand) (t : TypeId) (hop : o.op = Op.call { callee := Callee.builtin Builtin.append, args := #[s, x], argTypes := #[t, t] })
    (base : Nat) (e : TypeId) (i : TypeInfo) (z : Value) (size bytes : Nat) (h1 : P.underlying t = some (.slice e)) (h2 : P.info? e = some i) (h3 : i.zero = some z) (h4 : i.size = size) (h5 : i.bytes = bytes) (h6 : z.cells.size = size) (h7 : 0 < size)
    (v : Value) (n : Nat) (xs : List Value) (hs : a.eval s = v) (hown : w.ownsRow base e size v n xs)
    (b m c : Nat) (arr : Array Value) (te : TypeId) (hx : a.eval x = .slice (some ⟨b, 0, none⟩) m c) (hb' : w.heap[b]? = some (.cells arr te (0, 0))) (hn : arr.size = m * size) (hm : 0 < m) (h1c : ∀ u ∈ arr.toList, u.oneCell' = true)
    (b1 : n + m ≤ maxLen) (b2 : (n + m) * bytes ≤ 140737488355328) (hb : base ≤ w.heap.size)
    (hK : ∀ v' w', Hid (w'.ownsRow base e size v' (n + m) (xs ++ arr.toList)) → Hid (Frm w w' v v') → K (a.put o.dst v') w') :
    if Region.wanted o (yielded ops a.tmps) = true then Oper.wp P o a w K Q else E :=
  step_append_moveN hg s x t hop base e i z size bytes h1 h2 h3 h4 h5 h6 h7 v n xs hs hown ⟨b, 0, none⟩ m c arr.toList hx (by simpa using hn) hm (fun j u hj => by rw [Addr.add_mid, Nat.zero_add, Joins.cell_of_block hb']; simpa using hj) h1c b1 b2 hb (fun v' w' r1 r2 => hK v' w' r1 r2.frm)
/-- what a call that writes into blocks of A leaves -/
structure Chs (A : Nat → Prop) (w w' : World) : Prop where
  os : w'.os = w.os
  tape : w'.tape = w.tape
  output : w'.output = w.output
  size : w.heap.size ≤ w'.heap.size
  block : ∀ b, b < w.heap.size → ¬ A b → w'.heap[b]? = w.heap[b]?
theorem Chs.refl (A : Nat → Prop) (w : World) : Chs A w w := ⟨rfl, rfl, rfl, Nat.le_refl _, fun _ _ _ => rfl⟩
theorem Chs.trans {A A' A2 : Nat → Prop} {w w' w2 : World} (h : Chs A w w') (h' : Chs A' w' w2) (h1 : ∀ b, A b → A2 b) (h2 : ∀ b, A' b → A2 b) : Chs A2 w w2 :=
  ⟨h'.os.trans h.os, h'.tape.trans h.tape, h'.output.trans h.output, Nat.le_trans h.size h'.size, fun b hb hn => (h'.block b (by have := h.size; omega) (fun h => hn (h2 b h))).trans (h.block b hb (fun h => hn (h1 b h)))⟩
theorem Chs.of_below {A : Nat → Prop} {w w' : World} (h : Below w.heap.size w w') : Chs A w w' := ⟨h.os, h.tape, h.output, h.size, fun b hb _ => h.block b hb⟩
theorem Chs.set {A : Nat → Prop} {w w' : World} (h : Chs A w w') {a : Addr} (ha : A a.block) (v : Value) : Chs A w (w'.setCell a v) :=
  ⟨h.os, h.tape, h.output, by have := h.size; simpa [World.setCell] using this, fun b hb hn => (Below.heap_setCell _ _ _ _ (by intro e; apply hn; rw [e]; exact ha)).trans (h.block b hb hn)⟩
theorem row_shape {w : World} {base e size n : Nat} {v : Value} {xs : List Value} (h : w.ownsRow base e size v n xs) : ∃ a c, v = .slice a n c ∧ n ≤ c ∧ c ≤ maxLen := by
  rcases h.2 with ⟨rfl, rfl⟩ | ⟨g, cap, cur, h1, h2, h3, h4, h5, _⟩
  · exact ⟨none, 0, rfl, Nat.le_refl _, by simp [maxLen]⟩
  · exact ⟨_, cap, h1, h4, h5⟩
theorem row_there {w : World} {base e size n b c : Nat} {xs : List Value} (h : w.ownsRow base e size (.slice (some ⟨b, 0, none⟩) n c) n xs) {j m : Nat} (hj : j + m ≤ n * size) : w.there b j m := fun k hk => by
  rcases h.2 with ⟨he, _⟩ | ⟨g, cap, cur, he, hb, hgg, h1, h2, h3, h4⟩
  · cases he
  · simp only [Value.slice.injEq, Option.some.injEq, Addr.mk.injEq] at he
    obtain ⟨⟨rfl, _⟩, _, rfl⟩ := he
    refine ⟨?_, Joins.unfrozen_of_block hgg _⟩
    rw [Joins.cell_of_block hgg, Array.getElem?_eq_getElem (by have := Nat.mul_le_mul_right size h1; omega)]
    rfl
theorem frz_eq {w w' : World} {b : Nat} (h : w'.heap[b]? = w.heap[b]?) (o : Nat) : w'.frozen? ⟨b, o, none⟩ = w.frozen? ⟨b, o, none⟩ := by simp only [World.frozen?, h]
theorem info51 : (Tryz.prog.info? 69).map (fun i => (i.zero, i.size, i.bytes)) = some (some (.agg #[.int .i64 0, .int .i64 0, .int .i64 0, .int .i64 0, .slice none 0 0]), 5, 56) := by kernel_rfl
theorem flat5 (MS : List Iv) : ∀ (j k : Nat) (hj : j < MS.length), k < 5 → (MS.flatMap Iv.cs)[j * 5 + k]? = (Iv.cs MS[j])[k]? := by
  induction MS with
  | nil => intro j k hj; simp at hj
  | cons M MS ih =>
    intro j k hj hk
    rw [List.flatMap_cons]
    cases j with
    | zero => rw [List.getElem?_append_left (by simp; omega)]; simp
    | succ j =>
      rw [List.getElem?_append_right (by simp; omega)]
      have := ih j k (by simpa using hj) hk
      simp only [List.length_cons, List.length_nil, List.getElem_cons_succ]
      rw [← this]
      congr 1
      omega
theorem flat5_len (MS : List Iv) : (MS.flatMap Iv.cs).length = MS.length * 5 := by
  induction MS with
  | nil => rfl
  | cons M MS ih => rw [List.flatMap_cons, List.length_append, ih]; simp; omega
end Go.Proofs.YtpckbpimgoljoaaGreat
