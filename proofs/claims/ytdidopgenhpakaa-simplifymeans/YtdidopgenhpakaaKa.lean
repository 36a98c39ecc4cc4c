/- HELPERS: what a JOIN is by its Subs; how great it is; rows of trees that lie in some blocks, grown. -/
import Derived.Test.YtdidopgenhpakaaJa
namespace Go.Proofs.Ytdidopgenhpakaa
open Go.RowKit
set_option linter.unusedVariables false
set_option linter.unusedSimpArgs false
/-- what a tree is in a JOIN -/
def jn (t : Tn) : List Tn := if t.kind = 1 then [] else within 4 t
/-- the JOIN, by its Subs -/
def joinU : List Tn → Tn
  | [] => emptyT
  | [u] => u
  | a :: b :: s => zN 4 (a :: b :: s)
theorem rowS_keep (l : List (Tn × Nat)) : rowS 4 (l.filter keep) = l.flatMap fun x => (List.replicate x.2 (jn x.1)).flatten := by
  induction l with
  | nil => rfl
  | cons x l ih =>
    rw [List.filter_cons, List.flatMap_cons, ← ih]
    by_cases h1 : x.1.kind = 1
    · have hk : keep x = false := by simp [keep, h1]
      simp [hk, jn, h1]
    · by_cases h0 : x.2 = 0
      · have hk : keep x = false := by simp [keep, h0]
        simp [hk, h0]
      · have hk : keep x = true := by simp [keep, h1]; omega
        rw [if_pos hk, rowS_cons]
        simp [jn, h1]
theorem rowS_keep_ones (l : List Tn) : rowS 4 ((ones l).filter keep) = l.flatMap jn := by
  rw [rowS_keep]
  simp [ones, List.flatMap_map]
theorem joinT_U {l : List (Tn × Nat)} (hl : ∀ x ∈ l, Nf x.1) : joinT l = joinU (rowS 4 (l.filter keep)) := by
  rw [joinT_us hl]
  generalize rowS 4 (l.filter keep) = us
  match us with
  | [] => rfl
  | [u] => rfl
  | a :: b :: s => rfl
theorem joinT_jn {l : List Tn} (h : ∀ x ∈ l, Nf x) : joinT (ones l) = joinU (l.flatMap jn) := by
  rw [joinT_U (fun x hx => by obtain ⟨u, hu, rfl⟩ := List.mem_map.1 hx; exact h u hu), rowS_keep_ones]
theorem joinT_runs {y o : Tn} (n : Nat) (hy : Nf y) (ho : Nf o) : joinT (ones (List.replicate n y ++ [o])) = joinT [(y, n), (o, 1)] := by
  rw [joinT_jn fun x hx => by
    rw [List.mem_append, List.mem_replicate] at hx
    rcases hx with h | h
    · rw [h.2]; exact hy
    · rw [List.mem_singleton] at h; rw [h]; exact ho]
  rw [joinT_U fun x hx => by
    simp at hx
    rcases hx with rfl | rfl
    · exact hy
    · exact ho]
  rw [rowS_keep]
  congr 1
  simp [List.flatMap_append, List.flatMap_replicate]
theorem joinU_nodes (us : List Tn) : nodesL us ≤ (joinU us).nodes ∧ (us.length ≠ 1 → nodesL us + 1 ≤ (joinU us).nodes) := by
  match us with
  | [] => simp [joinU, nodesL, Tn.nodes]
  | [u] => simp [joinU, nodesL]
  | a :: b :: s => simp only [joinU, Tn.nodes]; exact ⟨by omega, fun _ => by omega⟩
theorem joinU_len (us : List Tn) : us.length ≤ (joinU us).nodes := Nat.le_trans (nodes_ge us) (joinU_nodes us).1
theorem flat_mem_nodes {α : Type} {f : α → List Tn} {l : List α} {x : α} (h : x ∈ l) : nodesL (f x) ≤ nodesL (l.flatMap f) ∧ (f x).length ≤ (l.flatMap f).length := by
  induction l with
  | nil => cases h
  | cons y l ih =>
    rw [List.flatMap_cons, nodesL_append, List.length_append]
    rcases List.mem_cons.1 h with rfl | h
    · omega
    · have := ih h; omega
theorem nf_one_nodes {t : Tn} (h : Nf t) (h1 : t.kind = 1) : t.nodes = 1 := by
  cases h with
  | leaf hk hn => simp [Tn.nodes, nodesL]
  | cat h2 h' hs => simp [Tn.kind] at h1
  | alt h2 h' hs => simp [Tn.kind] at h1
  | loop h' hy => simp [Tn.kind] at h1
  | grp hn hy => simp [Tn.kind] at h1
theorem joinT_mem {l : List (Tn × Nat)} (hl : ∀ x ∈ l, Nf x.1) {y : Tn} {m : Nat} (hm : (y, m) ∈ l) (h0 : 0 < m) : y.nodes ≤ (joinT l).nodes := by
  have hy := hl _ hm
  by_cases h1 : y.kind = 1
  · rw [nf_one_nodes hy h1]; exact Tn.pos _
  · rw [joinT_U hl, rowS_keep]
    have hf := flat_mem_nodes (f := fun x : Tn × Nat => (List.replicate x.2 (jn x.1)).flatten) hm
    generalize (l.flatMap fun x => (List.replicate x.2 (jn x.1)).flatten) = us at hf ⊢
    simp only at hf
    rw [nodesL_rep, flat_rep_len] at hf
    have e : jn y = within 4 y := by unfold jn; rw [if_neg h1]
    rw [e] at hf
    have hj := joinU_nodes us
    have hw := within_nodes 4 y
    have h3 := Nat.le_mul_of_pos_left (nodesL (within 4 y)) h0
    have h4 := Nat.le_mul_of_pos_left (within 4 y).length h0
    by_cases hk : y.kind = 4
    · rw [if_pos hk] at hw
      have h2 : 2 ≤ y.subs.length := nf_subs hy (.inl hk)
      have e2 : (within 4 y).length = y.subs.length := by unfold within; rw [if_pos hk]
      have := hj.2 (by omega)
      omega
    · rw [if_neg hk] at hw
      omega
theorem ones_nf {l : List Tn} (h : ∀ x ∈ l, Nf x) : ∀ x ∈ ones l, Nf x.1 := fun x hx => by obtain ⟨u, hu, rfl⟩ := List.mem_map.1 hx; exact h u hu
theorem join_mem {l : List Tn} (h : ∀ x ∈ l, Nf x) {y : Tn} (hm : y ∈ l) : y.nodes ≤ (joinT (ones l)).nodes := joinT_mem (ones_nf h) (List.mem_map.2 ⟨y, hm, rfl⟩) (by decide)
theorem row_mem {k : Int} {l : List Tn} {y : Tn} (hm : y ∈ l) : y.nodes ≤ (rowT k (ones l)).nodes := by
  have hf := (flat_mem_nodes (f := fun x : Tn × Nat => (List.replicate x.2 (within k x.1)).flatten) (l := ones l) (List.mem_map.2 ⟨y, hm, rfl⟩)).1
  simp only [nodesL_rep, Nat.one_mul] at hf
  have hw := within_nodes k y
  have hr : (rowT k (ones l)).nodes = 1 + nodesL (rowS k (ones l)) := rfl
  have : rowS k (ones l) = (ones l).flatMap fun x => (List.replicate x.2 (within k x.1)).flatten := rfl
  rw [hr, this]
  split at hw <;> omega
theorem rep_mem {y : Tn} (hy : Nf y) {mn mx : Int} (lz : Bool) (h0 : mx ≠ 0) (hmn : 0 ≤ mn) (hmx : mx = -1 ∨ mn ≤ mx) : y.nodes ≤ (repT y mn mx lz).nodes := by
  unfold repT
  split
  · rename_i h1
    have hl : ∀ x ∈ [(y, mn.toNat), (optT y lz (mx - mn).toNat, 1)], Nf x.1 := fun x hx => by
      simp at hx
      rcases hx with rfl | rfl
      · exact hy
      · exact nf_opt lz hy _
    by_cases hm : mn = 0
    · have := joinT_mem hl (y := optT y lz (mx - mn).toNat) (m := 1) (by simp) (by decide)
      obtain ⟨n, hn⟩ : ∃ n, (mx - mn).toNat = n + 1 := ⟨(mx - mn).toNat - 1, by omega⟩
      rw [hn] at this ⊢
      rw [optT_nodes] at this
      omega
    · exact joinT_mem hl (y := y) (m := mn.toNat) (by simp) (by omega)
  · split
    · rw [loopT_nodes]; omega
    · have hl : ∀ x ∈ [(y, (mn - 1).toNat), (loopT 1 (-1) lz y, 1)], Nf x.1 := fun x hx => by
        simp at hx
        rcases hx with rfl | rfl
        · exact hy
        · exact .loop (.inr (.inr ⟨rfl, rfl⟩)) hy
      have := joinT_mem hl (y := loopT 1 (-1) lz y) (m := 1) (by simp) (by decide)
      rw [loopT_nodes] at this
      omega
/-- each option is smaller than the next -/
theorem opt_le (y : Tn) (lz : Bool) {m n : Nat} (h : m ≤ n) : (optT y lz m).nodes ≤ (optT y lz n).nodes := by
  cases m with
  | zero => rw [show optT y lz 0 = emptyT from rfl]; simp only [Tn.nodes, nodesL]; exact Tn.pos _
  | succ m =>
    obtain ⟨n, rfl⟩ : ∃ k, n = k + 1 := ⟨n - 1, by omega⟩
    rw [optT_nodes, optT_nodes]
    have := Nat.mul_le_mul_right (1 + if y.kind = 1 then 0 else if y.kind = 4 then y.nodes else y.nodes + 1) (show m ≤ n by omega)
    omega
/-- a list of trees in blocks of A -/
def LTr (w : World) (A : Nat → Prop) (ad : Option Addr) (ts : List Tn) : Prop :=
  ∃ ND : Nat → Nv, (0 < ts.length → ∃ b o, ad = some ⟨b, o, none⟩ ∧ A b ∧ ∀ i, i < ts.length → N9 w b o i (ND i)) ∧ ∀ i (hi : i < ts.length), TP w A (ND i) ts[i]
theorem LTr.kept {w w' : World} {A A' : Nat → Prop} {ad : Option Addr} {ts : List Tn} (h : LTr w A ad ts) (hk : ∀ b, A b → w'.heap[b]? = w.heap[b]?) (hA : ∀ b, A b → A' b) : LTr w' A' ad ts := by
  obtain ⟨ND, h1, h2⟩ := h
  refine ⟨ND, fun hp => ?_, fun i hi => (h2 i hi).kept hk hA⟩
  obtain ⟨b, o, e, hb, h3⟩ := h1 hp
  exact ⟨b, o, e, hA b hb, fun i hi => (h3 i hi).kept (hk b hb)⟩
theorem LTr.node {w : World} {A : Nat → Prop} {N : Nv} {ts : List Tn} {R : List (Int × Int)} (h : LTr w A N.s1 ts) (ok : N.ok) (hr : N.r2 = R.length) (hR : RP w A N.r1 R) (hRk : ∀ x ∈ R, I64ok x.1 ∧ I64ok x.2) (hs : N.s2 = ts.length) : TP w A N (.mk N.k R N.a2 ts N.a4 N.a5 N.a6 N.a7 N.a8) := by
  obtain ⟨ND, h1, h2⟩ := h
  exact .mk ok hr hR hRk hs h1 h2
theorem TP.subs {w : World} {A : Nat → Prop} {N : Nv} {t : Tn} (h : TP w A N t) : LTr w A N.s1 t.subs ∧ N.s2 = t.subs.length ∧ N.s2 ≤ N.s3 ∧ N.k = t.kind := by
  cases h with
  | mk ok hr hR hRk hs hS hk => exact ⟨⟨_, hS, hk⟩, hs, ok.s.1, rfl⟩
/-- a row of trees that grows since w0: what is below its nodes lies in blocks of A, or in new ones -/
structure RX (A A' : Nat → Prop) (w0 w : World) (uv : Value) (MS : List Nv) (us : List Tn) : Prop where
  row : w.ownsRow w0.heap.size 25 9 uv us.length (MS.flatMap Nv.cs)
  len : MS.length = us.length
  tp : ∀ j (h : j < us.length) (h' : j < MS.length), TP w A' MS[j] us[j]
  inA : ∀ b, A b → A' b
  ofA : ∀ b, A' b → A b ∨ w0.heap.size ≤ b
  low : ∀ b, A' b → b < w.heap.size
  out : ∀ b, uv.ownBlock = some b → ¬ A' b
  bel : Below w0.heap.size w0 w
def RG (A : Nat → Prop) (w0 w : World) (uv : Value) (us : List Tn) : Prop := ∃ MS A', RX A A' w0 w uv MS us
theorem RG.start {A : Nat → Prop} {w0 w : World} (hA : ∀ b, A b → b < w0.heap.size) (hb : Below w0.heap.size w0 w) : RG A w0 w (.slice none 0 0) [] :=
  ⟨[], A, World.ownsRow_nil _ _ _ _, rfl, fun j h => by simp at h, fun b hb => hb, fun b hb => .inl hb, fun b h => by have := hA b h; have := hb.size; omega, fun b hb => (by cases hb), hb⟩
/-- the row at a later world -/
theorem RX.rowAt {A A' : Nat → Prop} {w0 w X : World} {uv : Value} {MS : List Nv} {us : List Tn} (h : RX A A' w0 w uv MS us) (hX : Below w.heap.size w X) : X.ownsRow w0.heap.size 25 9 uv us.length (MS.flatMap Nv.cs) := row_kept h.row fun b hb => hX.block b (h.row.lt b hb).2
theorem RX.kept {A A' : Nat → Prop} {w0 w X : World} {uv : Value} {MS : List Nv} {us : List Tn} (h : RX A A' w0 w uv MS us) (hX : Below w.heap.size w X) : RX A A' w0 X uv MS us :=
  ⟨h.rowAt hX, h.len, fun j hj hj' => (h.tp j hj hj').kept (fun b hb => hX.block b (h.low b hb)) (fun b hb => hb), h.inA, h.ofA, fun b hb => by have := h.low b hb; have := hX.size; omega, h.out, h.bel.trans (Joins.below_le hX h.bel.size)⟩
theorem RG.kept {A : Nat → Prop} {w0 w X : World} {uv : Value} {us : List Tn} (h : RG A w0 w uv us) (hX : Below w.heap.size w X) : RG A w0 X uv us := by
  obtain ⟨MS, A', h⟩ := h
  exact ⟨MS, A', h.kept hX⟩
/-- some more -/
theorem RX.app {A A' A2 : Nat → Prop} {w0 w W X w3 : World} {uv v' : Value} {MS news : List Nv} {us ts : List Tn} (h : RX A A' w0 w uv MS us) (hW : Below w.heap.size w W) (hnl : news.length = ts.length) (hN : ∀ j (h : j < ts.length) (h' : j < news.length), TP W A2 news[j] ts[j]) (hA2 : ∀ b, A2 b → A b ∨ w.heap.size ≤ b ∧ b < W.heap.size) (hX : Below W.heap.size W X)
    (ho : w3.ownsRow w0.heap.size 25 9 v' (us.length + ts.length) (MS.flatMap Nv.cs ++ news.flatMap Nv.cs)) (hm : Moved X w3 uv v') : RG A w0 w3 v' (us ++ ts) := by
  have hub : ∀ k, uv.ownBlock = some k → k < w.heap.size := fun k hk => (h.row.lt k hk).2
  have hx0 := h.bel.size
  have s2 := hW.size
  have s3 := hX.size
  have hWX : Below w.heap.size w X := hW.trans (Joins.below_le hX s2)
  have hbX : Below w0.heap.size w0 X := h.bel.trans (Joins.below_le hWX hx0)
  obtain ⟨hb3, hs3⟩ := moved_below hbX (by omega) (fun k hk => (h.row.lt k hk).1) hm
  have e3 : ∀ k, k < W.heap.size → uv.ownBlock ≠ some k → w3.heap[k]? = W.heap[k]? := fun k hk hn => (moved_old' hm (by omega) hn).trans (hX.block k hk)
  have hlow : ∀ b, (A' b ∨ w.heap.size ≤ b ∧ b < W.heap.size) → b < W.heap.size := fun b hA => by
    rcases hA with hA | hA
    · have := h.low b hA; omega
    · omega
  have hout : ∀ b, (A' b ∨ w.heap.size ≤ b ∧ b < W.heap.size) → uv.ownBlock ≠ some b := fun b hA e => by
    rcases hA with hA | hA
    · exact h.out b e hA
    · have := hub b e; omega
  have hl := h.len
  refine ⟨MS ++ news, fun b => A' b ∨ w.heap.size ≤ b ∧ b < W.heap.size, ?_, by simp [hl, hnl], fun j hj hj' => ?_, fun b hb => .inl (h.inA b hb), fun b hb => ?_, fun b hA => by have := hlow b hA; omega, fun b hb hA => ?_, hb3⟩
  · rw [List.length_append, List.flatMap_append]; exact ho
  · by_cases hjl : j < us.length
    · rw [List.getElem_append_left (by omega), List.getElem_append_left hjl]
      exact (h.tp j hjl (by omega)).kept (fun b hA => (e3 b (hlow b (.inl hA)) (hout b (.inl hA))).trans (hW.block b (h.low b hA))) (fun b hA => .inl hA)
    · simp only [List.length_append] at hj hj'
      rw [List.getElem_append_right (by omega), List.getElem_append_right (by omega)]
      have hN' := hN (j - us.length) (by omega) (by omega)
      have e : j - MS.length = j - us.length := by omega
      simp only [e]
      have hin : ∀ b, A2 b → A' b ∨ w.heap.size ≤ b ∧ b < W.heap.size := fun b hb => by
        rcases hA2 b hb with h1 | h1
        · exact .inl (h.inA b h1)
        · exact .inr h1
      exact hN'.kept (fun b hb => e3 b (hlow b (hin b hb)) (hout b (hin b hb))) hin
  · rcases hb with hb | hb
    · exact h.ofA b hb
    · right; omega
  · rcases hm with ⟨h0, _⟩ | ⟨h0, _⟩
    · rw [h0] at hb; exact hout b hA hb
    · rw [h0] at hb
      simp at hb
      have := hlow b hA
      omega
/-- such a row as a list -/
theorem RG.ltr {A : Nat → Prop} {w0 w : World} {ad : Option Addr} {n c : Nat} {us : List Tn} (h : RG A w0 w (.slice ad n c) us) : LTr w (New A w0 w) ad us ∧ n = us.length ∧ n ≤ c ∧ c ≤ maxLen := by
  obtain ⟨MS, A', h⟩ := h
  have hl := h.len
  have hn := row_len h.row
  refine ⟨⟨fun i => MS.getD i default, fun hp => ?_, fun i hi => ?_⟩, hn, ?_⟩
  · obtain ⟨b, e1, e2, h9⟩ := row_nine h.row hl.symm hp
    refine ⟨b, 0, e1, .inr (h.row.lt b e2), fun i hi => ?_⟩
    show N9 w b 0 i (MS.getD i default)
    rw [List.getD_eq_getElem?_getD, List.getElem?_eq_getElem (show i < MS.length by omega)]
    exact h9 i (by omega)
  · show TP w (New A w0 w) (MS.getD i default) us[i]
    rw [List.getD_eq_getElem?_getD, List.getElem?_eq_getElem (show i < MS.length by omega)]
    refine (h.tp i hi (by omega)).kept (fun _ _ => rfl) (fun b hb => ?_)
    rcases h.ofA b hb with h1 | h1
    · exact .inl h1
    · exact .inr ⟨h1, h.low b hb⟩
  · rcases h.row.2 with ⟨e, h0⟩ | ⟨g, cap, cur, e, _, _, h2, h3, _⟩
    · simp only [Value.slice.injEq] at e
      obtain ⟨_, rfl, rfl⟩ := e
      exact ⟨Nat.le_refl _, by simp [maxLen]⟩
    · simp only [Value.slice.injEq] at e
      obtain ⟨_, e2, rfl⟩ := e
      exact ⟨by omega, h3⟩
/-- the cells of one that was just put down -/
theorem news9 (w2 : World) (M : Nv) : ∀ j y, (Nv.cs M)[j]? = some y → (w2.alloc (.cells #[.int .i64 M.k, .slice M.r1 M.r2 M.r3, .int .i64 M.a2, .slice M.s1 M.s2 M.s3, .int .i64 M.a4, .int .i64 M.a5, .bool M.a6, .int .i64 M.a7, .string M.a8] 25)).cell? ((⟨w2.heap.size, 0, none⟩ : Addr).add j) = some y := by
  intro j y hj
  rw [Addr.add_mid, Nat.zero_add, Joins.cell_of_block (heap_alloc_new w2 _)]
  rw [← hj, ← Array.getElem?_toList]
/-- the cells of a list -/
theorem tl_news {w : World} {b o n : Nat} {ND : Nat → Nv} (h : ∀ i, i < n → N9 w b o i (ND i)) : ∀ j y, ((List.range n).map ND |>.flatMap Nv.cs)[j]? = some y → w.cell? ((⟨b, o, none⟩ : Addr).add j) = some y := by
  intro j y hj
  have hlt : j < n * 9 := by
    have := (List.getElem?_eq_some_iff.1 hj).1
    rw [flat9_len] at this
    simpa using this
  obtain ⟨i, r, hr, rfl⟩ : ∃ i r, r < 9 ∧ j = i * 9 + r := ⟨j / 9, j % 9, by omega, by omega⟩
  have hi : i < n := by omega
  rw [flat9 ((List.range n).map ND) i r (by simpa using hi) hr] at hj
  simp only [List.getElem_map, List.getElem_range] at hj
  rw [Addr.add_mid, ← hj, ← Nat.add_assoc]
  obtain ⟨n0, n1, n2, n3, n4, n5, n6, n7, n8⟩ := h i hi
  rcases nine_cases hr with rfl | rfl | rfl | rfl | rfl | rfl | rfl | rfl | rfl
  · exact n0
  · exact n1
  · exact n2
  · exact n3
  · exact n4
  · exact n5
  · exact n6
  · exact n7
  · exact n8
theorem one9L (l : List Nv) : ∀ u ∈ l.flatMap Nv.cs, u.oneCell' = true := by
  intro u hu
  obtain ⟨M, _, hM⟩ := List.mem_flatMap.1 hu
  exact one9 M u hM
end Go.Proofs.Ytdidopgenhpakaa
