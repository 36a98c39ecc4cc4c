/- HELPERS: the document's Simplify of any tree. -/
import Derived.Test.YtdidopgenhpakaaJa
import Derived.Test.YtdidopgenhpakaaJd
import Derived.Test.YtdidopgenhpakaaGg
/- HELPERS: what a JOIN is by its Subs; how great it is; rows of trees that lie in some blocks, grown. -/
namespace Go.Proofs.Ytdidopgenhpakaa
open Go.RowKit
set_option linter.unusedVariables false
set_option linter.unusedSimpArgs false
/-- what a tree is in a JOIN -/
def jn (t : Tn) : List Tn := if t.kind = 1 then [] else within 4 t
/-- the JOIN, by its Subs -/
def joinU : List Tn → Tn
  | [] => emptyT
  | [u] => u
  | a :: b :: s => zN 4 (a :: b :: s)
theorem rowS_keep (l : List (Tn × Nat)) : rowS 4 (l.filter keep) = l.flatMap fun x => (List.replicate x.2 (jn x.1)).flatten := by
  induction l with
  | nil => rfl
  | cons x l ih =>
    rw [List.filter_cons, List.flatMap_cons, ← ih]
    by_cases h1 : x.1.kind = 1
    · have hk : keep x = false := by simp [keep, h1]
      simp [hk, jn, h1]
    · by_cases h0 : x.2 = 0
      · have hk : keep x = false := by simp [keep, h0]
        simp [hk, h0]
      · have hk : keep x = true := by simp [keep, h1]; omega
        rw [if_pos hk, rowS_cons]
        simp [jn, h1]
theorem rowS_keep_ones (l : List Tn) : rowS 4 ((ones l).filter keep) = l.flatMap jn := by
  rw [rowS_keep]
  simp [ones, List.flatMap_map]
theorem joinT_U {l : List (Tn × Nat)} (hl : ∀ x ∈ l, Nf x.1) : joinT l = joinU (rowS 4 (l.filter keep)) := by
  rw [joinT_us hl]
  generalize rowS 4 (l.filter keep) = us
  match us with
  | [] => rfl
  | [u] => rfl
  | a :: b :: s => rfl
theorem joinT_jn {l : List Tn} (h : ∀ x ∈ l, Nf x) : joinT (ones l) = joinU (l.flatMap jn) := by
  rw [joinT_U (fun x hx => by obtain ⟨u, hu, rfl⟩ := List.mem_map.1 hx; exact h u hu), rowS_keep_ones]
theorem joinT_runs {y o : Tn} (n : Nat) (hy : Nf y) (ho : Nf o) : joinT (ones (List.replicate n y ++ [o])) = joinT [(y, n), (o, 1)] := by
  rw [joinT_jn fun x hx => by
    rw [List.mem_append, List.mem_replicate] at hx
    rcases hx with h | h
    · rw [h.2]; exact hy
    · rw [List.mem_singleton] at h; rw [h]; exact ho]
  rw [joinT_U fun x hx => by
    simp at hx
    rcases hx with rfl | rfl
    · exact hy
    · exact ho]
  rw [rowS_keep]
  congr 1
  simp [List.flatMap_append, List.flatMap_replicate]
theorem joinU_nodes (us : List Tn) : nodesL us ≤ (joinU us).nodes ∧ (us.length ≠ 1 → nodesL us + 1 ≤ (joinU us).nodes) := by
  match us with
  | [] => simp [joinU, nodesL, Tn.nodes]
  | [u] => simp [joinU, nodesL]
  | a :: b :: s => simp only [joinU, Tn.nodes]; exact ⟨by omega, fun _ => by omega⟩
theorem joinU_len (us : List Tn) : us.length ≤ (joinU us).nodes := Nat.le_trans (nodes_ge us) (joinU_nodes us).1
theorem flat_mem_nodes {α : Type} {f : α → List Tn} {l : List α} {x : α} (h : x ∈ l) : nodesL (f x) ≤ nodesL (l.flatMap f) ∧ (f x).length ≤ (l.flatMap f).length := by
  induction l with
  | nil => cases h
  | cons y l ih =>
    rw [List.flatMap_cons, nodesL_append, List.length_append]
    rcases List.mem_cons.1 h with rfl | h
    · omega
    · have := ih h; omega
theorem nf_one_nodes {t : Tn} (h : Nf t) (h1 : t.kind = 1) : t.nodes = 1 := by
  cases h with
  | leaf hk hn => simp [Tn.nodes, nodesL]
  | cat h2 h' hs => simp [Tn.kind] at h1
  | alt h2 h' hs => simp [Tn.kind] at h1
  | loop h' hy => simp [Tn.kind] at h1
  | grp hn hy => simp [Tn.kind] at h1
theorem joinT_mem {l : List (Tn × Nat)} (hl : ∀ x ∈ l, Nf x.1) {y : Tn} {m : Nat} (hm : (y, m) ∈ l) (h0 : 0 < m) : y.nodes ≤ (joinT l).nodes := by
  have hy := hl _ hm
  by_cases h1 : y.kind = 1
  · rw [nf_one_nodes hy h1]; exact Tn.pos _
  · rw [joinT_U hl, rowS_keep]
    have hf := flat_mem_nodes (f := fun x : Tn × Nat => (List.replicate x.2 (jn x.1)).flatten) hm
    generalize (l.flatMap fun x => (List.replicate x.2 (jn x.1)).flatten) = us at hf ⊢
    simp only at hf
    rw [nodesL_rep, flat_rep_len] at hf
    have e : jn y = within 4 y := by unfold jn; rw [if_neg h1]
    rw [e] at hf
    have hj := joinU_nodes us
    have hw := within_nodes 4 y
    have h3 := Nat.le_mul_of_pos_left (nodesL (within 4 y)) h0
    have h4 := Nat.le_mul_of_pos_left (within 4 y).length h0
    by_cases hk : y.kind = 4
    · rw [if_pos hk] at hw
      have h2 : 2 ≤ y.subs.length := nf_subs hy (.inl hk)
      have e2 : (within 4 y).length = y.subs.length := by unfold within; rw [if_pos hk]
      have := hj.2 (by omega)
      omega
    · rw [if_neg hk] at hw
      omega
theorem ones_nf {l : List Tn} (h : ∀ x ∈ l, Nf x) : ∀ x ∈ ones l, Nf x.1 := fun x hx => by obtain ⟨u, hu, rfl⟩ := List.mem_map.1 hx; exact h u hu
theorem join_mem {l : List Tn} (h : ∀ x ∈ l, Nf x) {y : Tn} (hm : y ∈ l) : y.nodes ≤ (joinT (ones l)).nodes := joinT_mem (ones_nf h) (List.mem_map.2 ⟨y, hm, rfl⟩) (by decide)
theorem row_mem {k : Int} {l : List Tn} {y : Tn} (hm : y ∈ l) : y.nodes ≤ (rowT k (ones l)).nodes := by
  have hf := (flat_mem_nodes (f := fun x : Tn × Nat => (List.replicate x.2 (within k x.1)).flatten) (l := ones l) (List.mem_map.2 ⟨y, hm, rfl⟩)).1
  simp only [nodesL_rep, Nat.one_mul] at hf
  have hw := within_nodes k y
  have hr : (rowT k (ones l)).nodes = 1 + nodesL (rowS k (ones l)) := rfl
  have : rowS k (ones l) = (ones l).flatMap fun x => (List.replicate x.2 (within k x.1)).flatten := rfl
  rw [hr, this]
  split at hw <;> omega
theorem rep_mem {y : Tn} (hy : Nf y) {mn mx : Int} (lz : Bool) (h0 : mx ≠ 0) (hmn : 0 ≤ mn) (hmx : mx = -1 ∨ mn ≤ mx) : y.nodes ≤ (repT y mn mx lz).nodes := by
  unfold repT
  split
  · rename_i h1
    have hl : ∀ x ∈ [(y, mn.toNat), (optT y lz (mx - mn).toNat, 1)], Nf x.1 := fun x hx => by
      simp at hx
      rcases hx with rfl | rfl
      · exact hy
      · exact nf_opt lz hy _
    by_cases hm : mn = 0
    · have := joinT_mem hl (y := optT y lz (mx - mn).toNat) (m := 1) (by simp) (by decide)
      obtain ⟨n, hn⟩ : ∃ n, (mx - mn).toNat = n + 1 := ⟨(mx - mn).toNat - 1, by omega⟩
      rw [hn] at this ⊢
      rw [optT_nodes] at this
      omega
    · exact joinT_mem hl (y := y) (m := mn.toNat) (by simp) (by omega)
  · split
    · rw [loopT_nodes]; omega
    · have hl : ∀ x ∈ [(y, (mn - 1).toNat), (loopT 1 (-1) lz y, 1)], Nf x.1 := fun x hx => by
        simp at hx
        rcases hx with rfl | rfl
        · exact hy
        · exact .loop (.inr (.inr ⟨rfl, rfl⟩)) hy
      have := joinT_mem hl (y := loopT 1 (-1) lz y) (m := 1) (by simp) (by decide)
      rw [loopT_nodes] at this
      omega
/-- each option is smaller than the next -/
theorem opt_le (y : Tn) (lz : Bool) {m n : Nat} (h : m ≤ n) : (optT y lz m).nodes ≤ (optT y lz n).nodes := by
  cases m with
  | zero => rw [show optT y lz 0 = emptyT from rfl]; simp only [Tn.nodes, nodesL]; exact Tn.pos _
  | succ m =>
    obtain ⟨n, rfl⟩ : ∃ k, n = k + 1 := ⟨n - 1, by omega⟩
    rw [optT_nodes, optT_nodes]
    have := Nat.mul_le_mul_right (1 + if y.kind = 1 then 0 else if y.kind = 4 then y.nodes else y.nodes + 1) (show m ≤ n by omega)
    omega
/-- a list of trees in blocks of A -/
def LTr (w : World) (A : Nat → Prop) (ad : Option Addr) (ts : List Tn) : Prop :=
  ∃ ND : Nat → Nv, (0 < ts.length → ∃ b o, ad = some ⟨b, o, none⟩ ∧ A b ∧ ∀ i, i < ts.length → N9 w b o i (ND i)) ∧ ∀ i (hi : i < ts.length), TP w A (ND i) ts[i]
theorem LTr.kept {w w' : World} {A A' : Nat → Prop} {ad : Option Addr} {ts : List Tn} (h : LTr w A ad ts) (hk : ∀ b, A b → w'.heap[b]? = w.heap[b]?) (hA : ∀ b, A b → A' b) : LTr w' A' ad ts := by
  obtain ⟨ND, h1, h2⟩ := h
  refine ⟨ND, fun hp => ?_, fun i hi => (h2 i hi).kept hk hA⟩
  obtain ⟨b, o, e, hb, h3⟩ := h1 hp
  exact ⟨b, o, e, hA b hb, fun i hi => (h3 i hi).kept (hk b hb)⟩
theorem LTr.node {w : World} {A : Nat → Prop} {N : Nv} {ts : List Tn} {R : List (Int × Int)} (h : LTr w A N.s1 ts) (ok : N.ok) (hr : N.r2 = R.length) (hR : RP w A N.r1 R) (hRk : ∀ x ∈ R, I64ok x.1 ∧ I64ok x.2) (hs : N.s2 = ts.length) : TP w A N (.mk N.k R N.a2 ts N.a4 N.a5 N.a6 N.a7 N.a8) := by
  obtain ⟨ND, h1, h2⟩ := h
  exact .mk ok hr hR hRk hs h1 h2
theorem TP.subs {w : World} {A : Nat → Prop} {N : Nv} {t : Tn} (h : TP w A N t) : LTr w A N.s1 t.subs ∧ N.s2 = t.subs.length ∧ N.s2 ≤ N.s3 ∧ N.k = t.kind := by
  cases h with
  | mk ok hr hR hRk hs hS hk => exact ⟨⟨_, hS, hk⟩, hs, ok.s.1, rfl⟩
/-- a row of trees that grows since w0: what is below its nodes lies in blocks of A, or in new ones -/
structure RX (A A' : Nat → Prop) (w0 w : World) (uv : Value) (MS : List Nv) (us : List Tn) : Prop where
  row : w.ownsRow w0.heap.size 25 9 uv us.length (MS.flatMap Nv.cs)
  len : MS.length = us.length
  tp : ∀ j (h : j < us.length) (h' : j < MS.length), TP w A' MS[j] us[j]
  inA : ∀ b, A b → A' b
  ofA : ∀ b, A' b → A b ∨ w0.heap.size ≤ b
  low : ∀ b, A' b → b < w.heap.size
  out : ∀ b, uv.ownBlock = some b → ¬ A' b
  bel : Below w0.heap.size w0 w
def RG (A : Nat → Prop) (w0 w : World) (uv : Value) (us : List Tn) : Prop := ∃ MS A', RX A A' w0 w uv MS us
theorem RG.start {A : Nat → Prop} {w0 w : World} (hA : ∀ b, A b → b < w0.heap.size) (hb : Below w0.heap.size w0 w) : RG A w0 w (.slice none 0 0) [] :=
  ⟨[], A, World.ownsRow_nil _ _ _ _, rfl, fun j h => by simp at h, fun b hb => hb, fun b hb => .inl hb, fun b h => by have := hA b h; have := hb.size; omega, fun b hb => (by cases hb), hb⟩
/-- the row at a later world -/
theorem RX.rowAt {A A' : Nat → Prop} {w0 w X : World} {uv : Value} {MS : List Nv} {us : List Tn} (h : RX A A' w0 w uv MS us) (hX : Below w.heap.size w X) : X.ownsRow w0.heap.size 25 9 uv us.length (MS.flatMap Nv.cs) := row_kept h.row fun b hb => hX.block b (h.row.lt b hb).2
theorem RX.kept {A A' : Nat → Prop} {w0 w X : World} {uv : Value} {MS : List Nv} {us : List Tn} (h : RX A A' w0 w uv MS us) (hX : Below w.heap.size w X) : RX A A' w0 X uv MS us :=
  ⟨h.rowAt hX, h.len, fun j hj hj' => (h.tp j hj hj').kept (fun b hb => hX.block b (h.low b hb)) (fun b hb => hb), h.inA, h.ofA, fun b hb => by have := h.low b hb; have := hX.size; omega, h.out, h.bel.trans (Joins.below_le hX h.bel.size)⟩
theorem RG.kept {A : Nat → Prop} {w0 w X : World} {uv : Value} {us : List Tn} (h : RG A w0 w uv us) (hX : Below w.heap.size w X) : RG A w0 X uv us := by
  obtain ⟨MS, A', h⟩ := h
  exact ⟨MS, A', h.kept hX⟩
/-- some more -/
theorem RX.app {A A' A2 : Nat → Prop} {w0 w W X w3 : World} {uv v' : Value} {MS news : List Nv} {us ts : List Tn} (h : RX A A' w0 w uv MS us) (hW : Below w.heap.size w W) (hnl : news.length = ts.length) (hN : ∀ j (h : j < ts.length) (h' : j < news.length), TP W A2 news[j] ts[j]) (hA2 : ∀ b, A2 b → A b ∨ w.heap.size ≤ b ∧ b < W.heap.size) (hX : Below W.heap.size W X)
    (ho : w3.ownsRow w0.heap.size 25 9 v' (us.length + ts.length) (MS.flatMap Nv.cs ++ news.flatMap Nv.cs)) (hm : Moved X w3 uv v') : RG A w0 w3 v' (us ++ ts) := by
  have hub : ∀ k, uv.ownBlock = some k → k < w.heap.size := fun k hk => (h.row.lt k hk).2
  have hx0 := h.bel.size
  have s2 := hW.size
  have s3 := hX.size
  have hWX : Below w.heap.size w X := hW.trans (Joins.below_le hX s2)
  have hbX : Below w0.heap.size w0 X := h.bel.trans (Joins.below_le hWX hx0)
  obtain ⟨hb3, hs3⟩ := moved_below hbX (by omega) (fun k hk => (h.row.lt k hk).1) hm
  have e3 : ∀ k, k < W.heap.size → uv.ownBlock ≠ some k → w3.heap[k]? = W.heap[k]? := fun k hk hn => (moved_old' hm (by omega) hn).trans (hX.block k hk)
  have hlow : ∀ b, (A' b ∨ w.heap.size ≤ b ∧ b < W.heap.size) → b < W.heap.size := fun b hA => by
    rcases hA with hA | hA
    · have := h.low b hA; omega
    · omega
  have hout : ∀ b, (A' b ∨ w.heap.size ≤ b ∧ b < W.heap.size) → uv.ownBlock ≠ some b := fun b hA e => by
    rcases hA with hA | hA
    · exact h.out b e hA
    · have := hub b e; omega
  have hl := h.len
  refine ⟨MS ++ news, fun b => A' b ∨ w.heap.size ≤ b ∧ b < W.heap.size, ?_, by simp [hl, hnl], fun j hj hj' => ?_, fun b hb => .inl (h.inA b hb), fun b hb => ?_, fun b hA => by have := hlow b hA; omega, fun b hb hA => ?_, hb3⟩
  · rw [List.length_append, List.flatMap_append]; exact ho
  · by_cases hjl : j < us.length
    · rw [List.getElem_append_left (by omega), List.getElem_append_left hjl]
      exact (h.tp j hjl (by omega)).kept (fun b hA => (e3 b (hlow b (.inl hA)) (hout b (.inl hA))).trans (hW.block b (h.low b hA))) (fun b hA => .inl hA)
    · simp only [List.length_append] at hj hj'
      rw [List.getElem_append_right (by omega), List.getElem_append_right (by omega)]
      have hN' := hN (j - us.length) (by omega) (by omega)
      have e : j - MS.length = j - us.length := by omega
      simp only [e]
      have hin : ∀ b, A2 b → A' b ∨ w.heap.size ≤ b ∧ b < W.heap.size := fun b hb => by
        rcases hA2 b hb with h1 | h1
        · exact .inl (h.inA b h1)
        · exact .inr h1
      exact hN'.kept (fun b hb => e3 b (hlow b (hin b hb)) (hout b (hin b hb))) hin
  · rcases hb with hb | hb
    · exact h.ofA b hb
    · right; omega
  · rcases hm with ⟨h0, _⟩ | ⟨h0, _⟩
    · rw [h0] at hb; exact hout b hA hb
    · rw [h0] at hb
      simp at hb
      have := hlow b hA
      omega
/-- such a row as a list -/
theorem RG.ltr {A : Nat → Prop} {w0 w : World} {ad : Option Addr} {n c : Nat} {us : List Tn} (h : RG A w0 w (.slice ad n c) us) : LTr w (New A w0 w) ad us ∧ n = us.length ∧ n ≤ c ∧ c ≤ maxLen := by
  obtain ⟨MS, A', h⟩ := h
  have hl := h.len
  have hn := row_len h.row
  refine ⟨⟨fun i => MS.getD i default, fun hp => ?_, fun i hi => ?_⟩, hn, ?_⟩
  · obtain ⟨b, e1, e2, h9⟩ := row_nine h.row hl.symm hp
    refine ⟨b, 0, e1, .inr (h.row.lt b e2), fun i hi => ?_⟩
    show N9 w b 0 i (MS.getD i default)
    rw [List.getD_eq_getElem?_getD, List.getElem?_eq_getElem (show i < MS.length by omega)]
    exact h9 i (by omega)
  · show TP w (New A w0 w) (MS.getD i default) us[i]
    rw [List.getD_eq_getElem?_getD, List.getElem?_eq_getElem (show i < MS.length by omega)]
    refine (h.tp i hi (by omega)).kept (fun _ _ => rfl) (fun b hb => ?_)
    rcases h.ofA b hb with h1 | h1
    · exact .inl h1
    · exact .inr ⟨h1, h.low b hb⟩
  · rcases h.row.2 with ⟨e, h0⟩ | ⟨g, cap, cur, e, _, _, h2, h3, _⟩
    · simp only [Value.slice.injEq] at e
      obtain ⟨_, rfl, rfl⟩ := e
      exact ⟨Nat.le_refl _, by simp [maxLen]⟩
    · simp only [Value.slice.injEq] at e
      obtain ⟨_, e2, rfl⟩ := e
      exact ⟨by omega, h3⟩
/-- the cells of one that was just put down -/
theorem news9 (w2 : World) (M : Nv) : ∀ j y, (Nv.cs M)[j]? = some y → (w2.alloc (.cells #[.int .i64 M.k, .slice M.r1 M.r2 M.r3, .int .i64 M.a2, .slice M.s1 M.s2 M.s3, .int .i64 M.a4, .int .i64 M.a5, .bool M.a6, .int .i64 M.a7, .string M.a8] 25)).cell? ((⟨w2.heap.size, 0, none⟩ : Addr).add j) = some y := by
  intro j y hj
  rw [Addr.add_mid, Nat.zero_add, Joins.cell_of_block (heap_alloc_new w2 _)]
  rw [← hj, ← Array.getElem?_toList]
/-- the cells of a list -/
theorem tl_news {w : World} {b o n : Nat} {ND : Nat → Nv} (h : ∀ i, i < n → N9 w b o i (ND i)) : ∀ j y, ((List.range n).map ND |>.flatMap Nv.cs)[j]? = some y → w.cell? ((⟨b, o, none⟩ : Addr).add j) = some y := by
  intro j y hj
  have hlt : j < n * 9 := by
    have := (List.getElem?_eq_some_iff.1 hj).1
    rw [flat9_len] at this
    simpa using this
  obtain ⟨i, r, hr, rfl⟩ : ∃ i r, r < 9 ∧ j = i * 9 + r := ⟨j / 9, j % 9, by omega, by omega⟩
  have hi : i < n := by omega
  rw [flat9 ((List.range n).map ND) i r (by simpa using hi) hr] at hj
  simp only [List.getElem_map, List.getElem_range] at hj
  rw [Addr.add_mid, ← hj, ← Nat.add_assoc]
  obtain ⟨n0, n1, n2, n3, n4, n5, n6, n7, n8⟩ := h i hi
  rcases nine_cases hr with rfl | rfl | rfl | rfl | rfl | rfl | rfl | rfl | rfl
  · exact n0
  · exact n1
  · exact n2
  · exact n3
  · exact n4
  · exact n5
  · exact n6
  · exact n7
  · exact n8
theorem one9L (l : List Nv) : ∀ u ∈ l.flatMap Nv.cs, u.oneCell' = true := by
  intro u hu
  obtain ⟨M, _, hM⟩ := List.mem_flatMap.1 hu
  exact one9 M u hM
end Go.Proofs.Ytdidopgenhpakaa
/- HELPERS: the document's loop, and its JOIN of trees. -/
namespace Go.Proofs.Ytdidopgenhpakaa
open Go.RowKit
set_option linter.unusedVariables false
set_option linter.unusedSimpArgs false
abbrev lpN (b : Nat) (mn mx : Int) (lz : Bool) : Nv := ⟨6, none, 0, 0, 0, some ⟨b, 0, none⟩, 1, 1, mn, mx, lz, 0, ⟨#[]⟩⟩
theorem lp_tp {w : World} {A : Nat → Prop} {b : Nat} {M : Nv} {s : Tn} {mn mx : Int} {lz : Bool} (hM : TP w A M s) (h : BN w b M) (hb : A b) (h1 : I64ok mn) (h2 : I64ok mx) : TP w A (lpN b mn mx lz) (loopT mn mx lz s) := by
  have hm : (1 : Nat) ≤ maxLen := by unfold maxLen; omega
  refine .mk (N := lpN b mn mx lz) (R := []) (ts := [s]) (ND := fun _ => M) ⟨ok6, ok0, h1, h2, ok0, Nat.zero_le _, ⟨Nat.le_refl _, Nat.zero_le _⟩, ⟨Nat.le_refl _, hm⟩⟩ rfl (fun h => absurd rfl h) (by simp) rfl (fun _ => ⟨b, 0, rfl, hb, fun i hi => ?_⟩) (fun i hi => ?_)
  · have e : i = 0 := by simpa using hi
    subst e
    obtain ⟨q0, q1, q2, q3, q4, q5, q6, q7, q8⟩ := nine' h
    exact ⟨q0, q1, q2, q3, q4, q5, q6, q7, q8⟩
  · have e : i = 0 := by simpa using hi
    subst e
    exact hM
theorem below_three (w : World) (o o' o'' : Obj) : Below w.heap.size w (((w.alloc o).alloc o').alloc o'') := (below_two' w o o').alloc (by simp; omega) _
set_option maxRecDepth 100000 in
set_option maxHeartbeats 4000000 in
theorem loop97 {A : Nat → Prop} {Y : Nv} {y : Tn} (mn mx : Int) (lz : Bool) {w : World} (h1 : I64ok mn) (h2 : I64ok mx) (hA : ∀ b, A b → b < w.heap.size) (hY : TP w A Y y) : Calls Try.prog 97 #[Y.v, .int .i64 mn, .int .i64 mx, .bool lz] w fun e w' => ∃ M, e = .returned (Nv.v M) ∧ TP w' (New A w w') M (loopT mn mx lz y) ∧ Below w.heap.size w w' := by
  have HY := hid hY
  have HA := hid hA
  clear hY hA
  go_enter Try.func97, Try.ntmps97
  go_wp2
  all_goals
    refine bodyPost_ret (results_cell_row rfl _ _ (w.heap.size + 1) 25 _ (0, 0) _ rfl ((heap_alloc_old _ _ (by simp)).trans (two_new w _ _ _)) Try.underlying25 rfl (by kernel_rfl)) rfl ?_
    refine ⟨lpN (w.heap.size + 1 + 1) mn mx lz, rfl, ?_, below_three w _ _ _⟩
    refine lp_tp (M := Y) (HY.out.kept (fun b hb => (below_three w _ _ _).block b (HA.out b hb)) fun b hb => .inl hb) ?_ (.inr ⟨by omega, by simp⟩) h1 h2
    have e := heap_alloc_new ((w.alloc (.cells #[.int .i64 Y.k, .slice Y.r1 Y.r2 Y.r3, .int .i64 Y.a2, .slice Y.s1 Y.s2 Y.s3, .int .i64 Y.a4, .int .i64 Y.a5, .bool Y.a6, .int .i64 Y.a7, .string Y.a8] 25)).alloc (.cells #[.int .i64 6, .slice none 0 0, .int .i64 0, .slice (some ⟨w.heap.size + 1 + 1, 0, none⟩) 1 1, .int .i64 mn, .int .i64 mx, .bool lz, .int .i64 0, .string ⟨#[]⟩] 25)) (.cells #[.int .i64 Y.k, .slice Y.r1 Y.r2 Y.r3, .int .i64 Y.a2, .slice Y.s1 Y.s2 Y.s3, .int .i64 Y.a4, .int .i64 Y.a5, .bool Y.a6, .int .i64 Y.a7, .string Y.a8] 25)
    have hs : ((w.alloc (.cells #[.int .i64 Y.k, .slice Y.r1 Y.r2 Y.r3, .int .i64 Y.a2, .slice Y.s1 Y.s2 Y.s3, .int .i64 Y.a4, .int .i64 Y.a5, .bool Y.a6, .int .i64 Y.a7, .string Y.a8] 25)).alloc (.cells #[.int .i64 6, .slice none 0 0, .int .i64 0, .slice (some ⟨w.heap.size + 1 + 1, 0, none⟩) 1 1, .int .i64 mn, .int .i64 mx, .bool lz, .int .i64 0, .string ⟨#[]⟩] 25)).heap.size = w.heap.size + 1 + 1 := by simp
    rw [hs] at e
    exact e
theorem jn_take (l : List Tn) (i : Nat) (hi : i < l.length) : (l.take (i + 1)).flatMap jn = (l.take i).flatMap jn ++ jn l[i] := by
  rw [List.take_succ_eq_append_getElem hi, List.flatMap_append]; simp
theorem jn_take_len (l : List Tn) (i : Nat) : ((l.take i).flatMap jn).length ≤ (l.flatMap jn).length := by
  conv => rhs; rw [← List.take_append_drop i l, List.flatMap_append, List.length_append]
  omega
/-- how a row of trees ends as a node's list -/
theorem RG.node {A : Nat → Prop} {w0 w : World} {ad : Option Addr} {n c : Nat} {us : List Tn} (h : RG A w0 w (.slice ad n c) us) (k : Int) (hk : I64ok k) : TP w (New A w0 w) ⟨k, none, 0, 0, 0, ad, n, c, 0, 0, false, 0, ⟨#[]⟩⟩ (zN k us) := by
  obtain ⟨h1, h2, h3, h4⟩ := h.ltr
  exact h1.node (N := ⟨k, none, 0, 0, 0, ad, n, c, 0, 0, false, 0, ⟨#[]⟩⟩) (R := []) ⟨hk, ok0, ok0, ok0, ok0, Nat.zero_le _, ⟨Nat.le_refl _, Nat.zero_le _⟩, ⟨h3, h4⟩⟩ rfl (fun h => absurd rfl h) (by simp) h2
abbrev C9 (N : Nv) : Array Value := #[.int .i64 N.k, .slice N.r1 N.r2 N.r3, .int .i64 N.a2, .slice N.s1 N.s2 N.s3, .int .i64 N.a4, .int .i64 N.a5, .bool N.a6, .int .i64 N.a7, .string N.a8]
/-- a node is put into a box -/
theorem setN9 (X : World) (z : Nat) (N M : Nv) (h : BN X z N) :
    let Y := (((((((((X.setCell ⟨z, 0, none⟩ (.int .i64 M.k)).setCell ⟨z, 1, none⟩ (.slice M.r1 M.r2 M.r3)).setCell ⟨z, 2, none⟩ (.int .i64 M.a2)).setCell ⟨z, 3, none⟩ (.slice M.s1 M.s2 M.s3)).setCell ⟨z, 4, none⟩ (.int .i64 M.a4)).setCell ⟨z, 5, none⟩ (.int .i64 M.a5)).setCell ⟨z, 6, none⟩ (.bool M.a6)).setCell ⟨z, 7, none⟩ (.int .i64 M.a7)).setCell ⟨z, 8, none⟩ (.string M.a8))
    BN Y z M ∧ (∀ j, j ≠ z → Y.heap[j]? = X.heap[j]?) ∧ Y.heap.size = X.heap.size ∧ (∀ (B : Nat) (W : World), Below B W X → B ≤ z → Below B W Y) := by
  refine ⟨nineSet X z (.int .i64 M.k) (.slice M.r1 M.r2 M.r3) (.int .i64 M.a2) (.slice M.s1 M.s2 M.s3) (.int .i64 M.a4) (.int .i64 M.a5) (.bool M.a6) (.int .i64 M.a7) (.string M.a8) h, fun j hj => ?_, by simp [World.setCell], fun B W hb hB => ?_⟩
  · have f : ∀ (U : World) (o : Nat) (v : Value), (U.setCell ⟨z, o, none⟩ v).heap[j]? = U.heap[j]? := fun U o v => Below.heap_setCell _ _ _ _ hj
    simp only [f]
  · have f : ∀ (U : World) (o : Nat) (v : Value), Below B W U → Below B W (U.setCell ⟨z, o, none⟩ v) := fun U o v h => h.setCell (by exact hB) v
    exact f _ _ _ (f _ _ _ (f _ _ _ (f _ _ _ (f _ _ _ (f _ _ _ (f _ _ _ (f _ _ _ (f _ _ _ hb))))))))
/-- a node is put into the box of what comes out -/
theorem box_end {A A2 : Nat → Prop} {w X : World} {z : Nat} {N M : Nv} {t : Tn} (hz : w.heap.size ≤ z) (hA : ∀ b, A b → b < w.heap.size) (hx : BN X z N) (hb : Below w.heap.size w X) (hT : TP X A2 M t) (hA2 : ∀ b, A2 b → A b ∨ w.heap.size ≤ b ∧ b ≠ z ∧ b < X.heap.size) :
    let Y := (((((((((X.setCell ⟨z, 0, none⟩ (.int .i64 M.k)).setCell ⟨z, 1, none⟩ (.slice M.r1 M.r2 M.r3)).setCell ⟨z, 2, none⟩ (.int .i64 M.a2)).setCell ⟨z, 3, none⟩ (.slice M.s1 M.s2 M.s3)).setCell ⟨z, 4, none⟩ (.int .i64 M.a4)).setCell ⟨z, 5, none⟩ (.int .i64 M.a5)).setCell ⟨z, 6, none⟩ (.bool M.a6)).setCell ⟨z, 7, none⟩ (.int .i64 M.a7)).setCell ⟨z, 8, none⟩ (.string M.a8))
    Y.heap[z]? = some (.cells (C9 M) 25 (0, 0)) ∧ TP Y (New A w Y) M t ∧ Below w.heap.size w Y := by
  obtain ⟨y1, y2, y3, y4⟩ := setN9 X z N M hx
  refine ⟨y1, hT.kept (fun b hb => y2 b ?_) (fun b hb => ?_), y4 _ _ hb hz⟩
  · rcases hA2 b hb with h | h
    · have := hA b h; omega
    · exact h.2.1
  · rcases hA2 b hb with h | h
    · exact .inl h
    · exact .inr ⟨h.1, by rw [y3]; exact h.2.2⟩
set_option maxRecDepth 100000 in
set_option maxHeartbeats 8000000 in
theorem join74 {A : Nat → Prop} {w : World} {ad : Option Addr} {n c : Nat} {l : List Tn} (hA : ∀ b, A b → b < w.heap.size) (hn : n = l.length) (hl : l.length ≤ 200000) (hL : LTr w A ad l) (hnf : ∀ x ∈ l, Nf x) (hbig : (joinT (ones l)).nodes ≤ 200000) :
    Calls Try.prog 74 #[.slice ad n c] w fun e w' => ∃ M, e = .returned (Nv.v M) ∧ TP w' (New A w w') M (joinT (ones l)) ∧ Below w.heap.size w w' := by
  rw [joinT_jn hnf] at hbig ⊢
  obtain ⟨us, hus⟩ : ∃ us, us = l.flatMap jn := ⟨_, rfl⟩
  rw [← hus]
  have HUS := hid hus
  have hlen : ∀ i, ((l.take i).flatMap jn).length ≤ 200000 := fun i => by have := jn_take_len l i; have := joinU_len (l.flatMap jn); omega
  obtain ⟨W, hW⟩ : ∃ W, W = w.alloc (.cells #[.int .i64 0, .slice none 0 0, .int .i64 0, .slice none 0 0, .int .i64 0, .int .i64 0, .bool false, .int .i64 0, .string ⟨#[]⟩] 25) := ⟨_, rfl⟩
  have hBW : Below w.heap.size w W := by rw [hW]; exact Joins.below_alloc1 w _
  have hSW : W.heap.size = w.heap.size + 1 := by rw [hW]; simp
  have hZW : BN W w.heap.size default := by rw [hW]; exact heap_alloc_new w _
  obtain ⟨z, hz⟩ : ∃ z, z = w.heap.size := ⟨_, rfl⟩
  rw [← hz] at hSW hZW hA
  have hLW : LTr W A ad l := hL.kept (fun b hb => hBW.block b (by have := hA b hb; omega)) fun b hb => hb
  have hAW : ∀ b, A b → b < W.heap.size := fun b hb => by have := hA b hb; omega
  obtain ⟨ND, hN1, hN2⟩ := hLW
  obtain ⟨i0, hi0, hz0, hz1, hz2⟩ := info_parts info25
  have HN := hid hn
  have HN1 := hid hN1
  have HN2 := hid hN2
  have HNF := hid hnf
  have HLN := hid hlen
  have HBW := hid hBW
  have HSW := hid hSW
  have HZW := hid hZW
  have HZ := hid hz
  have HA := hid hA
  have HAW := hid hAW
  have hn2 : n ≤ 200000 := by omega
  clear hn hN1 hN2 hnf hlen hBW hSW hZW hA hAW hbig hL hl hus
  go_enter Try.func74, Try.ntmps74
  go_wp2_with fail
  rw [← hz, ← hW]
  clear hz hW
  go_loopw [3, 4] (fun u y wq => ∃ (i j : Nat) (u1 : Option Addr) (u3 : Nat), u = .slice u1 j u3 ∧ y = .int .i64 (i : Int) ∧ i ≤ n ∧ j ≤ 200000 ∧ Hid (RG A W wq (.slice u1 j u3) ((l.take i).flatMap jn))) (fun _ y _ => n - (intOf y).toNat)
  case atStart => exact ⟨0, 0, none, 0, rfl, rfl, by omega, by omega, by show RG _ _ _ _ _; simpa using RG.start HAW.out (Below.refl _ _)⟩
  case round =>
    obtain ⟨i, j, u1, u3, rfl, rfl, hi, hj, HR⟩ := hrel
    by_cases hil : i < n
    · have b1 : decide ((i : Int) < (n : Int)) = true := by simp; omega
      have b2 : (i : Int) < (n : Int) := by omega
      have ad1 : IntKind.i64.wrap ((i : Int) + 1) = (i : Int) + 1 := by simp [IntKind.wrap, IntKind.bits, IntKind.signed]; omega
      have hil' : i < l.length := by have := HN.out; omega
      obtain ⟨MS, A', hR⟩ := HR.out
      have hbel := hR.bel
      obtain ⟨b, o, hs1, hbA, h9⟩ := HN1.out (by omega)
      subst hs1
      have hbl := HAW.out b hbA
      obtain ⟨n0, n1, n2, n3, n4, n5, n6, n7, n8⟩ := (h9 i hil').kept (hbel.block b hbl)
      have hTP : TP wr A (ND i) l[i] := (HN2.out i hil').kept (fun b hb => hbel.block b (HAW.out b hb)) fun b hb => hb
      obtain ⟨M, hM⟩ : ∃ M, M = ND i := ⟨_, rfl⟩
      rw [← hM] at n0 n1 n2 n3 n4 n5 n6 n7 n8 hTP
      have hst := jn_take l i hil'
      have hln := HLN.out (i + 1)
      rw [hst] at hln
      obtain ⟨hsubs, hs2, hs23, hk⟩ := hTP.subs
      have hul : j = ((l.take i).flatMap jn).length := row_len hR.row
      have hnfx := HNF.out l[i] (List.getElem_mem hil')
      obtain ⟨x, hx⟩ : ∃ x, x = l[i] := ⟨_, rfl⟩
      rw [← hx] at hTP hst hln hsubs hs2 hk hnfx
      obtain ⟨vs, hus⟩ : ∃ vs, vs = (l.take i).flatMap jn := ⟨_, rfl⟩
      rw [← hus] at hR hst hln hul
      have HST := hid hst
      have HTP := hid hTP
      have HR1 := hid hR
      have HX := hid hx
      have HUL := hid hul
      have HLX := hid hln
      have HSB := hid hsubs
      have hrow := hR.row
      rw [← hul] at hrow
      have HROW := hid hrow
      have hWs : W.heap.size ≤ wr.heap.size := hbel.size
      have HNX := hid hnfx
      have HHK := hid hk
      have HS2 := hid hs2
      obtain ⟨mk, m1, m2, m3, m4, t1, t2, t3, m5, m6, m7, m8, m9⟩ := M
      dsimp only at n0 n1 n2 n3 n4 n5 n6 n7 n8 hs23
      clear hst hTP hR hx hus hul hM h9 hsubs hln HR hrow hk hs2 hnfx hbel
      by_cases k1 : mk = 1
      · subst k1
        have hjn : jn x = [] := by unfold jn; rw [if_pos HHK.out.symm]
        go_wp2
        refine ⟨⟨i + 1, j, u1, u3, rfl, by push_cast; rfl, by omega, hj, ?_⟩, by simp [intOf]; omega⟩
        rw [HST.out, hjn, List.append_nil]
        exact ⟨MS, A', HR1.out⟩
      · have g1 : (mk == 1) = false := by simp [k1]
        have hjn : jn x = within 4 x := by unfold jn; rw [if_neg (by have := HHK.out; dsimp only at this; omega)]
        by_cases k4 : mk = 4
        · subst k4
          have hw4 : within 4 x = x.subs := by unfold within; rw [if_pos HHK.out.symm]
          have h2 := nf_subs HNX.out (.inl HHK.out.symm)
          have hs2 : t2 = x.subs.length := HS2.out
          obtain ⟨ND2, h1', h2'⟩ := HSB.out
          obtain ⟨b2, o2, e2, hb2, h92⟩ := h1' (by omega)
          dsimp only at e2
          subst e2
          have hnews := tl_news (n := t2) (fun i hi => h92 i (by omega))
          have hnl : (((List.range t2).map ND2).flatMap Nv.cs).length = t2 * 9 := by rw [flat9_len]; simp
          have htj : j + t2 ≤ 200000 := by have h := HLX.out; have := HUL.out; rw [hjn, hw4, List.length_append] at h; omega
          obtain ⟨news, hnw⟩ : ∃ news, news = ((List.range t2).map ND2).flatMap Nv.cs := ⟨_, rfl⟩
          have h1c : ∀ u ∈ news, u.oneCell' = true := by rw [hnw]; exact one9L _
          rw [← hnw] at hnews hnl
          have HNW := hid hnw
          have HN2' := hid h2'
          have HNL := hid hnl
          have HNEWS := hid hnews
          have H1C := hid h1c
          have hp2 : 2 ≤ t2 := by omega
          have HHS := hid hs2
          clear hnw h1' h2' h92 hnl hnews h1c h2 hs2
          go_wp2_with (first | (at_builtin; refine wpList_append_moveN rfl (.tmp 27) (.tmp 32) 23 rfl W.heap.size 25 i0 Z9 9 112 Try.underlying23 hi0 hz0 hz1 hz2 rfl (by decide) (.slice u1 j u3) j (MS.flatMap Nv.cs) rfl HROW.out ⟨b2, o2, none⟩ t2 t3 news rfl HNL.out (by omega) HNEWS.out H1C.out (by unfold maxLen; omega) (by omega) hWs ?_; intro v' w3 ho3 hm3; obtain ⟨vb, vc, rfl⟩ := Joins.ownsRow_form ho3.out (by omega)))
          refine ⟨⟨i + 1, j + t2, some ⟨vb, 0, none⟩, vc, rfl, by push_cast; rfl, by omega, htj, ?_⟩, by simp [intOf]; omega⟩
          rw [HST.out, hjn, hw4]
          have ho := ho3.out
          rw [HNW.out] at ho
          have hhs := HHS.out
          refine HR1.out.app (A2 := A) (Below.refl _ _) (news := (List.range t2).map ND2) (by simp [hhs]) (fun q hq hq' => ?_) (fun b hb => .inl hb) (Below.refl _ _) ?_ hm3.out
          · simp only [List.getElem_map, List.getElem_range]; exact HN2'.out q hq
          · rw [← HUL.out, ← hhs]; exact ho
        · have g4 : (mk == 4) = false := by simp [k4]
          have hw4 : within 4 x = [x] := by unfold within; rw [if_neg (by have := HHK.out; dsimp only at this; omega)]
          have htj : j + 1 ≤ 200000 := by have h := HLX.out; have := HUL.out; rw [hjn, hw4, List.length_append] at h; simp at h; omega
          go_wp2_with (first | (at_builtin; refine wpList_append_moveN rfl (.tmp 16) (.tmp 21) 23 rfl W.heap.size 25 i0 Z9 9 112 Try.underlying23 hi0 hz0 hz1 hz2 rfl (by decide) (.slice u1 j u3) j (MS.flatMap Nv.cs) rfl (HROW.out.alloc _) ⟨wr.heap.size, 0, none⟩ 1 1 (Nv.cs ⟨mk, m1, m2, m3, m4, t1, t2, t3, m5, m6, m7, m8, m9⟩) rfl rfl (by decide) (news9 wr ⟨mk, m1, m2, m3, m4, t1, t2, t3, m5, m6, m7, m8, m9⟩) (one9 _) (by unfold maxLen; omega) (by omega) (by simp; omega) ?_; intro v' w3 ho3 hm3; obtain ⟨vb, vc, rfl⟩ := Joins.ownsRow_form ho3.out (by omega)))
          refine ⟨⟨i + 1, j + 1, some ⟨vb, 0, none⟩, vc, rfl, by push_cast; rfl, by omega, htj, ?_⟩, by simp [intOf]; omega⟩
          rw [HST.out, hjn, hw4]
          refine HR1.out.app (A2 := A) (Below.refl _ _) (news := [⟨mk, m1, m2, m3, m4, t1, t2, t3, m5, m6, m7, m8, m9⟩]) rfl (fun q hq hq' => ?_) (fun b hb => .inl hb) (Joins.below_alloc1 wr _) ?_ hm3.out
          · have e : q = 0 := by simpa using hq
            subst e
            exact HTP.out
          · rw [← HUL.out]; simpa using ho3.out
    · have b1 : decide ((i : Int) < (n : Int)) = false := by simp; omega
      obtain rfl : i = n := by omega
      have hR := HR.out
      have htk : l.take i = l := by rw [HN.out, List.take_length]
      rw [htk, ← HUS.out] at hR
      have hul : j = us.length := by obtain ⟨MS, A', h⟩ := hR; exact row_len h.row
      have hbel : Below W.heap.size W wr := by obtain ⟨MS, A', h⟩ := hR; exact h.bel
      have hwr : Below w.heap.size w wr := HBW.out.trans (Joins.below_le hbel HBW.out.size)
      have bz : BN wr z default := (hbel.block z (by have := HSW.out; omega)).trans HZW.out
      obtain ⟨q0, q1, q2, q3, q4, q5, q6, q7, q8⟩ := nine' bz
      have f0 := Joins.unfrozen_of_block bz 0
      have f1 := Joins.unfrozen_of_block bz 1
      have f2 := Joins.unfrozen_of_block bz 2
      have f3 := Joins.unfrozen_of_block bz 3
      have f4 := Joins.unfrozen_of_block bz 4
      have f5 := Joins.unfrozen_of_block bz 5
      have f6 := Joins.unfrozen_of_block bz 6
      have f7 := Joins.unfrozen_of_block bz 7
      have f8 := Joins.unfrozen_of_block bz 8
      have HBZ := hid bz
      have HWR := hid hwr
      have HRR := hid hR
      have HUL := hid hul
      have HWS := hid hbel.size
      clear hR hbel hwr bz HR hul htk
      by_cases j0 : j = 0
      · subst j0
        have hu0 : us = [] := List.length_eq_zero_iff.1 HUL.out.symm
        go_wp2
        all_goals
          obtain ⟨y1, y2, y3⟩ := box_end (M := NK 1) (t := emptyT) (by have := HZ.out; omega) (fun b hb => by have := HA.out b hb; have := HZ.out; omega) HBZ.out HWR.out (TP.mk (A := fun _ => False) (N := NK 1) (R := []) (ts := []) (ND := fun _ => default) (ok_NO 1 0 0 false 0 ⟨#[]⟩ (by decide) (by decide) (by decide) (by decide) (Nat.zero_le _)) rfl (fun h => absurd rfl h) (by simp) rfl (fun h => by simp at h) (fun i hi => by simp at hi)) (fun b h => h.elim)
          refine bodyPost_ret (results_cell_row rfl _ _ z 25 _ (0, 0) _ rfl y1 Try.underlying25 rfl (by kernel_rfl)) rfl ⟨NK 1, rfl, ?_, y3⟩
          rw [hu0]
          exact y2
      · have g0 : ((j : Int) == 0) = false := by simp [j0]
        by_cases j1 : j = 1
        · subst j1
          obtain ⟨u, hu⟩ : ∃ u, us = [u] := by
            match us, HUL.out with
            | [u], _ => exact ⟨u, rfl⟩
          obtain ⟨MS, A', hR⟩ := HRR.out
          have hl := hR.len
          obtain ⟨g, e1, e2, h9⟩ := row_nine hR.row hl.symm (by rw [← HUL.out]; decide)
          subst e1
          have hl1 : 0 < MS.length := by rw [hl, ← HUL.out]; decide
          obtain ⟨n0, n1, n2, n3, n4, n5, n6, n7, n8⟩ := h9 0 hl1
          have htp := hR.tp 0 (by rw [← HUL.out]; decide) hl1
          simp only [Nat.zero_mul, Nat.add_zero, Nat.zero_add] at n0 n1 n2 n3 n4 n5 n6 n7 n8
          have hofA := hR.ofA
          have hlow := hR.low
          obtain ⟨M, hM⟩ : ∃ M, M = MS[0] := ⟨_, rfl⟩
          rw [← hM] at n0 n1 n2 n3 n4 n5 n6 n7 n8 htp
          have htp : TP wr A' M u := by
            have e : us[0]'(by rw [hu]; simp) = u := by simp [hu]
            rw [← e]; exact htp
          have HJU : Hid (joinU us = u) := by rw [hu]; exact rfl
          have HTP := hid htp
          have HOF := hid hofA
          have HLO := hid hlow
          clear htp hofA hlow hM h9 hR hl e2 hl1
          go_wp2
          all_goals
            obtain ⟨y1, y2, y3⟩ := box_end (M := M) (t := u) (by have := HZ.out; omega) (fun b hb => by have := HA.out b hb; have := HZ.out; omega) HBZ.out HWR.out HTP.out (fun b h => by rcases HOF.out b h with h1 | h1; exact .inl h1; exact .inr ⟨by have := HSW.out; have := HZ.out; omega, by have := HSW.out; omega, HLO.out b h⟩)
            exact bodyPost_ret (results_cell_row rfl _ _ z 25 _ (0, 0) _ rfl y1 Try.underlying25 rfl (by kernel_rfl)) rfl (by rw [HJU.out]; exact ⟨M, rfl, y2, y3⟩)
        · have g1 : ((j : Int) == 1) = false := by simp; omega
          have hju : joinU us = zN 4 us := by
            match us, HUL.out with
            | [], h => simp at h; omega
            | [u], h => simp at h; omega
            | a :: b :: s, _ => rfl
          have HJU := hid hju
          clear hju
          go_wp2
          all_goals
            obtain ⟨y1, y2, y3⟩ := box_end (M := ⟨4, none, 0, 0, 0, u1, j, u3, 0, 0, false, 0, ⟨#[]⟩⟩) (t := zN 4 us) (by have := HZ.out; omega) (fun b hb => by have := HA.out b hb; have := HZ.out; omega) HBZ.out HWR.out (HRR.out.node 4 (by decide)) (fun b h => by rcases h with h1 | h1; exact .inl h1; exact .inr ⟨by have := HSW.out; have := HZ.out; omega, by have := HSW.out; omega, h1.2⟩)
            exact bodyPost_ret (results_cell_row rfl _ _ z 25 _ (0, 0) _ rfl y1 Try.underlying25 rfl (by kernel_rfl)) rfl (by rw [HJU.out]; exact ⟨_, rfl, y2, y3⟩)
end Go.Proofs.Ytdidopgenhpakaa
/- HELPERS: the document's unfolding of a repeat. -/
namespace Go.Proofs.Ytdidopgenhpakaa
open Go.RowKit
set_option linter.unusedVariables false
set_option linter.unusedSimpArgs false
theorem rep_zero (y : Tn) (lz : Bool) : repT y 0 0 lz = emptyT := by
  unfold repT
  rw [if_pos (by decide)]
  have k0 : keep (y, 0) = false := by simp [keep]
  have k1 : keep (emptyT, 1) = false := by simp [keep, Tn.kind]
  simp only [show ((0 : Int) - 0).toNat = 0 from rfl, show (0 : Int).toNat = 0 from rfl, optT, joinT, List.filter_cons, List.filter_nil, k0, k1, Bool.false_eq_true, if_false]
  rfl
theorem joinT_one {o : Tn} (ho : Nf o) (hk : o.kind ≠ 1) (h4 : o.kind ≠ 4) : joinT (ones [o]) = o := by
  rw [joinT_jn (by simpa using ho)]
  simp [jn, within, hk, h4, joinU]
theorem rep_inf {y : Tn} (hy : Nf y) (p : Nat) (lz : Bool) : repT y (p : Int) (-1) lz = joinT (ones (List.replicate (p - 1) y ++ [loopT (min (p : Int) 1) (-1) lz y])) := by
  unfold repT
  rw [if_neg (by decide)]
  by_cases h0 : p = 0
  · subst h0
    rw [if_pos (by rfl)]
    exact (joinT_one (.loop (.inr (.inl ⟨rfl, rfl⟩)) hy) (by simp [Tn.kind]) (by simp [Tn.kind])).symm
  · rw [if_neg (by omega), show min (p : Int) 1 = 1 by omega, joinT_runs _ hy (.loop (.inr (.inr ⟨rfl, rfl⟩)) hy), show ((p : Int) - 1).toNat = p - 1 by omega]
theorem rep_fin {y : Tn} (hy : Nf y) (p q : Nat) (lz : Bool) : repT y (p : Int) ((p + q : Nat) : Int) lz = joinT (ones (List.replicate p y ++ [optT y lz q])) := by
  unfold repT
  rw [if_pos (by omega), joinT_runs _ hy (nf_opt lz hy _), show (((p + q : Nat) : Int) - (p : Int)).toNat = q by omega, show (p : Int).toNat = p by omega]
theorem rep_snoc (i : Nat) (y : Tn) : List.replicate (i + 1) y = List.replicate i y ++ [y] := List.replicate_succ'
set_option maxRecDepth 100000 in
set_option maxHeartbeats 8000000 in
theorem unfold75_zero {A : Nat → Prop} {w : World} {k a2 a7 : Int} {lz : Bool} {a8 : ByteArray} {r1 s1 : Option Addr} {r2 r3 s2 s3 : Nat} {y : Tn} (hA : ∀ b, A b → b < w.heap.size) : Calls Try.prog 75 #[Nv.v ⟨k, r1, r2, r3, a2, s1, s2, s3, 0, 0, lz, a7, a8⟩] w fun e w' => ∃ M, e = .returned (Nv.v M) ∧ TP w' (New A w w') M (repT y 0 0 lz) ∧ Below w.heap.size w w' := by
  rw [rep_zero]
  have HA := hid hA
  clear hA
  go_enter Try.func75, Try.ntmps75
  go_wp2
  all_goals
    refine bodyPost_ret (results_cell_row rfl _ _ (w.heap.size + 1) 25 _ (0, 0) _ rfl (two_new w _ _ _) Try.underlying25 rfl (by kernel_rfl)) rfl ?_
    refine ⟨NK 1, rfl, ?_, below_two' w _ _⟩
    exact TP.mk (N := NK 1) (R := []) (ts := []) (ND := fun _ => default) (ok_NO 1 0 0 false 0 ⟨#[]⟩ (by decide) (by decide) (by decide) (by decide) (Nat.zero_le _)) rfl (fun h => absurd rfl h) (by simp) rfl (fun h => by simp at h) (fun i hi => by simp at hi)
set_option maxRecDepth 100000 in
set_option maxHeartbeats 16000000 in
theorem unfold75_inf {A : Nat → Prop} {w : World} {k a2 a7 : Int} {lz : Bool} {a8 : ByteArray} {r1 : Option Addr} {r2 r3 s3 p b o : Nat} {M : Nv} {y : Tn} (hA : ∀ b, A b → b < w.heap.size) (hbA : A b) (h9 : N9 w b o 0 M) (hs3 : 1 ≤ s3) (hy : Nf y) (hp : p ≤ 1000)
    (HF : ∀ w1, Below w.heap.size w w1 → Calls Try.prog 51 #[M.v] w1 fun e w' => ∃ Y, e = .returned (Nv.v Y) ∧ TP w' (New A w1 w') Y y ∧ Below w1.heap.size w1 w') (hbig : (repT y (p : Int) (-1) lz).nodes ≤ 200000) :
    Calls Try.prog 75 #[Nv.v ⟨k, r1, r2, r3, a2, some ⟨b, o, none⟩, 1, s3, (p : Int), -1, lz, a7, a8⟩] w fun e w' => ∃ M, e = .returned (Nv.v M) ∧ TP w' (New A w w') M (repT y (p : Int) (-1) lz) ∧ Below w.heap.size w w' := by
  rw [rep_inf hy] at hbig ⊢
  obtain ⟨W, hW⟩ : ∃ W, W = (w.alloc (.cells #[.int .i64 k, .slice r1 r2 r3, .int .i64 a2, .slice (some ⟨b, o, none⟩) 1 s3, .int .i64 (p : Int), .int .i64 (-1), .bool lz, .int .i64 a7, .string a8] 25)).alloc (.cells #[.int .i64 0, .slice none 0 0, .int .i64 0, .slice none 0 0, .int .i64 0, .int .i64 0, .bool false, .int .i64 0, .string ⟨#[]⟩] 25) := ⟨_, rfl⟩
  have hBW : Below w.heap.size w W := by rw [hW]; exact below_two' w _ _
  have hSW : W.heap.size = w.heap.size + 1 + 1 := by rw [hW]; simp
  have hBN : BN W w.heap.size ⟨k, r1, r2, r3, a2, some ⟨b, o, none⟩, 1, s3, (p : Int), -1, lz, a7, a8⟩ := by rw [hW]; exact (heap_alloc_old _ _ (by simp)).trans (heap_alloc_new w _)
  have hZW : BN W (w.heap.size + 1) default := by rw [hW]; exact two_new w _ _ _
  obtain ⟨n0, n1, n2, n3, n4, n5, n6, n7, n8⟩ := h9.kept (hBW.block b (hA b hbA))
  simp only [Nat.zero_mul, Nat.add_zero] at n0 n1 n2 n3 n4 n5 n6 n7 n8
  have HC := HF W hBW
  obtain ⟨z, hz⟩ : ∃ z, z = w.heap.size := ⟨_, rfl⟩
  rw [← hz] at hBN hSW hZW hA
  obtain ⟨q0, q1, q2, q3, q4, q5, q6, q7, q8⟩ := nine' hBN
  obtain ⟨i0, hi0, hz0, hz1, hz2⟩ := info_parts info25
  obtain ⟨q, hq⟩ : ∃ q : Nat, max ((p : Int) - 1) 0 = (q : Int) := ⟨(max ((p : Int) - 1) 0).toNat, by omega⟩
  have hw : IntKind.i64.wrap ((p : Int) - 1) = (p : Int) - 1 := by simp [IntKind.wrap, IntKind.bits, IntKind.signed]; omega
  have hqp : p - 1 = q := by omega
  rw [hqp] at hbig ⊢
  have HBN := hid hBN
  have HBW := hid hBW
  have HSW := hid hSW
  have HZW := hid hZW
  have HZ := hid hz
  have HA := hid hA
  have HY := hid hy
  have HBIG := hid hbig
  have hq1 : q ≤ 1000 := by omega
  clear hBN hBW hSW hZW hA hy hbig HF h9 hqp hbA
  go_enter Try.func75, Try.ntmps75
  go_upto_region 1 with fail
  rw [← hz, ← hW]
  clear hz hW
  go_upto_region 4 with (first | (go_at_call 51; (with_reducible refine HC.mono ?_); rintro e w1 ⟨Y, rfl, hY, hb1⟩; have HTY := hid hY; have HB1 := hid hb1; clear hY hb1 HC))
  clear q0 q1 q2 q3 q4 q5 q6 q7 q8 n0 n1 n2 n3 n4 n5 n6 n7 n8
  obtain ⟨V, hV⟩ : ∃ V, V = w1.alloc (.cells #[.int .i64 Y.k, .slice Y.r1 Y.r2 Y.r3, .int .i64 Y.a2, .slice Y.s1 Y.s2 Y.s3, .int .i64 Y.a4, .int .i64 Y.a5, .bool Y.a6, .int .i64 Y.a7, .string Y.a8] 25) := ⟨_, rfl⟩
  rw [← hV]
  have hVb : Below w1.heap.size w1 V := by rw [hV]; exact Joins.below_alloc1 w1 _
  have hVs : V.heap.size = w1.heap.size + 1 := by rw [hV]; simp
  have hVY : BN V w1.heap.size Y := by rw [hV]; exact heap_alloc_new w1 _
  have hWV : Below W.heap.size W V := HB1.out.trans (Joins.below_le hVb HB1.out.size)
  have hVN := (hWV.block z (by have := HSW.out; omega)).trans HBN.out
  have hVZ := (hWV.block (z + 1) (by have := HSW.out; omega)).trans HZW.out
  have hA1 : ∀ b, New A W w1 b → b < w1.heap.size := fun b hb => by
    rcases hb with h | h
    · have := HA.out b h; have := HSW.out; have := HB1.out.size; omega
    · exact h.2
  have hTV : TP V (New A W w1) Y y := HTY.out.kept (fun b hb => hVb.block b (hA1 b hb)) fun b hb => hb
  have hA2 : ∀ b, New A W w1 b → A b ∨ z + 1 < b := fun b hb => by
    rcases hb with h | h
    · exact .inl h
    · right; have := HSW.out; omega
  obtain ⟨zy, hzy⟩ : ∃ zy, zy = w1.heap.size := ⟨_, rfl⟩
  have hW1 := HB1.out.size
  rw [← hzy] at hVs hVY hA1 hW1 ⊢
  obtain ⟨A1, hAe⟩ : ∃ A1, A1 = New A W w1 := ⟨_, rfl⟩
  rw [← hAe] at hTV hA1 hA2
  have HVB := hid (HBW.out.trans (Joins.below_le hWV HBW.out.size))
  have HVS := hid hVs
  have HVY := hid hVY
  have HVN := hid hVN
  have HVZ := hid hVZ
  have HA1 := hid hA1
  have HA2 := hid hA2
  have HTV := hid hTV
  have hzz : z + 1 < zy := by have := HSW.out; omega
  clear hV hVb hVs hVY hWV hVN hVZ hA1 hTV hA2 hzy hAe HTY HB1 HBN HBW HSW HZW hW1
  obtain ⟨q0, q1, q2, q3, q4, q5, q6, q7, q8⟩ := nine' HVN.out
  go_wp2_with fail
  go_loopw [4, 6] (fun u x wq => ∃ (i : Nat) (u1 : Option Addr) (u3 : Nat), u = .slice u1 i u3 ∧ x = .int .i64 (i : Int) ∧ i ≤ q ∧ Hid (RG A1 V wq (.slice u1 i u3) (List.replicate i y))) (fun _ x _ => q - (intOf x).toNat)
  case atStart => exact ⟨0, none, 0, rfl, rfl, by omega, by show RG _ _ _ _ _; exact RG.start (fun b hb => by have := HA1.out b hb; have := HVS.out; omega) (Below.refl _ _)⟩
  case round =>
    obtain ⟨i, u1, u3, rfl, rfl, hi, HR⟩ := hrel
    have hbel : Below V.heap.size V wr := by obtain ⟨MS, A', h⟩ := HR.out; exact h.bel
    have hbs := hbel.size
    have bN := (hbel.block z (by have := HVS.out; omega)).trans HVN.out
    have bY := (hbel.block zy (by have := HVS.out; omega)).trans HVY.out
    have hTY : TP wr A1 Y y := HTV.out.kept (fun b hb => hbel.block b (by have := HA1.out b hb; have := HVS.out; omega)) fun b hb => hb
    have HTY := hid hTY
    have HBY := hid bY
    have HBN := hid bN
    have HBEL := hid hbel
    clear q0 q1 q2 q3 q4 q5 q6 q7 q8
    obtain ⟨q0, q1, q2, q3, q4, q5, q6, q7, q8⟩ := nine' bN
    obtain ⟨y0, y1, y2, y3, y4, y5, y6, y7, y8⟩ := nine' bY
    obtain ⟨MS, A', hR⟩ := HR.out
    have hrow := hR.row
    rw [List.length_replicate] at hrow
    have HR1 := hid hR
    have HROW := hid hrow
    clear hbel bN bY hTY hR hrow
    by_cases hil : i < q
    · have b1 : decide ((i : Int) < (q : Int)) = true := by simp; omega
      have ad1 : IntKind.i64.wrap ((i : Int) + 1) = (i : Int) + 1 := by simp [IntKind.wrap, IntKind.bits, IntKind.signed]; omega
      go_wp2_with (first | (at_builtin; refine wpList_append_moveN rfl (.tmp 32) (.tmp 34) 23 rfl V.heap.size 25 i0 Z9 9 112 Try.underlying23 hi0 hz0 hz1 hz2 rfl (by decide) (.slice u1 i u3) i (MS.flatMap Nv.cs) rfl (HROW.out.alloc _) ⟨wr.heap.size, 0, none⟩ 1 1 (Nv.cs Y) rfl rfl (by decide) (news9 wr Y) (one9 _) (by unfold maxLen; omega) (by omega) (by simp; omega) ?_; intro v' w3 ho3 hm3; obtain ⟨vb, vc, rfl⟩ := Joins.ownsRow_form ho3.out (by omega)))
      refine ⟨⟨i + 1, some ⟨vb, 0, none⟩, vc, rfl, by push_cast; rfl, by omega, ?_⟩, by simp [intOf]; omega⟩
      rw [rep_snoc]
      refine HR1.out.app (A2 := A1) (Below.refl _ _) (news := [Y]) rfl (fun j hj hj' => ?_) (fun b hb => .inl hb) (Joins.below_alloc1 wr _) ?_ hm3.out
      · have e : j = 0 := by simpa using hj
        subst e
        exact HTY.out
      · rw [List.length_replicate]; simpa using ho3.out
    · have b1 : decide ((i : Int) < (q : Int)) = false := by simp; omega
      obtain rfl : i = q := by omega
      obtain ⟨m1, hm1⟩ : ∃ m1 : Int, min (p : Int) 1 = m1 := ⟨_, rfl⟩
      have HM1 := hid hm1
      have hm1b : 0 ≤ m1 ∧ m1 ≤ 1 := by omega
      have HC := loop97 (A := A1) (Y := Y) (y := y) m1 (-1) lz (w := wr) (by constructor <;> omega) (by decide) (fun b hb => by have := HA1.out b hb; have := HVS.out; omega) HTY.out
      go_upto_region 14 with (first | (go_at_call 97; (with_reducible refine HC.mono ?_); rintro e w2 ⟨L, rfl, hL, hb2⟩; have HL := hid hL; have HB2 := hid hb2; have hrow2 := HR1.out.rowAt hb2; rw [List.length_replicate] at hrow2; have HROW2 := hid hrow2; have hs2 := hb2.size; clear hL hb2 HC hrow2) | (at_builtin; refine wpList_append_moveN rfl (.tmp 39) (.tmp 47) 23 rfl V.heap.size 25 i0 Z9 9 112 Try.underlying23 hi0 hz0 hz1 hz2 rfl (by decide) (.slice u1 i u3) i (MS.flatMap Nv.cs) rfl (HROW2.out.alloc _) ⟨w2.heap.size, 0, none⟩ 1 1 (Nv.cs L) rfl rfl (by decide) (news9 w2 L) (one9 _) (by unfold maxLen; omega) (by omega) (by simp; omega) ?_; intro v' w3 ho3 hm3; obtain ⟨vb, vc, rfl⟩ := Joins.ownsRow_form ho3.out (by omega)))
      have hRG : RG A1 V w3 (.slice (some ⟨vb, 0, none⟩) (i + 1) vc) (List.replicate i y ++ [loopT m1 (-1) lz y]) := by
        refine HR1.out.app (A2 := New A1 wr w2) HB2.out (news := [L]) rfl (fun j hj hj' => ?_) (fun b hb => hb) (Joins.below_alloc1 w2 _) ?_ hm3.out
        · have e : j = 0 := by simpa using hj
          subst e
          exact HL.out
        · rw [List.length_replicate]; simpa using ho3.out
      have hbel3 : Below V.heap.size V w3 := by obtain ⟨MS, A', h⟩ := hRG; exact h.bel
      obtain ⟨hLT, hln, hl1, hl2⟩ := hRG.ltr
      have hnf : ∀ x ∈ List.replicate i y ++ [loopT m1 (-1) lz y], Nf x := fun x hx => by
        rw [List.mem_append, List.mem_replicate] at hx
        rcases hx with h | h
        · rw [h.2]; exact HY.out
        · rw [List.mem_singleton] at h
          rw [h]
          refine .loop ?_ HY.out
          have : m1 = 0 ∨ m1 = 1 := by omega
          rcases this with h | h
          · exact .inr (.inl ⟨h, rfl⟩)
          · exact .inr (.inr ⟨h, rfl⟩)
      have hbig := HBIG.out
      rw [HM1.out] at hbig
      have hA3 : ∀ b, New A1 V w3 b → b < w3.heap.size := New.low (fun b hb => by have := HA1.out b hb; have := HVS.out; omega) hbel3.size
      have HC2 := join74 (c := vc) hA3 hln (by simp; omega) hLT hnf hbig
      have b3Z := (hbel3.block (z + 1) (by have := HVS.out; omega)).trans HVZ.out
      have HB3Z := hid b3Z
      have HB3 := hid hbel3
      clear hRG hLT hl1 hl2 hnf hbig hA3 hbel3 b3Z hln q0 q1 q2 q3 q4 q5 q6 q7 q8 y0 y1 y2 y3 y4 y5 y6 y7 y8
      go_wp2_with (first | (go_at_call 74; (with_reducible refine HC2.mono ?_); rintro e w4 ⟨J, rfl, hJ, hb4⟩; have b4Z := (hb4.block (z + 1) (Array.getElem?_eq_some_iff.1 HB3Z.out).1).trans HB3Z.out; have HJ := hid hJ; have HB4 := hid hb4; have HB4Z := hid b4Z; obtain ⟨q0, q1, q2, q3, q4, q5, q6, q7, q8⟩ := nine' b4Z; have f0 := Joins.unfrozen_of_block b4Z 0; have f1 := Joins.unfrozen_of_block b4Z 1; have f2 := Joins.unfrozen_of_block b4Z 2; have f3 := Joins.unfrozen_of_block b4Z 3; have f4 := Joins.unfrozen_of_block b4Z 4; have f5 := Joins.unfrozen_of_block b4Z 5; have f6 := Joins.unfrozen_of_block b4Z 6; have f7 := Joins.unfrozen_of_block b4Z 7; have f8 := Joins.unfrozen_of_block b4Z 8; clear hJ hb4 b4Z HC2))
      all_goals
        have hzz' := HZ.out
        obtain ⟨y1, y2, y3⟩ := box_end (A := A) (w := w) (M := J) (t := joinT (ones (List.replicate i y ++ [loopT m1 (-1) lz y]))) (z := z + 1) (by omega) (fun b hb => by have := HA.out b hb; omega) HB4Z.out ((HVB.out.trans (Joins.below_le HB3.out HVB.out.size)).trans (Joins.below_le HB4.out (Nat.le_trans HVB.out.size HB3.out.size))) HJ.out (fun b h => by
          have hs3 := HB3.out.size
          have hs4 := HB4.out.size
          have hsv := HVS.out
          rcases h with (h1 | h1) | h1
          · rcases HA2.out b h1 with h2 | h2
            · exact .inl h2
            · have := HA1.out b h1; exact .inr ⟨by omega, by omega, by omega⟩
          · exact .inr ⟨by omega, by omega, by omega⟩
          · exact .inr ⟨by omega, by omega, by omega⟩)
        refine bodyPost_ret (results_cell_row rfl _ _ (z + 1) 25 _ (0, 0) _ rfl y1 Try.underlying25 rfl (by kernel_rfl)) rfl ⟨J, rfl, ?_, y3⟩
        rw [HM1.out]
        exact y2
end Go.Proofs.Ytdidopgenhpakaa
/- HELPERS: the document's unfolding of a repeat that ends. -/
namespace Go.Proofs.Ytdidopgenhpakaa
open Go.RowKit
set_option linter.unusedVariables false
set_option linter.unusedSimpArgs false
set_option maxRecDepth 100000 in
set_option maxHeartbeats 16000000 in
theorem unfold75_fin {A : Nat → Prop} {w : World} {k a2 a7 : Int} {lz : Bool} {a8 : ByteArray} {r1 : Option Addr} {r2 r3 s3 p q b o : Nat} {mx : Int} {M : Nv} {y : Tn} (hA : ∀ b, A b → b < w.heap.size) (hbA : A b) (h9 : N9 w b o 0 M) (hs3 : 1 ≤ s3) (hy : Nf y) (hp : p ≤ 1000) (hmx : mx = ((p + q : Nat) : Int)) (hpq : p + q ≤ 1000) (hp0 : 0 < p + q)
    (HF : ∀ w1, Below w.heap.size w w1 → Calls Try.prog 51 #[M.v] w1 fun e w' => ∃ Y, e = .returned (Nv.v Y) ∧ TP w' (New A w1 w') Y y ∧ Below w1.heap.size w1 w') (hbig : (repT y (p : Int) ((p + q : Nat) : Int) lz).nodes ≤ 200000) :
    Calls Try.prog 75 #[Nv.v ⟨k, r1, r2, r3, a2, some ⟨b, o, none⟩, 1, s3, (p : Int), mx, lz, a7, a8⟩] w fun e w' => ∃ M, e = .returned (Nv.v M) ∧ TP w' (New A w w') M (repT y (p : Int) ((p + q : Nat) : Int) lz) ∧ Below w.heap.size w w' := by
  rw [rep_fin hy] at hbig ⊢
  have g0 : (mx == 0) = false := by simp; omega
  have g1 : (mx == -1) = false := by simp; omega
  have hw : IntKind.i64.wrap (mx - (p : Int)) = (q : Int) := by simp [IntKind.wrap, IntKind.bits, IntKind.signed]; omega
  obtain ⟨W, hW⟩ : ∃ W, W = (w.alloc (.cells #[.int .i64 k, .slice r1 r2 r3, .int .i64 a2, .slice (some ⟨b, o, none⟩) 1 s3, .int .i64 (p : Int), .int .i64 mx, .bool lz, .int .i64 a7, .string a8] 25)).alloc (.cells #[.int .i64 0, .slice none 0 0, .int .i64 0, .slice none 0 0, .int .i64 0, .int .i64 0, .bool false, .int .i64 0, .string ⟨#[]⟩] 25) := ⟨_, rfl⟩
  have hBW : Below w.heap.size w W := by rw [hW]; exact below_two' w _ _
  have hSW : W.heap.size = w.heap.size + 1 + 1 := by rw [hW]; simp
  have hBN : BN W w.heap.size ⟨k, r1, r2, r3, a2, some ⟨b, o, none⟩, 1, s3, (p : Int), mx, lz, a7, a8⟩ := by rw [hW]; exact (heap_alloc_old _ _ (by simp)).trans (heap_alloc_new w _)
  have hZW : BN W (w.heap.size + 1) default := by rw [hW]; exact two_new w _ _ _
  obtain ⟨n0, n1, n2, n3, n4, n5, n6, n7, n8⟩ := h9.kept (hBW.block b (hA b hbA))
  simp only [Nat.zero_mul, Nat.add_zero] at n0 n1 n2 n3 n4 n5 n6 n7 n8
  have HC := HF W hBW
  obtain ⟨z, hz⟩ : ∃ z, z = w.heap.size := ⟨_, rfl⟩
  rw [← hz] at hBN hSW hZW hA
  obtain ⟨q0, q1, q2, q3, q4, q5, q6, q7, q8⟩ := nine' hBN
  obtain ⟨i0, hi0, hz0, hz1, hz2⟩ := info_parts info25
  have HBN := hid hBN
  have HBW := hid hBW
  have HSW := hid hSW
  have HZW := hid hZW
  have HZ := hid hz
  have HA := hid hA
  have HY := hid hy
  have HBIG := hid hbig
  have hq1 : q ≤ 1000 := by omega
  clear hBN hBW hSW hZW hA hy hbig HF h9 hbA hmx hp0
  go_enter Try.func75, Try.ntmps75
  go_upto_region 1 with fail
  rw [← hz, ← hW]
  clear hz hW
  go_upto_region 4 with (first | (go_at_call 51; (with_reducible refine HC.mono ?_); rintro e w1 ⟨Y, rfl, hY, hb1⟩; have HTY := hid hY; have HB1 := hid hb1; clear hY hb1 HC))
  clear q0 q1 q2 q3 q4 q5 q6 q7 q8 n0 n1 n2 n3 n4 n5 n6 n7 n8
  obtain ⟨V, hV⟩ : ∃ V, V = w1.alloc (.cells #[.int .i64 Y.k, .slice Y.r1 Y.r2 Y.r3, .int .i64 Y.a2, .slice Y.s1 Y.s2 Y.s3, .int .i64 Y.a4, .int .i64 Y.a5, .bool Y.a6, .int .i64 Y.a7, .string Y.a8] 25) := ⟨_, rfl⟩
  rw [← hV]
  have hVb : Below w1.heap.size w1 V := by rw [hV]; exact Joins.below_alloc1 w1 _
  have hVs : V.heap.size = w1.heap.size + 1 := by rw [hV]; simp
  have hVY : BN V w1.heap.size Y := by rw [hV]; exact heap_alloc_new w1 _
  have hWV : Below W.heap.size W V := HB1.out.trans (Joins.below_le hVb HB1.out.size)
  have hVN := (hWV.block z (by have := HSW.out; omega)).trans HBN.out
  have hVZ := (hWV.block (z + 1) (by have := HSW.out; omega)).trans HZW.out
  have hA1 : ∀ b, New A W w1 b → b < w1.heap.size := fun b hb => by
    rcases hb with h | h
    · have := HA.out b h; have := HSW.out; have := HB1.out.size; omega
    · exact h.2
  have hTV : TP V (New A W w1) Y y := HTY.out.kept (fun b hb => hVb.block b (hA1 b hb)) fun b hb => hb
  have hA2 : ∀ b, New A W w1 b → A b ∨ z + 1 < b := fun b hb => by
    rcases hb with h | h
    · exact .inl h
    · right; have := HSW.out; omega
  obtain ⟨zy, hzy⟩ : ∃ zy, zy = w1.heap.size := ⟨_, rfl⟩
  have hW1 := HB1.out.size
  rw [← hzy] at hVs hVY hA1 hW1 ⊢
  obtain ⟨A1, hAe⟩ : ∃ A1, A1 = New A W w1 := ⟨_, rfl⟩
  rw [← hAe] at hTV hA1 hA2
  have HVB := hid (HBW.out.trans (Joins.below_le hWV HBW.out.size))
  have HVS := hid hVs
  have HVY := hid hVY
  have HVN := hid hVN
  have HVZ := hid hVZ
  have HA1 := hid hA1
  have HA2 := hid hA2
  have HTV := hid hTV
  have hzz : z + 1 < zy := by have := HSW.out; omega
  clear hV hVb hVs hVY hWV hVN hVZ hA1 hTV hA2 hzy hAe HTY HB1 HBN HBW HSW HZW hW1
  obtain ⟨q0, q1, q2, q3, q4, q5, q6, q7, q8⟩ := nine' HVN.out
  go_wp2_with fail
  go_loopw [4, 6] (fun u x wq => ∃ (i : Nat) (u1 : Option Addr) (u3 : Nat), u = .slice u1 i u3 ∧ x = .int .i64 (i : Int) ∧ i ≤ p ∧ Hid (RG A1 V wq (.slice u1 i u3) (List.replicate i y))) (fun _ x _ => p - (intOf x).toNat)
  case atStart => exact ⟨0, none, 0, rfl, rfl, by omega, by show RG _ _ _ _ _; exact RG.start (fun b hb => by have := HA1.out b hb; have := HVS.out; omega) (Below.refl _ _)⟩
  case round =>
    obtain ⟨i, u1, u3, rfl, rfl, hi, HR⟩ := hrel
    have hbel : Below V.heap.size V wr := by obtain ⟨MS, A', h⟩ := HR.out; exact h.bel
    have hbs := hbel.size
    have bN := (hbel.block z (by have := HVS.out; omega)).trans HVN.out
    have bY := (hbel.block zy (by have := HVS.out; omega)).trans HVY.out
    have hTY : TP wr A1 Y y := HTV.out.kept (fun b hb => hbel.block b (by have := HA1.out b hb; have := HVS.out; omega)) fun b hb => hb
    have HTY := hid hTY
    have HBY := hid bY
    have HBN := hid bN
    have HBEL := hid hbel
    clear q0 q1 q2 q3 q4 q5 q6 q7 q8
    obtain ⟨q0, q1, q2, q3, q4, q5, q6, q7, q8⟩ := nine' bN
    obtain ⟨y0, y1, y2, y3, y4, y5, y6, y7, y8⟩ := nine' bY
    obtain ⟨MS, A', hR⟩ := HR.out
    have hrow := hR.row
    rw [List.length_replicate] at hrow
    have HR1 := hid hR
    have HROW := hid hrow
    clear hbel bN bY hTY hR hrow
    by_cases hil : i < p
    · have b1 : decide ((i : Int) < (p : Int)) = true := by simp; omega
      have ad1 : IntKind.i64.wrap ((i : Int) + 1) = (i : Int) + 1 := by simp [IntKind.wrap, IntKind.bits, IntKind.signed]; omega
      go_wp2_with (first | (at_builtin; refine wpList_append_moveN rfl (.tmp 32) (.tmp 34) 23 rfl V.heap.size 25 i0 Z9 9 112 Try.underlying23 hi0 hz0 hz1 hz2 rfl (by decide) (.slice u1 i u3) i (MS.flatMap Nv.cs) rfl (HROW.out.alloc _) ⟨wr.heap.size, 0, none⟩ 1 1 (Nv.cs Y) rfl rfl (by decide) (news9 wr Y) (one9 _) (by unfold maxLen; omega) (by omega) (by simp; omega) ?_; intro v' w3 ho3 hm3; obtain ⟨vb, vc, rfl⟩ := Joins.ownsRow_form ho3.out (by omega)))
      refine ⟨⟨i + 1, some ⟨vb, 0, none⟩, vc, rfl, by push_cast; rfl, by omega, ?_⟩, by simp [intOf]; omega⟩
      rw [rep_snoc]
      refine HR1.out.app (A2 := A1) (Below.refl _ _) (news := [Y]) rfl (fun j hj hj' => ?_) (fun b hb => .inl hb) (Joins.below_alloc1 wr _) ?_ hm3.out
      · have e : j = 0 := by simpa using hj
        subst e
        exact HTY.out
      · rw [List.length_replicate]; simpa using ho3.out
    · have b1 : decide ((i : Int) < (p : Int)) = false := by simp; omega
      obtain rfl : i = p := by omega
      obtain ⟨w0, hw0⟩ : ∃ w0, w0 = wr := ⟨_, rfl⟩
      subst hw0
      go_upto_region 16 with fail
      obtain ⟨V2, hV2⟩ : ∃ V2, V2 = w0.alloc (.cells #[.int .i64 1, .slice none 0 0, .int .i64 0, .slice none 0 0, .int .i64 0, .int .i64 0, .bool false, .int .i64 0, .string ⟨#[]⟩] 25) := ⟨_, rfl⟩
      rw [← hV2]
      have hVb2 : Below w0.heap.size w0 V2 := by rw [hV2]; exact Joins.below_alloc1 w0 _
      have hVs2 : w0.heap.size < V2.heap.size := by rw [hV2]; simp
      have hVO : BN V2 w0.heap.size (NK 1) := by rw [hV2]; exact heap_alloc_new w0 _
      obtain ⟨zo, hzo⟩ : ∃ zo, zo = w0.heap.size := ⟨_, rfl⟩
      rw [← hzo] at hVb2 hVs2 hVO ⊢
      have HZO := hid hzo
      have HVB2 := hid hVb2
      have HVS2 := hid hVs2
      have HVO := hid hVO
      have hzyo : zy < zo := by have := HVS.out; omega
      have HHB : Hid (∀ j, j ≤ q → (optT y lz j).nodes ≤ 200000) := fun j hj => by
        have h1 := HBIG.out
        have h2 := join_mem (l := List.replicate i y ++ [optT y lz q]) (fun x hx => by
          rw [List.mem_append, List.mem_replicate] at hx
          rcases hx with h | h
          · rw [h.2]; exact HY.out
          · rw [List.mem_singleton] at h; rw [h]; exact nf_opt lz HY.out _) (y := optT y lz q) (by simp)
        have h3 := opt_le y lz hj
        omega
      clear hV2 hVb2 hVs2 hVO hzo q0 q1 q2 q3 q4 q5 q6 q7 q8 y0 y1 y2 y3 y4 y5 y6 y7 y8
      go_wp2_with fail
      go_loopw [8] (fun x wq => ∃ (j : Nat) (O : Nv), x = .int .i64 ((j : Int) + 1) ∧ j ≤ q ∧ Hid (Below zo w0 wq) ∧ Hid (zo < wq.heap.size) ∧ Hid (BN wq zo O) ∧ Hid (TP wq (fun b => A1 b ∨ zo < b ∧ b < wq.heap.size) O (optT y lz j))) (fun x _ => q + 1 - (intOf x).toNat)
      case atStart => exact ⟨0, NK 1, rfl, by omega, HVB2, HVS2, HVO, by show TP _ _ _ _; exact TP.mk (N := NK 1) (R := []) (ts := []) (ND := fun _ => default) (ok_NO 1 0 0 false 0 ⟨#[]⟩ (by decide) (by decide) (by decide) (by decide) (Nat.zero_le _)) rfl (fun h => absurd rfl h) (by simp) rfl (fun h => by simp at h) (fun i hi => by simp at hi)⟩
      case round =>
        obtain ⟨j, O, rfl, hj, BB, BS, BO, BT⟩ := hrel
        have bN := (BB.out.block z (by omega)).trans HBN.out
        have bY := (BB.out.block zy (by omega)).trans HBY.out
        have hTYr : TP wr A1 Y y := HTY.out.kept (fun b hb => BB.out.block b (by have := HA1.out b hb; omega)) fun b hb => hb
        have HTYr := hid hTYr
        have HbN := hid bN
        have HbY := hid bY
        obtain ⟨q0, q1, q2, q3, q4, q5, q6, q7, q8⟩ := nine' bN
        obtain ⟨y0, y1, y2, y3, y4, y5, y6, y7, y8⟩ := nine' bY
        obtain ⟨o0, o1, o2, o3, o4, o5, o6, o7, o8⟩ := nine' BO.out
        clear bN bY hTYr
        by_cases hjq : j < q
        · have b2 : decide ((j : Int) + 1 ≤ (q : Int)) = true := by simp; omega
          have ad2 : IntKind.i64.wrap ((j : Int) + 1 + 1) = (j : Int) + 1 + 1 := by simp [IntKind.wrap, IntKind.bits, IntKind.signed]; omega
          go_upto_region 20 with fail
          obtain ⟨X3, hX3⟩ : ∃ X3, X3 = wr.alloc (.cells #[.int .i64 Y.k, .slice Y.r1 Y.r2 Y.r3, .int .i64 Y.a2, .slice Y.s1 Y.s2 Y.s3, .int .i64 Y.a4, .int .i64 Y.a5, .bool Y.a6, .int .i64 Y.a7, .string Y.a8] 25) := ⟨_, rfl⟩
          rw [← hX3]
          have hXb : Below wr.heap.size wr X3 := by rw [hX3]; exact Joins.below_alloc1 wr _
          have hXs : X3.heap.size = wr.heap.size + 1 := by rw [hX3]; simp
          have hXY : BN X3 wr.heap.size Y := by rw [hX3]; exact heap_alloc_new wr _
          obtain ⟨zx, hzx⟩ : ∃ zx, zx = wr.heap.size := ⟨_, rfl⟩
          have hzox : zo < zx := by have := BS.out; omega
          have cN := (hXb.block z (by omega)).trans HbN.out
          have cY := (hXb.block zy (by omega)).trans HbY.out
          have cO := (hXb.block zo (by omega)).trans BO.out
          have cTY : TP X3 A1 Y y := HTYr.out.kept (fun b hb => hXb.block b (by have := HA1.out b hb; omega)) fun b hb => hb
          have cTO : TP X3 (fun b => A1 b ∨ zo < b ∧ b < zx) O (optT y lz j) := BT.out.kept (fun b hb => hXb.block b (by rcases hb with h | h; have := HA1.out b h; omega; omega)) fun b hb => by rcases hb with h | h; exact .inl h; exact .inr ⟨h.1, by omega⟩
          have cB : Below zo w0 X3 := BB.out.trans (Joins.below_le hXb (by omega))
          rw [← hzx] at hXs hXY ⊢
          have CN := hid cN
          have CY := hid cY
          have CO := hid cO
          have CX := hid hXY
          have CTY := hid cTY
          have CTO := hid cTO
          have CB := hid cB
          have CS := hid hXs
          clear hX3 hXb hXs hXY cN cY cO cTY cTO cB q0 q1 q2 q3 q4 q5 q6 q7 q8 y0 y1 y2 y3 y4 y5 y6 y7 y8 o0 o1 o2 o3 o4 o5 o6 o7 o8 hzx HTYr HbN HbY
          obtain ⟨q0, q1, q2, q3, q4, q5, q6, q7, q8⟩ := nine' CN.out
          obtain ⟨x0, x1, x2, x3, x4, x5, x6, x7, x8⟩ := nine' CX.out
          by_cases hj0 : j = 0
          · have b3 : decide ((1 : Int) < (j : Int) + 1) = false := by simp; omega
            have HC := loop97 (A := A1) (Y := Y) (y := y) 0 1 lz (w := X3) (by decide) (by decide) (fun b hb => by have := HA1.out b hb; have := CS.out; omega) CTY.out
            go_wp2_with (first | (go_at_call 97; (with_reducible refine HC.mono ?_); rintro e w5 ⟨L, rfl, hL, hb5⟩; have b5O := (hb5.block zo (by have := CS.out; omega)).trans CO.out; have HL := hid hL; have HB5 := hid hb5; have HB5O := hid b5O; obtain ⟨o0, o1, o2, o3, o4, o5, o6, o7, o8⟩ := nine' b5O; have f0 := Joins.unfrozen_of_block b5O 0; have f1 := Joins.unfrozen_of_block b5O 1; have f2 := Joins.unfrozen_of_block b5O 2; have f3 := Joins.unfrozen_of_block b5O 3; have f4 := Joins.unfrozen_of_block b5O 4; have f5 := Joins.unfrozen_of_block b5O 5; have f6 := Joins.unfrozen_of_block b5O 6; have f7 := Joins.unfrozen_of_block b5O 7; have f8 := Joins.unfrozen_of_block b5O 8; clear hL hb5 b5O HC))
            obtain ⟨s1, s2, s3, s4⟩ := setN9 w5 zo O L HB5O.out
            have hs5 := HB5.out.size
            have hcs := CS.out
            refine ⟨⟨j + 1, L, by rw [hj0]; rfl, by omega, s4 _ _ (CB.out.trans (Joins.below_le HB5.out (by omega))) (Nat.le_refl _), ?_, s1, ?_⟩, by simp [intOf]; omega⟩
            · show _ < _
              rw [s3]; omega
            · show TP _ _ _ _
              rw [hj0]
              refine HL.out.kept (fun b hb => s2 b ?_) fun b hb => ?_
              · rcases hb with h | h
                · have := HA1.out b h; omega
                · omega
              · rcases hb with h | h
                · exact .inl h
                · exact .inr ⟨by omega, by rw [s3]; exact h.2⟩
          · have b3 : decide ((1 : Int) < (j : Int) + 1) = true := by simp; omega
            obtain ⟨y0, y1, y2, y3, y4, y5, y6, y7, y8⟩ := nine' CY.out
            obtain ⟨o0, o1, o2, o3, o4, o5, o6, o7, o8⟩ := nine' CO.out
            obtain ⟨X4, hX4⟩ : ∃ X4, X4 = X3.alloc (.cells #[.int .i64 Y.k, .slice Y.r1 Y.r2 Y.r3, .int .i64 Y.a2, .slice Y.s1 Y.s2 Y.s3, .int .i64 Y.a4, .int .i64 Y.a5, .bool Y.a6, .int .i64 Y.a7, .string Y.a8, .int .i64 O.k, .slice O.r1 O.r2 O.r3, .int .i64 O.a2, .slice O.s1 O.s2 O.s3, .int .i64 O.a4, .int .i64 O.a5, .bool O.a6, .int .i64 O.a7, .string O.a8] 25) := ⟨_, rfl⟩
            have h4b : Below X3.heap.size X3 X4 := by rw [hX4]; exact Joins.below_alloc1 X3 _
            have h4s : X4.heap.size = X3.heap.size + 1 := by rw [hX4]; simp
            have h4L : X4.heap[X3.heap.size]? = some (.cells (Y.cs ++ O.cs).toArray 25 (0, 0)) := by rw [hX4]; exact heap_alloc_new X3 _
            have hcs := CS.out
            have hLT : LTr X4 (fun b => A1 b ∨ zo < b ∧ b ≠ zx ∧ b < X4.heap.size) (some ⟨X3.heap.size, 0, none⟩) [y, optT y lz j] := by
              refine ⟨fun i => if i = 0 then Y else O, fun _ => ⟨X3.heap.size, 0, rfl, .inr ⟨by omega, by omega, by omega⟩, fun i hi => ?_⟩, fun i hi => ?_⟩
              · have e : i = 0 ∨ i = 1 := by simp at hi; omega
                rcases e with rfl | rfl
                · exact ⟨Joins.cell_of_block h4L 0, Joins.cell_of_block h4L 1, Joins.cell_of_block h4L 2, Joins.cell_of_block h4L 3, Joins.cell_of_block h4L 4, Joins.cell_of_block h4L 5, Joins.cell_of_block h4L 6, Joins.cell_of_block h4L 7, Joins.cell_of_block h4L 8⟩
                · exact ⟨Joins.cell_of_block h4L 9, Joins.cell_of_block h4L 10, Joins.cell_of_block h4L 11, Joins.cell_of_block h4L 12, Joins.cell_of_block h4L 13, Joins.cell_of_block h4L 14, Joins.cell_of_block h4L 15, Joins.cell_of_block h4L 16, Joins.cell_of_block h4L 17⟩
              · have e : i = 0 ∨ i = 1 := by simp at hi; omega
                rcases e with rfl | rfl
                · exact CTY.out.kept (fun b hb => h4b.block b (by have := HA1.out b hb; omega)) fun b hb => .inl hb
                · exact CTO.out.kept (fun b hb => h4b.block b (by rcases hb with h | h; have := HA1.out b h; omega; omega)) fun b hb => by rcases hb with h | h; exact .inl h; exact .inr ⟨h.1, by omega, by omega⟩
            have hbj : (joinT (ones [y, optT y lz j])).nodes ≤ 200000 := by
              obtain ⟨j', rfl⟩ : ∃ j', j = j' + 1 := ⟨j - 1, by omega⟩
              have h1 := HHB.out (j' + 2) (by omega)
              rw [optT_step, loopT_nodes] at h1
              show (joinT [(y, 1), (optT y lz (j' + 1), 1)]).nodes ≤ 200000
              omega
            have HC := join74 (A := fun b => A1 b ∨ zo < b ∧ b ≠ zx ∧ b < X4.heap.size) (w := X4) (c := 2) (n := 2) (fun b hb => by rcases hb with h | h; have := HA1.out b h; omega; omega) rfl (by simp) hLT (by simpa using ⟨HY.out, nf_opt lz HY.out _⟩) hbj
            rw [hcs] at HC
            have h4X := (h4b.block zx (by omega)).trans CX.out
            have h4O := (h4b.block zo (by omega)).trans CO.out
            have h4N := (h4b.block z (by omega)).trans CN.out
            have H4S := hid h4s
            have H4X := hid h4X
            have H4O := hid h4O
            have H4N := hid h4N
            have H4B := hid (CB.out.trans (Joins.below_le h4b (by omega)))
            have HX4 := hid hX4
            clear h4b h4s h4L hLT hbj h4X h4O h4N
            go_upto_region 22 with (first | (rw [← hX4]; clear hX4; go_at_call 74; (with_reducible refine HC.mono ?_); rintro e w5 ⟨J, rfl, hJ, hb5⟩; have hs4 := H4S.out; have b5X := (hb5.block zx (by omega)).trans H4X.out; have b5O := (hb5.block zo (by omega)).trans H4O.out; have b5N := (hb5.block z (by omega)).trans H4N.out; have HJ := hid hJ; have HB5 := hid hb5; have H5X := hid b5X; have H5O := hid b5O; have H5N := hid b5N; clear x0 x1 x2 x3 x4 x5 x6 x7 x8; obtain ⟨x0, x1, x2, x3, x4, x5, x6, x7, x8⟩ := nine' b5X; have f0 := Joins.unfrozen_of_block b5X 0; have f1 := Joins.unfrozen_of_block b5X 1; have f2 := Joins.unfrozen_of_block b5X 2; have f3 := Joins.unfrozen_of_block b5X 3; have f4 := Joins.unfrozen_of_block b5X 4; have f5 := Joins.unfrozen_of_block b5X 5; have f6 := Joins.unfrozen_of_block b5X 6; have f7 := Joins.unfrozen_of_block b5X 7; have f8 := Joins.unfrozen_of_block b5X 8; clear hJ hb5 b5X b5O b5N HC))
            obtain ⟨s1, s2, s3, s4⟩ := setN9 w5 zx Y J H5X.out
            obtain ⟨X6, hX6⟩ : ∃ X6, X6 = (((((((((w5.setCell ⟨zx, 0, none⟩ (.int .i64 J.k)).setCell ⟨zx, 1, none⟩ (.slice J.r1 J.r2 J.r3)).setCell ⟨zx, 2, none⟩ (.int .i64 J.a2)).setCell ⟨zx, 3, none⟩ (.slice J.s1 J.s2 J.s3)).setCell ⟨zx, 4, none⟩ (.int .i64 J.a4)).setCell ⟨zx, 5, none⟩ (.int .i64 J.a5)).setCell ⟨zx, 6, none⟩ (.bool J.a6)).setCell ⟨zx, 7, none⟩ (.int .i64 J.a7)).setCell ⟨zx, 8, none⟩ (.string J.a8)) := ⟨_, rfl⟩
            rw [← hX6]
            rw [← hX6] at s1 s2 s3 s4
            have h5s := HB5.out.size
            have h6N := (s2 z (by omega)).trans H5N.out
            have h6O := (s2 zo (by omega)).trans H5O.out
            have h6J : TP X6 (fun b => A1 b ∨ zo < b ∧ b ≠ zx ∧ b < w5.heap.size) J (joinT (ones [y, optT y lz j])) := HJ.out.kept (fun b hb => s2 b (by rcases hb with (h | h) | h; have := HA1.out b h; omega; exact h.2.1; omega)) fun b hb => by
              rcases hb with (h | h) | h
              · exact .inl h
              · exact .inr ⟨h.1, h.2.1, by omega⟩
              · exact .inr ⟨by omega, by omega, h.2⟩
            have h6B : Below zo w0 X6 := s4 _ _ (H4B.out.trans (Joins.below_le HB5.out (by omega))) (by omega)
            have HC2 := loop97 (A := fun b => A1 b ∨ zo < b ∧ b ≠ zx ∧ b < w5.heap.size) (Y := J) (y := joinT (ones [y, optT y lz j])) 0 1 lz (w := X6) (by decide) (by decide) (fun b hb => by rw [s3]; rcases hb with h | h; have := HA1.out b h; omega; exact h.2.2) h6J
            clear q0 q1 q2 q3 q4 q5 q6 q7 q8 y0 y1 y2 y3 y4 y5 y6 y7 y8 o0 o1 o2 o3 o4 o5 o6 o7 o8 x0 x1 x2 x3 x4 x5 x6 x7 x8 f0 f1 f2 f3 f4 f5 f6 f7 f8
            obtain ⟨x0, x1, x2, x3, x4, x5, x6, x7, x8⟩ := nine' s1
            obtain ⟨q0, q1, q2, q3, q4, q5, q6, q7, q8⟩ := nine' h6N
            have H6O := hid h6O
            have H6B := hid h6B
            have H6S := hid s3
            clear hX6 s1 s2 s3 s4 h6N h6O h6J h6B
            go_wp2_with (first | (go_at_call 97; (with_reducible refine HC2.mono ?_); rintro e w7 ⟨L, rfl, hL, hb7⟩; have h6s := H6S.out; have b7O := (hb7.block zo (by omega)).trans H6O.out; have HL := hid hL; have HB7 := hid hb7; have HB7O := hid b7O; obtain ⟨o0, o1, o2, o3, o4, o5, o6, o7, o8⟩ := nine' b7O; have f0 := Joins.unfrozen_of_block b7O 0; have f1 := Joins.unfrozen_of_block b7O 1; have f2 := Joins.unfrozen_of_block b7O 2; have f3 := Joins.unfrozen_of_block b7O 3; have f4 := Joins.unfrozen_of_block b7O 4; have f5 := Joins.unfrozen_of_block b7O 5; have f6 := Joins.unfrozen_of_block b7O 6; have f7 := Joins.unfrozen_of_block b7O 7; have f8 := Joins.unfrozen_of_block b7O 8; clear hL hb7 b7O HC2))
            obtain ⟨s1, s2, s3, s4⟩ := setN9 w7 zo O L HB7O.out
            have hs7 := HB7.out.size
            refine ⟨⟨j + 1, L, by push_cast; rfl, by omega, s4 _ _ (H6B.out.trans (Joins.below_le HB7.out (by omega))) (Nat.le_refl _), ?_, s1, ?_⟩, by simp [intOf]; omega⟩
            · show _ < _
              rw [s3]; omega
            · show TP _ _ _ _
              obtain ⟨j', rfl⟩ : ∃ j', j = j' + 1 := ⟨j - 1, by omega⟩
              rw [optT_step]
              refine HL.out.kept (fun b hb => s2 b ?_) fun b hb => ?_
              · rcases hb with (h | h) | h
                · have := HA1.out b h; omega
                · omega
                · omega
              · rcases hb with (h | h) | h
                · exact .inl h
                · exact .inr ⟨h.1, by rw [s3]; omega⟩
                · exact .inr ⟨by omega, by rw [s3]; exact h.2⟩
        · have b2 : decide ((j : Int) + 1 ≤ (q : Int)) = false := by simp; omega
          obtain rfl : j = q := by omega
          have hrow2 := HR1.out.rowAt (X := wr) (by rw [← HZO.out]; exact BB.out)
          rw [List.length_replicate] at hrow2
          have HROW2 := hid hrow2
          have hs2 : V.heap.size ≤ wr.heap.size := by have := BS.out; have := HZO.out; omega
          clear hrow2
          go_upto_region 24 with (first | (at_builtin; refine wpList_append_moveN rfl (.tmp 72) (.tmp 74) 23 rfl V.heap.size 25 i0 Z9 9 112 Try.underlying23 hi0 hz0 hz1 hz2 rfl (by decide) (.slice u1 i u3) i (MS.flatMap Nv.cs) rfl (HROW2.out.alloc _) ⟨wr.heap.size, 0, none⟩ 1 1 (Nv.cs O) rfl rfl (by decide) (news9 wr O) (one9 _) (by unfold maxLen; omega) (by omega) (by simp; omega) ?_; intro v' w3 ho3 hm3; obtain ⟨vb, vc, rfl⟩ := Joins.ownsRow_form ho3.out (by omega)))
          have hRG : RG A1 V w3 (.slice (some ⟨vb, 0, none⟩) (i + 1) vc) (List.replicate i y ++ [optT y lz j]) := by
            refine HR1.out.app (A2 := fun b => A1 b ∨ zo < b ∧ b < wr.heap.size) (W := wr) (by rw [← HZO.out]; exact BB.out) (news := [O]) rfl (fun j hj hj' => ?_) (fun b hb => by rcases hb with h | h; exact .inl h; exact .inr ⟨by have := HZO.out; omega, h.2⟩) (Joins.below_alloc1 wr _) ?_ hm3.out
            · have e : j = 0 := by simpa using hj
              subst e
              exact BT.out
            · rw [List.length_replicate]; simpa using ho3.out
          have hbel3 : Below V.heap.size V w3 := by obtain ⟨MS, A', h⟩ := hRG; exact h.bel
          obtain ⟨hLT, hln, hl1, hl2⟩ := hRG.ltr
          have hnf : ∀ x ∈ List.replicate i y ++ [optT y lz j], Nf x := fun x hx => by
            rw [List.mem_append, List.mem_replicate] at hx
            rcases hx with h | h
            · rw [h.2]; exact HY.out
            · rw [List.mem_singleton] at h; rw [h]; exact nf_opt lz HY.out _
          have hA3 : ∀ b, New A1 V w3 b → b < w3.heap.size := New.low (fun b hb => by have := HA1.out b hb; have := HVS.out; omega) hbel3.size
          have HC2 := join74 (c := vc) hA3 hln (by simp; omega) hLT hnf HBIG.out
          have b3Z := (hbel3.block (z + 1) (by have := HVS.out; omega)).trans HVZ.out
          have HB3Z := hid b3Z
          have HB3 := hid hbel3
          clear hRG hLT hl1 hl2 hnf hA3 hbel3 b3Z hln q0 q1 q2 q3 q4 q5 q6 q7 q8 y0 y1 y2 y3 y4 y5 y6 y7 y8 o0 o1 o2 o3 o4 o5 o6 o7 o8
          go_wp2_with (first | (go_at_call 74; (with_reducible refine HC2.mono ?_); rintro e w4 ⟨J, rfl, hJ, hb4⟩; have b4Z := (hb4.block (z + 1) (Array.getElem?_eq_some_iff.1 HB3Z.out).1).trans HB3Z.out; have HJ := hid hJ; have HB4 := hid hb4; have HB4Z := hid b4Z; obtain ⟨q0, q1, q2, q3, q4, q5, q6, q7, q8⟩ := nine' b4Z; have f0 := Joins.unfrozen_of_block b4Z 0; have f1 := Joins.unfrozen_of_block b4Z 1; have f2 := Joins.unfrozen_of_block b4Z 2; have f3 := Joins.unfrozen_of_block b4Z 3; have f4 := Joins.unfrozen_of_block b4Z 4; have f5 := Joins.unfrozen_of_block b4Z 5; have f6 := Joins.unfrozen_of_block b4Z 6; have f7 := Joins.unfrozen_of_block b4Z 7; have f8 := Joins.unfrozen_of_block b4Z 8; clear hJ hb4 b4Z HC2))
          all_goals
            have hzz' := HZ.out
            obtain ⟨y1, y2, y3⟩ := box_end (A := A) (w := w) (M := J) (t := joinT (ones (List.replicate i y ++ [optT y lz j]))) (z := z + 1) (by omega) (fun b hb => by have := HA.out b hb; omega) HB4Z.out ((HVB.out.trans (Joins.below_le HB3.out HVB.out.size)).trans (Joins.below_le HB4.out (Nat.le_trans HVB.out.size HB3.out.size))) HJ.out (fun b h => by
              have hs3 := HB3.out.size
              have hs4 := HB4.out.size
              have hsv := HVS.out
              rcases h with (h1 | h1) | h1
              · rcases HA2.out b h1 with h2 | h2
                · exact .inl h2
                · have := HA1.out b h1; exact .inr ⟨by omega, by omega, by omega⟩
              · exact .inr ⟨by omega, by omega, by omega⟩
              · exact .inr ⟨by omega, by omega, by omega⟩)
            exact bodyPost_ret (results_cell_row rfl _ _ (z + 1) 25 _ (0, 0) _ rfl y1 Try.underlying25 rfl (by kernel_rfl)) rfl ⟨J, rfl, y2, y3⟩
end Go.Proofs.Ytdidopgenhpakaa
/- HELPERS: the document's form of a leaf, of a group, of a repeat. -/
namespace Go.Proofs.Ytdidopgenhpakaa
open Go.RowKit
set_option linter.unusedVariables false
set_option linter.unusedSimpArgs false
/-- what form answers -/
abbrev FPost (B : Nat) (w : World) (s : Tn) : Ending → World → Prop := fun e w' => ∃ M, e = .returned (Nv.v M) ∧ TP w' (New (fun b => b < B) w w') M s ∧ Below w.heap.size w w'
theorem SL_get {ts : List Tn} {i : Nat} (hi : i < (SL ts).length) : (SL ts)[i] = (ts[i]'(by simpa [SL_map] using hi)).S := by simp [SL_map]
set_option maxRecDepth 100000 in
set_option maxHeartbeats 16000000 in
theorem form51_leaf {w0 w : World} {B : Nat} {k a2 a4 a5 a7 : Int} {a6 : Bool} {a8 : ByteArray} {r1 s1 : Option Addr} {r2 r3 s2 s3 : Nat} {R : List (Int × Int)} {ts : List Tn} {ND : Nat → Nv} (hB : B ≤ w.heap.size) (hw : ∀ b, b < B → w.heap[b]? = w0.heap[b]?) (ok : Nv.ok ⟨k, r1, r2, r3, a2, s1, s2, s3, a4, a5, a6, a7, a8⟩) (hn : nodeB k R a2 ts.length a4 a5 a6 a7 a8 = true) (hfL : fineL ts = true) (hs : s2 = ts.length) (hr : r2 = R.length) (hR : R2 w0 B r1 R) (hRk : ∀ x ∈ R, I64ok x.1 ∧ I64ok x.2)
    (hS : 0 < ts.length → ∃ b o, s1 = some ⟨b, o, none⟩ ∧ b < B ∧ ∀ i, i < ts.length → N9 w0 b o i (ND i)) (hk : ∀ i (hi : i < ts.length), TI w0 B (ND i) ts[i])
    (IH : ∀ i (hi : i < ts.length), ts[i].S.nodes ≤ 200000 → ∀ w1 : World, B ≤ w1.heap.size → (∀ b, b < B → w1.heap[b]? = w0.heap[b]?) → Calls Try.prog 51 #[(ND i).v] w1 (FPost B w1 ts[i].S)) (hbig : (Tn.mk k R a2 ts a4 a5 a6 a7 a8).S.nodes ≤ 200000) (hlen : ts.length ≤ 200000) (k4 : k ≠ 4) (k5 : k ≠ 5) (k6 : k ≠ 6) (k7 : k ≠ 7) :
    Calls Try.prog 51 #[Nv.v ⟨k, r1, r2, r3, a2, s1, s2, s3, a4, a5, a6, a7, a8⟩] w (FPost B w (Tn.mk k R a2 ts a4 a5 a6 a7 a8).S) := by
  have hfk := fine_kind hn
  have hNf : ∀ i (hi : i < ts.length), Nf (ts[i]).S := fun i hi => nf_S _ (fineL_get hfL i hi)
  obtain ⟨W, hW⟩ : ∃ W, W = (w.alloc (.cells #[.int .i64 k, .slice r1 r2 r3, .int .i64 a2, .slice s1 s2 s3, .int .i64 a4, .int .i64 a5, .bool a6, .int .i64 a7, .string a8] 25)).alloc (.cells #[.int .i64 0, .slice none 0 0, .int .i64 0, .slice none 0 0, .int .i64 0, .int .i64 0, .bool false, .int .i64 0, .string ⟨#[]⟩] 25) := ⟨_, rfl⟩
  have hBW : Below w.heap.size w W := by rw [hW]; exact below_two' w _ _
  have hSW : W.heap.size = w.heap.size + 1 + 1 := by rw [hW]; simp
  have hBN : BN W w.heap.size ⟨k, r1, r2, r3, a2, s1, s2, s3, a4, a5, a6, a7, a8⟩ := by rw [hW]; exact (heap_alloc_old _ _ (by simp)).trans (heap_alloc_new w _)
  have hZW : BN W (w.heap.size + 1) default := by rw [hW]; exact two_new w _ _ _
  obtain ⟨z, hz⟩ : ∃ z, z = w.heap.size := ⟨_, rfl⟩
  rw [← hz] at hBN hSW hZW hB
  have hwW : ∀ b, b < B → W.heap[b]? = w0.heap[b]? := fun b hb => (hBW.block b (by omega)).trans (hw b hb)
  obtain ⟨q0, q1, q2, q3, q4, q5, q6, q7, q8⟩ := nine' hBN
  have HBN := hid hBN
  have HBW := hid hBW
  have HSW := hid hSW
  have HZW := hid hZW
  have HZ := hid hz
  have HWW := hid hwW
  have HNF := hid hNf
  have HN := hid hn
  have HL := hid hs
  have HFK := hid hfk
  have HOK := hid ok
  have HRR := hid hr
  have HR := hid hR
  have HRK := hid hRk
  have HS := hid hS
  have HTK := hid hk
  have HIH := hid IH
  have HBIG := hid hbig
  have HLEN := hid hlen
  have HW0 := hid hw
  clear hw hBN hBW hSW hZW hwW hNf hn hs hfk ok hr hR hRk hS hk IH hbig hlen hfL
  have g4 : (k == 4) = false := by simp [k4]
  have g5 : (k == 5) = false := by simp [k5]
  have g6 : (k == 6) = false := by simp [k6]
  have g7 : (k == 7) = false := by simp [k7]
  have hts : ts = [] := List.length_eq_zero_iff.1 (by have := HFK.out; omega)
  have hSS : (Tn.mk k R a2 ts a4 a5 a6 a7 a8).S = .mk k R a2 [] a4 a5 a6 a7 a8 := by simp [Tn.S, k4, k5, k6, k7]
  rw [hSS]
  have bZ := HZW.out
  obtain ⟨p0, p1, p2, p3, p4, p5, p6, p7, p8⟩ := nine' bZ
  have f0 := Joins.unfrozen_of_block bZ 0
  have f1 := Joins.unfrozen_of_block bZ 1
  have f2 := Joins.unfrozen_of_block bZ 2
  have f3 := Joins.unfrozen_of_block bZ 3
  have f4 := Joins.unfrozen_of_block bZ 4
  have f5 := Joins.unfrozen_of_block bZ 5
  have f6 := Joins.unfrozen_of_block bZ 6
  have f7 := Joins.unfrozen_of_block bZ 7
  have f8 := Joins.unfrozen_of_block bZ 8
  clear hSS bZ
  go_enter Try.func51, Try.ntmps51
  go_upto_region 1 with fail
  rw [← hz, ← hW]
  clear hW hz
  go_wp2
  all_goals
    have hz := HZ.out
    have hT : TP W (fun b => b < B) ⟨k, r1, r2, r3, a2, s1, s2, s3, a4, a5, a6, a7, a8⟩ (.mk k R a2 [] a4 a5 a6 a7 a8) := TP.mk (N := ⟨k, r1, r2, r3, a2, s1, s2, s3, a4, a5, a6, a7, a8⟩) (ts := []) (ND := fun _ => default) HOK.out HRR.out (HR.out.rp.kept (fun b hb => HWW.out b hb) fun b hb => hb) HRK.out (by have := HL.out; rw [hts] at this; exact this) (fun h => by simp at h) (fun i hi => by simp at hi)
    obtain ⟨y1, y2, y3⟩ := box_end (A := fun b => b < B) (w := w) (z := z + 1) (by omega) (fun b hb => by omega) HZW.out HBW.out hT (fun b h => .inl h)
    exact bodyPost_ret (results_cell_row rfl _ _ (z + 1) 25 _ (0, 0) _ rfl y1 Try.underlying25 rfl (by kernel_rfl)) rfl ⟨_, rfl, y2, y3⟩
set_option maxRecDepth 100000 in
set_option maxHeartbeats 16000000 in
theorem form51_grp {w0 w : World} {B : Nat} {a2 a4 a5 a7 : Int} {a6 : Bool} {a8 : ByteArray} {r1 s1 : Option Addr} {r2 r3 s2 s3 : Nat} {R : List (Int × Int)} {ts : List Tn} {ND : Nat → Nv} (hB : B ≤ w.heap.size) (hw : ∀ b, b < B → w.heap[b]? = w0.heap[b]?) (ok : Nv.ok ⟨7, r1, r2, r3, a2, s1, s2, s3, a4, a5, a6, a7, a8⟩) (hn : nodeB 7 R a2 ts.length a4 a5 a6 a7 a8 = true) (hfL : fineL ts = true) (hs : s2 = ts.length) (hr : r2 = R.length) (hR : R2 w0 B r1 R) (hRk : ∀ x ∈ R, I64ok x.1 ∧ I64ok x.2)
    (hS : 0 < ts.length → ∃ b o, s1 = some ⟨b, o, none⟩ ∧ b < B ∧ ∀ i, i < ts.length → N9 w0 b o i (ND i)) (hk : ∀ i (hi : i < ts.length), TI w0 B (ND i) ts[i])
    (IH : ∀ i (hi : i < ts.length), ts[i].S.nodes ≤ 200000 → ∀ w1 : World, B ≤ w1.heap.size → (∀ b, b < B → w1.heap[b]? = w0.heap[b]?) → Calls Try.prog 51 #[(ND i).v] w1 (FPost B w1 ts[i].S)) (hbig : (Tn.mk 7 R a2 ts a4 a5 a6 a7 a8).S.nodes ≤ 200000) (hlen : ts.length ≤ 200000) :
    Calls Try.prog 51 #[Nv.v ⟨7, r1, r2, r3, a2, s1, s2, s3, a4, a5, a6, a7, a8⟩] w (FPost B w (Tn.mk 7 R a2 ts a4 a5 a6 a7 a8).S) := by
  have hfk := fine_kind hn
  have hNf : ∀ i (hi : i < ts.length), Nf (ts[i]).S := fun i hi => nf_S _ (fineL_get hfL i hi)
  obtain ⟨W, hW⟩ : ∃ W, W = (w.alloc (.cells #[.int .i64 7, .slice r1 r2 r3, .int .i64 a2, .slice s1 s2 s3, .int .i64 a4, .int .i64 a5, .bool a6, .int .i64 a7, .string a8] 25)).alloc (.cells #[.int .i64 0, .slice none 0 0, .int .i64 0, .slice none 0 0, .int .i64 0, .int .i64 0, .bool false, .int .i64 0, .string ⟨#[]⟩] 25) := ⟨_, rfl⟩
  have hBW : Below w.heap.size w W := by rw [hW]; exact below_two' w _ _
  have hSW : W.heap.size = w.heap.size + 1 + 1 := by rw [hW]; simp
  have hBN : BN W w.heap.size ⟨7, r1, r2, r3, a2, s1, s2, s3, a4, a5, a6, a7, a8⟩ := by rw [hW]; exact (heap_alloc_old _ _ (by simp)).trans (heap_alloc_new w _)
  have hZW : BN W (w.heap.size + 1) default := by rw [hW]; exact two_new w _ _ _
  obtain ⟨z, hz⟩ : ∃ z, z = w.heap.size := ⟨_, rfl⟩
  rw [← hz] at hBN hSW hZW hB
  have hwW : ∀ b, b < B → W.heap[b]? = w0.heap[b]? := fun b hb => (hBW.block b (by omega)).trans (hw b hb)
  obtain ⟨q0, q1, q2, q3, q4, q5, q6, q7, q8⟩ := nine' hBN
  have HBN := hid hBN
  have HBW := hid hBW
  have HSW := hid hSW
  have HZW := hid hZW
  have HZ := hid hz
  have HWW := hid hwW
  have HNF := hid hNf
  have HN := hid hn
  have HL := hid hs
  have HFK := hid hfk
  have HOK := hid ok
  have HRR := hid hr
  have HR := hid hR
  have HRK := hid hRk
  have HS := hid hS
  have HTK := hid hk
  have HIH := hid IH
  have HBIG := hid hbig
  have HLEN := hid hlen
  have HW0 := hid hw
  clear hw hBN hBW hSW hZW hwW hNf hn hs hfk ok hr hR hRk hS hk IH hbig hlen hfL
  have hlt : 0 < ts.length := by have := HFK.out; omega
  have hl1 : s2 = 1 := by have := HFK.out; have := HL.out; omega
  obtain ⟨b, o, hs1, hbl, h9⟩ := HS.out hlt
  subst hs1 hl1
  have hSS : (Tn.mk 7 R a2 ts a4 a5 a6 a7 a8).S = .mk 7 [] 0 [(ts[0]'hlt).S] 0 0 false a7 a8 := by simp only [Tn.S]; rw [if_neg (by decide), if_neg (by decide), if_neg (by decide), if_pos trivial, SL_head hlt]
  have hb := HBIG.out
  rw [hSS] at hb ⊢
  have hbs : (ts[0]'hlt).S.nodes ≤ 200000 := by simp only [Tn.nodes, nodesL] at hb; omega
  have hbare : R = [] ∧ a2 = 0 ∧ a4 = 0 ∧ a5 = 0 ∧ a6 = false := by
    have h := HN.out
    simp [nodeB, bareB] at h
    exact ⟨h.2.1.1, h.2.1.2, h.2.2.1.1, h.2.2.1.2, h.2.2.2⟩
  obtain ⟨rfl, rfl, rfl, rfl, rfl⟩ := hbare
  have hM := h9 0 hlt
  obtain ⟨M, hMe⟩ : ∃ M, M = ND 0 := ⟨_, rfl⟩
  have HC := HIH.out 0 hlt hbs W (by have := HSW.out; omega) HWW.out
  rw [← hMe] at hM HC
  obtain ⟨n0, n1, n2, n3, n4, n5, n6, n7, n8⟩ := hM.kept (HWW.out b hbl)
  simp only [Nat.zero_mul, Nat.add_zero] at n0 n1 n2 n3 n4 n5 n6 n7 n8
  obtain ⟨S, hSe⟩ : ∃ S, S = (ts[0]'hlt).S := ⟨_, rfl⟩
  rw [← hSe] at HC ⊢
  clear hSS hb hbs h9 hMe hM hSe
  go_enter Try.func51, Try.ntmps51
  go_upto_region 1 with fail
  rw [← hz, ← hW]
  clear hW hz
  go_upto_region 4 with (first | (go_at_call 51; (with_reducible refine HC.mono ?_); rintro e w1 ⟨Y, rfl, hY, hb1⟩; have HTY := hid hY; have HB1 := hid hb1; clear hY hb1 HC))
  clear n0 n1 n2 n3 n4 n5 n6 n7 n8 q0 q1 q2 q3 q4 q5 q6 q7 q8
  have hs1 := HB1.out.size
  have hsw := HSW.out
  obtain ⟨V, hV⟩ : ∃ V, V = (w1.alloc (.cells #[.int .i64 Y.k, .slice Y.r1 Y.r2 Y.r3, .int .i64 Y.a2, .slice Y.s1 Y.s2 Y.s3, .int .i64 Y.a4, .int .i64 Y.a5, .bool Y.a6, .int .i64 Y.a7, .string Y.a8] 25)).alloc (.cells #[.int .i64 Y.k, .slice Y.r1 Y.r2 Y.r3, .int .i64 Y.a2, .slice Y.s1 Y.s2 Y.s3, .int .i64 Y.a4, .int .i64 Y.a5, .bool Y.a6, .int .i64 Y.a7, .string Y.a8] 25) := ⟨_, rfl⟩
  obtain ⟨V0, hV0⟩ : ∃ V0, V0 = w1.alloc (.cells #[.int .i64 Y.k, .slice Y.r1 Y.r2 Y.r3, .int .i64 Y.a2, .slice Y.s1 Y.s2 Y.s3, .int .i64 Y.a4, .int .i64 Y.a5, .bool Y.a6, .int .i64 Y.a7, .string Y.a8] 25) := ⟨_, rfl⟩
  rw [← hV0] at hV ⊢
  have hV0s : V0.heap.size = w1.heap.size + 1 := by rw [hV0]; simp
  have hV0b : Below w1.heap.size w1 V0 := by rw [hV0]; exact Joins.below_alloc1 w1 _
  have hV0Y : BN V0 w1.heap.size Y := by rw [hV0]; exact heap_alloc_new w1 _
  have hVb : Below V0.heap.size V0 V := by rw [hV]; exact Joins.below_alloc1 V0 _
  have hVs : V.heap.size = V0.heap.size + 1 := by rw [hV]; simp
  have hVY : BN V V0.heap.size Y := by rw [hV]; exact heap_alloc_new V0 _
  have hWV0 : Below W.heap.size W V0 := HB1.out.trans (Joins.below_le hV0b hs1)
  have h0N := (hWV0.block z (by omega)).trans HBN.out
  have h0Z := (hWV0.block (z + 1) (by omega)).trans HZW.out
  have hVN := (hVb.block z (by omega)).trans h0N
  have hVZ := (hVb.block (z + 1) (by omega)).trans h0Z
  obtain ⟨y0, y1, y2, y3, y4, y5, y6, y7, y8⟩ := nine' hV0Y
  obtain ⟨q0, q1, q2, q3, q4, q5, q6, q7, q8⟩ := nine' h0N
  have e3 := Joins.unfrozen_of_block hVN 3
  have e4 : V.cell? ⟨z, 3, none⟩ = some (.slice (some ⟨b, o, none⟩) 1 s3) := Joins.cell_of_block hVN 3
  rw [hV] at e3 e4
  obtain ⟨zy, hzy⟩ : ∃ zy, zy = w1.heap.size := ⟨_, rfl⟩
  rw [← hzy] at y0 y1 y2 y3 y4 y5 y6 y7 y8 hV0s ⊢
  have HV0S := hid hV0s
  have HVS := hid hVs
  have HVY := hid hVY
  have HVN := hid hVN
  have HVZ := hid hVZ
  have HZY := hid hzy
  have HWV := hid (hWV0.trans (Joins.below_le hVb hWV0.size))
  have HTV : Hid (TP V (New (fun b => b < B) W w1) Y S) := HTY.out.kept (fun b hb => by
    have : b < w1.heap.size := by rcases hb with h | h <;> omega
    exact (hVb.block b (by omega)).trans (hV0b.block b this)) fun b hb => hb
  have hzz : z + 1 < zy := by omega
  clear hV0 hV0b hV0Y hVb hVs hVY hWV0 h0N h0Z hVN hVZ hzy HTY
  go_upto_region 5 with fail
  rw [← hV]
  clear hV q0 q1 q2 q3 q4 q5 q6 q7 q8 y0 y1 y2 y3 y4 y5 y6 y7 y8 e3 e4
  obtain ⟨X, hX⟩ : ∃ X, X = V.setCell ⟨z, 3, none⟩ (.slice (some ⟨zy + 1, 0, none⟩) 1 1) := ⟨_, rfl⟩
  rw [← hX]
  have hXo : ∀ j, j ≠ z → X.heap[j]? = V.heap[j]? := fun j hj => by rw [hX]; exact Below.heap_setCell _ _ _ _ hj
  have hXs : X.heap.size = V.heap.size := by rw [hX]; simp [World.setCell]
  have hXN : BN X z ⟨7, r1, r2, r3, 0, some ⟨zy + 1, 0, none⟩, 1, 1, 0, 0, false, a7, a8⟩ := by rw [hX]; exact Joins.block_setCell (i := 3) HVN.out _
  have hXb : Below w.heap.size w X := by rw [hX]; exact (HBW.out.trans (Joins.below_le HWV.out HBW.out.size)).setCell (by have := HZ.out; show _ ≤ z; omega) _
  have hXZ := (hXo (z + 1) (by omega)).trans HVZ.out
  have hm1 : (1 : Nat) ≤ maxLen := by unfold maxLen; omega
  have hXT : TP X (fun b => b < B ∨ z + 1 < b ∧ b < X.heap.size) ⟨7, r1, r2, r3, 0, some ⟨zy + 1, 0, none⟩, 1, 1, 0, 0, false, a7, a8⟩ (.mk 7 [] 0 [S] 0 0 false a7 a8) := by
    have hvs := HVS.out
    have hzy := HZY.out
    refine TP.mk (N := ⟨7, r1, r2, r3, 0, some ⟨zy + 1, 0, none⟩, 1, 1, 0, 0, false, a7, a8⟩) (R := []) (ts := [S]) (ND := fun _ => Y) ⟨HOK.out.k, HOK.out.a2, HOK.out.a4, HOK.out.a5, HOK.out.a7, HOK.out.a8, HOK.out.r, ⟨Nat.le_refl _, hm1⟩⟩ HRR.out (fun h => absurd rfl h) (by simp) rfl (fun _ => ⟨zy + 1, 0, rfl, .inr ⟨by omega, by omega⟩, fun i hi => ?_⟩) (fun i hi => ?_)
    · have e : i = 0 := by simpa using hi
      subst e
      have hb := HVY.out
      rw [HV0S.out] at hb
      obtain ⟨c0, c1, c2, c3, c4, c5, c6, c7, c8⟩ := nine' ((hXo (zy + 1) (by omega)).trans hb)
      exact ⟨c0, c1, c2, c3, c4, c5, c6, c7, c8⟩
    · have e : i = 0 := by simpa using hi
      subst e
      exact HTV.out.kept (fun b hb => hXo b (by rcases hb with h | h <;> omega)) fun b hb => by
        rcases hb with h | h
        · exact .inl h
        · exact .inr ⟨by omega, by omega⟩
  obtain ⟨q0, q1, q2, q3, q4, q5, q6, q7, q8⟩ := nine' hXN
  obtain ⟨p0, p1, p2, p3, p4, p5, p6, p7, p8⟩ := nine' hXZ
  have f0 := Joins.unfrozen_of_block hXZ 0
  have f1 := Joins.unfrozen_of_block hXZ 1
  have f2 := Joins.unfrozen_of_block hXZ 2
  have f3 := Joins.unfrozen_of_block hXZ 3
  have f4 := Joins.unfrozen_of_block hXZ 4
  have f5 := Joins.unfrozen_of_block hXZ 5
  have f6 := Joins.unfrozen_of_block hXZ 6
  have f7 := Joins.unfrozen_of_block hXZ 7
  have f8 := Joins.unfrozen_of_block hXZ 8
  have HXZ := hid hXZ
  have HXB := hid hXb
  have HXT := hid hXT
  clear hX hXo hXs hXN hXb hXZ hXT
  go_wp2
  all_goals
    have hz := HZ.out
    obtain ⟨y1, y2, y3⟩ := box_end (A := fun b => b < B) (w := w) (z := z + 1) (by omega) (fun b hb => by omega) HXZ.out HXB.out HXT.out (fun b h => by rcases h with h | h; exact .inl h; exact .inr ⟨by omega, by omega, h.2⟩)
    exact bodyPost_ret (results_cell_row rfl _ _ (z + 1) 25 _ (0, 0) _ rfl y1 Try.underlying25 rfl (by kernel_rfl)) rfl ⟨_, rfl, y2, y3⟩
set_option maxRecDepth 100000 in
set_option maxHeartbeats 16000000 in
theorem form51_rep {w0 w : World} {B : Nat} {a2 a4 a5 a7 : Int} {a6 : Bool} {a8 : ByteArray} {r1 s1 : Option Addr} {r2 r3 s2 s3 : Nat} {R : List (Int × Int)} {ts : List Tn} {ND : Nat → Nv} (hB : B ≤ w.heap.size) (hw : ∀ b, b < B → w.heap[b]? = w0.heap[b]?) (ok : Nv.ok ⟨6, r1, r2, r3, a2, s1, s2, s3, a4, a5, a6, a7, a8⟩) (hn : nodeB 6 R a2 ts.length a4 a5 a6 a7 a8 = true) (hfL : fineL ts = true) (hs : s2 = ts.length) (hr : r2 = R.length) (hR : R2 w0 B r1 R) (hRk : ∀ x ∈ R, I64ok x.1 ∧ I64ok x.2)
    (hS : 0 < ts.length → ∃ b o, s1 = some ⟨b, o, none⟩ ∧ b < B ∧ ∀ i, i < ts.length → N9 w0 b o i (ND i)) (hk : ∀ i (hi : i < ts.length), TI w0 B (ND i) ts[i])
    (IH : ∀ i (hi : i < ts.length), ts[i].S.nodes ≤ 200000 → ∀ w1 : World, B ≤ w1.heap.size → (∀ b, b < B → w1.heap[b]? = w0.heap[b]?) → Calls Try.prog 51 #[(ND i).v] w1 (FPost B w1 ts[i].S)) (hbig : (Tn.mk 6 R a2 ts a4 a5 a6 a7 a8).S.nodes ≤ 200000) (hlen : ts.length ≤ 200000) :
    Calls Try.prog 51 #[Nv.v ⟨6, r1, r2, r3, a2, s1, s2, s3, a4, a5, a6, a7, a8⟩] w (FPost B w (Tn.mk 6 R a2 ts a4 a5 a6 a7 a8).S) := by
  have hfk := fine_kind hn
  have hNf : ∀ i (hi : i < ts.length), Nf (ts[i]).S := fun i hi => nf_S _ (fineL_get hfL i hi)
  obtain ⟨W, hW⟩ : ∃ W, W = (w.alloc (.cells #[.int .i64 6, .slice r1 r2 r3, .int .i64 a2, .slice s1 s2 s3, .int .i64 a4, .int .i64 a5, .bool a6, .int .i64 a7, .string a8] 25)).alloc (.cells #[.int .i64 0, .slice none 0 0, .int .i64 0, .slice none 0 0, .int .i64 0, .int .i64 0, .bool false, .int .i64 0, .string ⟨#[]⟩] 25) := ⟨_, rfl⟩
  have hBW : Below w.heap.size w W := by rw [hW]; exact below_two' w _ _
  have hSW : W.heap.size = w.heap.size + 1 + 1 := by rw [hW]; simp
  have hBN : BN W w.heap.size ⟨6, r1, r2, r3, a2, s1, s2, s3, a4, a5, a6, a7, a8⟩ := by rw [hW]; exact (heap_alloc_old _ _ (by simp)).trans (heap_alloc_new w _)
  have hZW : BN W (w.heap.size + 1) default := by rw [hW]; exact two_new w _ _ _
  obtain ⟨z, hz⟩ : ∃ z, z = w.heap.size := ⟨_, rfl⟩
  rw [← hz] at hBN hSW hZW hB
  have hwW : ∀ b, b < B → W.heap[b]? = w0.heap[b]? := fun b hb => (hBW.block b (by omega)).trans (hw b hb)
  obtain ⟨q0, q1, q2, q3, q4, q5, q6, q7, q8⟩ := nine' hBN
  have HBN := hid hBN
  have HBW := hid hBW
  have HSW := hid hSW
  have HZW := hid hZW
  have HZ := hid hz
  have HWW := hid hwW
  have HNF := hid hNf
  have HN := hid hn
  have HL := hid hs
  have HFK := hid hfk
  have HOK := hid ok
  have HRR := hid hr
  have HR := hid hR
  have HRK := hid hRk
  have HS := hid hS
  have HTK := hid hk
  have HIH := hid IH
  have HBIG := hid hbig
  have HLEN := hid hlen
  have HW0 := hid hw
  clear hw hBN hBW hSW hZW hwW hNf hn hs hfk ok hr hR hRk hS hk IH hbig hlen hfL
  have hlt : 0 < ts.length := by have := HFK.out; omega
  have hl1 : s2 = 1 := by have := HFK.out; have := HL.out; omega
  obtain ⟨b, o, hs1, hbl, h9⟩ := HS.out hlt
  subst hs1 hl1
  have hSS : (Tn.mk 6 R a2 ts a4 a5 a6 a7 a8).S = repT (ts[0]'hlt).S a4 a5 a6 := by simp only [Tn.S]; rw [if_neg (by decide), if_neg (by decide), if_pos trivial, SL_head hlt]
  have hb := HBIG.out
  rw [hSS] at hb ⊢
  have hF6 : 0 ≤ a4 ∧ a4 ≤ 1000 ∧ (a5 = -1 ∨ a4 ≤ a5 ∧ a5 ≤ 1000) := by have := HFK.out; omega
  have hy := HNF.out 0 hlt
  have hM := (h9 0 hlt).kept (HWW.out b hbl)
  have hs3 : 1 ≤ s3 := HOK.out.s.1
  have hsw := HSW.out
  have HF : a5 ≠ 0 → ∀ w1, Below W.heap.size W w1 → Calls Try.prog 51 #[(ND 0).v] w1 (FPost B w1 (ts[0]'hlt).S) := fun h0 w1 hb1 => HIH.out 0 hlt (Nat.le_trans (rep_mem hy a6 h0 hF6.1 (by omega)) hb) w1 (by have := hb1.size; omega) (fun c hc => (hb1.block c (by omega)).trans (HWW.out c hc))
  obtain ⟨y, hye⟩ : ∃ y, y = (ts[0]'hlt).S := ⟨_, rfl⟩
  rw [← hye] at HF hy hb ⊢
  have hA : ∀ b, b < B → b < W.heap.size := fun b hb => by omega
  have HC : Calls Try.prog 75 #[Nv.v ⟨6, r1, r2, r3, a2, some ⟨b, o, none⟩, 1, s3, a4, a5, a6, a7, a8⟩] W (FPost B W (repT y a4 a5 a6)) := by
    obtain ⟨p, rfl⟩ : ∃ p : Nat, a4 = (p : Int) := ⟨a4.toNat, by omega⟩
    by_cases h0 : a5 = 0
    · subst h0
      have hp : p = 0 := by omega
      subst hp
      exact unfold75_zero (A := fun b => b < B) hA
    · by_cases h1 : a5 = -1
      · subst h1
        exact unfold75_inf (A := fun b => b < B) hA hbl hM hs3 hy (by omega) (HF h0) hb
      · obtain ⟨q, hq⟩ : ∃ q : Nat, a5 = ((p + q : Nat) : Int) := ⟨(a5 - p).toNat, by omega⟩
        have hb' := hb
        rw [hq] at hb'
        have := unfold75_fin (A := fun b => b < B) (k := 6) (r1 := r1) (r2 := r2) (r3 := r3) (a2 := a2) (a7 := a7) (a8 := a8) (lz := a6) (p := p) (q := q) (mx := a5) hA hbl hM hs3 hy (by omega) hq (by omega) (by omega) (HF h0) hb'
        rw [← hq] at this
        exact this
  clear hSS hb h9 hM hy HF hye hA hs3
  go_enter Try.func51, Try.ntmps51
  go_upto_region 1 with fail
  rw [← hz, ← hW]
  clear hW hz
  go_wp2_with (first | (go_at_call 75; (with_reducible refine HC.mono ?_); rintro e w4 ⟨J, rfl, hJ, hb4⟩; have b4Z := (hb4.block (z + 1) (by omega)).trans HZW.out; have HJ := hid hJ; have HB4 := hid hb4; have HB4Z := hid b4Z; obtain ⟨p0, p1, p2, p3, p4, p5, p6, p7, p8⟩ := nine' b4Z; have f0 := Joins.unfrozen_of_block b4Z 0; have f1 := Joins.unfrozen_of_block b4Z 1; have f2 := Joins.unfrozen_of_block b4Z 2; have f3 := Joins.unfrozen_of_block b4Z 3; have f4 := Joins.unfrozen_of_block b4Z 4; have f5 := Joins.unfrozen_of_block b4Z 5; have f6 := Joins.unfrozen_of_block b4Z 6; have f7 := Joins.unfrozen_of_block b4Z 7; have f8 := Joins.unfrozen_of_block b4Z 8; clear hJ hb4 b4Z HC))
  all_goals
    have hz' := HZ.out
    have hsw := HSW.out
    obtain ⟨y1, y2, y3⟩ := box_end (A := fun b => b < B) (w := w) (z := z + 1) (by omega) (fun b hb => by omega) HB4Z.out (HBW.out.trans (Joins.below_le HB4.out HBW.out.size)) HJ.out (fun b h => by have := HB4.out.size; rcases h with h1 | h1; exact .inl h1; exact .inr ⟨by omega, by omega, by omega⟩)
    exact bodyPost_ret (results_cell_row rfl _ _ (z + 1) 25 _ (0, 0) _ rfl y1 Try.underlying25 rfl (by kernel_rfl)) rfl ⟨_, rfl, y2, y3⟩
end Go.Proofs.Ytdidopgenhpakaa
/- HELPERS: the document's form of a row. -/
namespace Go.Proofs.Ytdidopgenhpakaa
open Go.RowKit
set_option linter.unusedVariables false
set_option linter.unusedSimpArgs false
set_option maxRecDepth 100000 in
set_option maxHeartbeats 16000000 in
theorem form51_cat {w0 w : World} {B : Nat} {a2 a4 a5 a7 : Int} {a6 : Bool} {a8 : ByteArray} {r1 s1 : Option Addr} {r2 r3 s2 s3 : Nat} {R : List (Int × Int)} {ts : List Tn} {ND : Nat → Nv} (hB : B ≤ w.heap.size) (hw : ∀ b, b < B → w.heap[b]? = w0.heap[b]?) (ok : Nv.ok ⟨4, r1, r2, r3, a2, s1, s2, s3, a4, a5, a6, a7, a8⟩) (hn : nodeB 4 R a2 ts.length a4 a5 a6 a7 a8 = true) (hfL : fineL ts = true) (hs : s2 = ts.length) (hr : r2 = R.length) (hR : R2 w0 B r1 R) (hRk : ∀ x ∈ R, I64ok x.1 ∧ I64ok x.2)
    (hS : 0 < ts.length → ∃ b o, s1 = some ⟨b, o, none⟩ ∧ b < B ∧ ∀ i, i < ts.length → N9 w0 b o i (ND i)) (hk : ∀ i (hi : i < ts.length), TI w0 B (ND i) ts[i])
    (IH : ∀ i (hi : i < ts.length), ts[i].S.nodes ≤ 200000 → ∀ w1 : World, B ≤ w1.heap.size → (∀ b, b < B → w1.heap[b]? = w0.heap[b]?) → Calls Try.prog 51 #[(ND i).v] w1 (FPost B w1 ts[i].S)) (hbig : (Tn.mk 4 R a2 ts a4 a5 a6 a7 a8).S.nodes ≤ 200000) (hlen : ts.length ≤ 200000) :
    Calls Try.prog 51 #[Nv.v ⟨4, r1, r2, r3, a2, s1, s2, s3, a4, a5, a6, a7, a8⟩] w (FPost B w (Tn.mk 4 R a2 ts a4 a5 a6 a7 a8).S) := by
  have hfk := fine_kind hn
  have hNf : ∀ i (hi : i < ts.length), Nf (ts[i]).S := fun i hi => nf_S _ (fineL_get hfL i hi)
  obtain ⟨W, hW⟩ : ∃ W, W = (w.alloc (.cells #[.int .i64 4, .slice r1 r2 r3, .int .i64 a2, .slice s1 s2 s3, .int .i64 a4, .int .i64 a5, .bool a6, .int .i64 a7, .string a8] 25)).alloc (.cells #[.int .i64 0, .slice none 0 0, .int .i64 0, .slice none 0 0, .int .i64 0, .int .i64 0, .bool false, .int .i64 0, .string ⟨#[]⟩] 25) := ⟨_, rfl⟩
  have hBW : Below w.heap.size w W := by rw [hW]; exact below_two' w _ _
  have hSW : W.heap.size = w.heap.size + 1 + 1 := by rw [hW]; simp
  have hBN : BN W w.heap.size ⟨4, r1, r2, r3, a2, s1, s2, s3, a4, a5, a6, a7, a8⟩ := by rw [hW]; exact (heap_alloc_old _ _ (by simp)).trans (heap_alloc_new w _)
  have hZW : BN W (w.heap.size + 1) default := by rw [hW]; exact two_new w _ _ _
  obtain ⟨z, hz⟩ : ∃ z, z = w.heap.size := ⟨_, rfl⟩
  rw [← hz] at hBN hSW hZW hB
  have hwW : ∀ b, b < B → W.heap[b]? = w0.heap[b]? := fun b hb => (hBW.block b (by omega)).trans (hw b hb)
  obtain ⟨q0, q1, q2, q3, q4, q5, q6, q7, q8⟩ := nine' hBN
  have HBN := hid hBN
  have HBW := hid hBW
  have HSW := hid hSW
  have HZW := hid hZW
  have HZ := hid hz
  have HWW := hid hwW
  have HNF := hid hNf
  have HN := hid hn
  have HL := hid hs
  have HFK := hid hfk
  have HOK := hid ok
  have HRR := hid hr
  have HR := hid hR
  have HRK := hid hRk
  have HS := hid hS
  have HTK := hid hk
  have HIH := hid IH
  have HBIG := hid hbig
  have HLEN := hid hlen
  have HW0 := hid hw
  clear hw hBN hBW hSW hZW hwW hNf hn hs hfk ok hr hR hRk hS hk IH hbig hlen hfL
  have hSS : (Tn.mk 4 R a2 ts a4 a5 a6 a7 a8).S = joinT (ones (SL ts)) := by simp only [Tn.S]; rw [if_pos trivial]
  have hb := HBIG.out
  rw [hSS] at hb ⊢
  have hSLn : ∀ x ∈ SL ts, Nf x := fun x hx => by
    rw [SL_map] at hx
    obtain ⟨u, hu, rfl⟩ := List.mem_map.1 hx
    obtain ⟨i, hi, rfl⟩ := List.getElem_of_mem hu
    exact HNF.out i hi
  have HSB : Hid (∀ i (hi : i < ts.length), ts[i].S.nodes ≤ 200000) := fun i hi => Nat.le_trans (join_mem hSLn (by rw [SL_map]; exact List.mem_map.2 ⟨ts[i], List.getElem_mem hi, rfl⟩)) hb
  have HST : Hid (∀ i (hi : i < ts.length), (SL ts).take (i + 1) = (SL ts).take i ++ [ts[i].S]) := fun i hi => by
    rw [List.take_succ_eq_append_getElem (by rw [SL_len]; exact hi), SL_get]
  have HBD : Hid (∀ i, ((SL ts).take i).length ≤ 200000) := fun i => by rw [List.length_take, SL_len]; have := HLEN.out; omega
  have HSN := hid hSLn
  have HBJ := hid hb
  obtain ⟨i0, hi0, hz0, hz1, hz2⟩ := info_parts info25
  have hm2 : s2 ≤ 200000 := by have := HL.out; have := HLEN.out; omega
  clear hSS hb hSLn
  go_enter Try.func51, Try.ntmps51
  go_upto_region 1 with fail
  rw [← hz, ← hW]
  clear hW hz
  go_wp2_with fail
  go_loopw [4, 5] (fun u x wq => ∃ (i : Nat) (u1 : Option Addr) (u3 : Nat), u = .slice u1 i u3 ∧ x = .int .i64 (i : Int) ∧ i ≤ s2 ∧ Hid (RG (fun b => b < B) W wq (.slice u1 i u3) ((SL ts).take i))) (fun _ x _ => s2 - (intOf x).toNat)
  case atStart => exact ⟨0, none, 0, rfl, rfl, by omega, by show RG _ _ _ _ _; simpa [rowS] using RG.start (fun b hb => by have := HSW.out; omega) (Below.refl _ _)⟩
  case round =>
    obtain ⟨i, u1, u3, rfl, rfl, hi, HR⟩ := hrel
    have hbel : Below W.heap.size W wr := by obtain ⟨MS, A', h⟩ := HR.out; exact h.bel
    have hbs := hbel.size
    have hsw := HSW.out
    have bN := (hbel.block z (by omega)).trans HBN.out
    have bZ := (hbel.block (z + 1) (by omega)).trans HZW.out
    have HBZ := hid bZ
    have hwk : ∀ b, b < B → wr.heap[b]? = w0.heap[b]? := fun b hb => (hbel.block b (by omega)).trans (HWW.out b hb)
    have HWK := hid hwk
    have HBEL := hid hbel
    clear q0 q1 q2 q3 q4 q5 q6 q7 q8
    obtain ⟨q0, q1, q2, q3, q4, q5, q6, q7, q8⟩ := nine' bN
    clear hbel bN bZ hwk
    by_cases hil : i < s2
    · have b1 : decide ((i : Int) < (s2 : Int)) = true := by simp; omega
      have b2 : (i : Int) < (s2 : Int) := by omega
      have ad1 : IntKind.i64.wrap ((i : Int) + 1) = (i : Int) + 1 := by simp [IntKind.wrap, IntKind.bits, IntKind.signed]; omega
      have hlt : i < ts.length := by have := HL.out; omega
      obtain ⟨b, o, hs1, hbl, h9⟩ := HS.out (by omega)
      subst hs1
      obtain ⟨n0, n1, n2, n3, n4, n5, n6, n7, n8⟩ := (h9 i hlt).kept (HWK.out b hbl)
      have HC := HIH.out i hlt (HSB.out i hlt) wr (by omega) HWK.out
      obtain ⟨M, hMe⟩ : ∃ M, M = ND i := ⟨_, rfl⟩
      rw [← hMe] at HC n0 n1 n2 n3 n4 n5 n6 n7 n8
      have hnf := HNF.out i hlt
      have hst := HST.out i hlt
      have hbnd := HBD.out (i + 1)
      rw [hst] at hbnd
      obtain ⟨S, hSe⟩ : ∃ S, S = (ts[i]'hlt).S := ⟨_, rfl⟩
      rw [← hSe] at HC hnf hst hbnd
      obtain ⟨MS, A', hR⟩ := HR.out
      obtain ⟨us, hus⟩ : ∃ us, us = (SL ts).take i := ⟨_, rfl⟩
      rw [← hus] at hR hst hbnd
      have hul : i = us.length := row_len hR.row
      have HR1 := hid hR
      have HUL := hid hul
      have HNX := hid hnf
      have HSTi := hid hst
      have HBI := hid hbnd
      clear h9 hMe hnf hst hSe hR hus hul HR hbnd
      go_upto_region 12 with (first | (go_at_call 51; (with_reducible refine HC.mono ?_); rintro e w2 ⟨Y, rfl, hY, hb2⟩; have HTY := hid hY; have HB2 := hid hb2; clear hY hb2 HC))
      obtain ⟨X, hX⟩ : ∃ X, X = w2.alloc (.cells #[.int .i64 Y.k, .slice Y.r1 Y.r2 Y.r3, .int .i64 Y.a2, .slice Y.s1 Y.s2 Y.s3, .int .i64 Y.a4, .int .i64 Y.a5, .bool Y.a6, .int .i64 Y.a7, .string Y.a8] 25) := ⟨_, rfl⟩
      rw [← hX]
      have hs2 := HB2.out.size
      have hXb : Below w2.heap.size w2 X := by rw [hX]; exact Joins.below_alloc1 w2 _
      have hXs : X.heap.size = w2.heap.size + 1 := by rw [hX]; simp
      have hXn : BN X w2.heap.size Y := by rw [hX]; exact heap_alloc_new w2 _
      obtain ⟨x0, x1, x2, x3, x4, x5, x6, x7, x8⟩ := nine' hXn
      have hrow2 := HR1.out.rowAt (HB2.out.trans (Joins.below_le hXb hs2))
      rw [← HUL.out] at hrow2
      have HROW := hid hrow2
      have HXB := hid hXb
      have hsX : W.heap.size ≤ X.heap.size := by omega
      have HXS := hid hXs
      clear hX hXb hXn hXs hrow2 n0 n1 n2 n3 n4 n5 n6 n7 n8 q0 q1 q2 q3 q4 q5 q6 q7 q8
      go_wp2_with (first | (at_builtin; refine wpList_append_moveN rfl (.tmp 38) (.tmp 40) 23 rfl W.heap.size 25 i0 Z9 9 112 Try.underlying23 hi0 hz0 hz1 hz2 rfl (by decide) (.slice u1 i u3) i (MS.flatMap Nv.cs) rfl (HROW.out.alloc _) ⟨X.heap.size, 0, none⟩ 1 1 (Nv.cs Y) rfl rfl (by decide) (news9 X Y) (one9 _) (by unfold maxLen; omega) (by omega) (by simp; omega) ?_; intro v' w3 ho3 hm3; obtain ⟨vb, vc, rfl⟩ := Joins.ownsRow_form ho3.out (by omega)))
      refine ⟨⟨i + 1, some ⟨vb, 0, none⟩, vc, rfl, by push_cast; rfl, by omega, ?_⟩, by simp [intOf]; omega⟩
      rw [HSTi.out]
      refine HR1.out.app (A2 := New (fun b => b < B) wr w2) HB2.out (news := [Y]) rfl (fun q hq hq' => ?_) (fun b hb => hb) (HXB.out.trans (Joins.below_alloc1 X _ |> fun h => Joins.below_le h HXB.out.size)) ?_ hm3.out
      · have e : q = 0 := by simpa using hq
        subst e
        exact HTY.out
      · rw [← HUL.out]; simpa using ho3.out
    · have b1 : decide ((i : Int) < (s2 : Int)) = false := by simp; omega
      obtain rfl : i = s2 := by omega
      have hR := HR.out
      have htk : (SL ts).take i = SL ts := by rw [List.take_of_length_le]; rw [SL_len]; have := HL.out; omega
      rw [htk] at hR
      obtain ⟨hLT, hln, hl1, hl2⟩ := hR.ltr
      have HC2 := join74 (c := u3) (New.low (fun b hb => by omega) hbs) hln (by rw [SL_len]; exact HLEN.out) hLT HSN.out HBJ.out
      clear hR htk hLT hln hl1 hl2 HR
      go_wp2_with (first | (go_at_call 74; (with_reducible refine HC2.mono ?_); rintro e w4 ⟨J, rfl, hJ, hb4⟩; have b4Z := (hb4.block (z + 1) (by omega)).trans HBZ.out; have HJ := hid hJ; have HB4 := hid hb4; have HB4Z := hid b4Z; obtain ⟨p0, p1, p2, p3, p4, p5, p6, p7, p8⟩ := nine' b4Z; have f0 := Joins.unfrozen_of_block b4Z 0; have f1 := Joins.unfrozen_of_block b4Z 1; have f2 := Joins.unfrozen_of_block b4Z 2; have f3 := Joins.unfrozen_of_block b4Z 3; have f4 := Joins.unfrozen_of_block b4Z 4; have f5 := Joins.unfrozen_of_block b4Z 5; have f6 := Joins.unfrozen_of_block b4Z 6; have f7 := Joins.unfrozen_of_block b4Z 7; have f8 := Joins.unfrozen_of_block b4Z 8; clear hJ hb4 b4Z HC2))
      all_goals
        have hz' := HZ.out
        have hsw := HSW.out
        obtain ⟨y1, y2, y3⟩ := box_end (A := fun b => b < B) (w := w) (z := z + 1) (by omega) (fun b hb => by omega) HB4Z.out ((HBW.out.trans (Joins.below_le HBEL.out HBW.out.size)).trans (Joins.below_le HB4.out (Nat.le_trans HBW.out.size hbs))) HJ.out (fun b h => by have := HB4.out.size; rcases h with (h1 | h1) | h1; exact .inl h1; exact .inr ⟨by omega, by omega, by omega⟩; exact .inr ⟨by omega, by omega, by omega⟩)
        exact bodyPost_ret (results_cell_row rfl _ _ (z + 1) 25 _ (0, 0) _ rfl y1 Try.underlying25 rfl (by kernel_rfl)) rfl ⟨_, rfl, y2, y3⟩
end Go.Proofs.Ytdidopgenhpakaa
/- HELPERS: the document's form of alternatives; of any tree. -/
namespace Go.Proofs.Ytdidopgenhpakaa
open Go.RowKit
set_option linter.unusedVariables false
set_option linter.unusedSimpArgs false
set_option maxRecDepth 100000 in
set_option maxHeartbeats 16000000 in
theorem form51_alt {w0 w : World} {B : Nat} {a2 a4 a5 a7 : Int} {a6 : Bool} {a8 : ByteArray} {r1 s1 : Option Addr} {r2 r3 s2 s3 : Nat} {R : List (Int × Int)} {ts : List Tn} {ND : Nat → Nv} (hB : B ≤ w.heap.size) (hw : ∀ b, b < B → w.heap[b]? = w0.heap[b]?) (ok : Nv.ok ⟨5, r1, r2, r3, a2, s1, s2, s3, a4, a5, a6, a7, a8⟩) (hn : nodeB 5 R a2 ts.length a4 a5 a6 a7 a8 = true) (hfL : fineL ts = true) (hs : s2 = ts.length) (hr : r2 = R.length) (hR : R2 w0 B r1 R) (hRk : ∀ x ∈ R, I64ok x.1 ∧ I64ok x.2)
    (hS : 0 < ts.length → ∃ b o, s1 = some ⟨b, o, none⟩ ∧ b < B ∧ ∀ i, i < ts.length → N9 w0 b o i (ND i)) (hk : ∀ i (hi : i < ts.length), TI w0 B (ND i) ts[i])
    (IH : ∀ i (hi : i < ts.length), ts[i].S.nodes ≤ 200000 → ∀ w1 : World, B ≤ w1.heap.size → (∀ b, b < B → w1.heap[b]? = w0.heap[b]?) → Calls Try.prog 51 #[(ND i).v] w1 (FPost B w1 ts[i].S)) (hbig : (Tn.mk 5 R a2 ts a4 a5 a6 a7 a8).S.nodes ≤ 200000) (hlen : ts.length ≤ 200000) :
    Calls Try.prog 51 #[Nv.v ⟨5, r1, r2, r3, a2, s1, s2, s3, a4, a5, a6, a7, a8⟩] w (FPost B w (Tn.mk 5 R a2 ts a4 a5 a6 a7 a8).S) := by
  have hfk := fine_kind hn
  have hNf : ∀ i (hi : i < ts.length), Nf (ts[i]).S := fun i hi => nf_S _ (fineL_get hfL i hi)
  obtain ⟨W, hW⟩ : ∃ W, W = (w.alloc (.cells #[.int .i64 5, .slice r1 r2 r3, .int .i64 a2, .slice s1 s2 s3, .int .i64 a4, .int .i64 a5, .bool a6, .int .i64 a7, .string a8] 25)).alloc (.cells #[.int .i64 0, .slice none 0 0, .int .i64 0, .slice none 0 0, .int .i64 0, .int .i64 0, .bool false, .int .i64 0, .string ⟨#[]⟩] 25) := ⟨_, rfl⟩
  have hBW : Below w.heap.size w W := by rw [hW]; exact below_two' w _ _
  have hSW : W.heap.size = w.heap.size + 1 + 1 := by rw [hW]; simp
  have hBN : BN W w.heap.size ⟨5, r1, r2, r3, a2, s1, s2, s3, a4, a5, a6, a7, a8⟩ := by rw [hW]; exact (heap_alloc_old _ _ (by simp)).trans (heap_alloc_new w _)
  have hZW : BN W (w.heap.size + 1) default := by rw [hW]; exact two_new w _ _ _
  obtain ⟨z, hz⟩ : ∃ z, z = w.heap.size := ⟨_, rfl⟩
  rw [← hz] at hBN hSW hZW hB
  have hwW : ∀ b, b < B → W.heap[b]? = w0.heap[b]? := fun b hb => (hBW.block b (by omega)).trans (hw b hb)
  obtain ⟨q0, q1, q2, q3, q4, q5, q6, q7, q8⟩ := nine' hBN
  have HBN := hid hBN
  have HBW := hid hBW
  have HSW := hid hSW
  have HZW := hid hZW
  have HZ := hid hz
  have HWW := hid hwW
  have HNF := hid hNf
  have HN := hid hn
  have HL := hid hs
  have HFK := hid hfk
  have HOK := hid ok
  have HRR := hid hr
  have HR := hid hR
  have HRK := hid hRk
  have HS := hid hS
  have HTK := hid hk
  have HIH := hid IH
  have HBIG := hid hbig
  have HLEN := hid hlen
  have HW0 := hid hw
  clear hw hBN hBW hSW hZW hwW hNf hn hs hfk ok hr hR hRk hS hk IH hbig hlen hfL
  have hSS : (Tn.mk 5 R a2 ts a4 a5 a6 a7 a8).S = rowT 5 (ones (SL ts)) := by simp only [Tn.S]; rw [if_neg (by decide), if_pos trivial]
  have hb := HBIG.out
  rw [hSS] at hb ⊢
  have HSB : Hid (∀ i (hi : i < ts.length), ts[i].S.nodes ≤ 200000) := fun i hi => Nat.le_trans (row_mem (by rw [SL_map]; exact List.mem_map.2 ⟨ts[i], List.getElem_mem hi, rfl⟩)) hb
  have HST : Hid (∀ i (hi : i < ts.length), rowS 5 (ones ((SL ts).take (i + 1))) = rowS 5 (ones ((SL ts).take i)) ++ within 5 ts[i].S) := fun i hi => by
    rw [List.take_succ_eq_append_getElem (by rw [SL_len]; exact hi), SL_get, ones, List.map_append, rowS_append]
    simp [rowS]
  have HBD : Hid (∀ i, (rowS 5 (ones ((SL ts).take i))).length ≤ 200000) := fun i => by
    have h1 : rowS 5 (ones (SL ts)) = rowS 5 (ones ((SL ts).take i)) ++ rowS 5 (ones ((SL ts).drop i)) := by rw [← rowS_append, ← List.map_append, List.take_append_drop]
    have h2 := nodes_ge (rowS 5 (ones (SL ts)))
    rw [rowT_nodes] at hb
    rw [h1, List.length_append] at h2
    rw [h1] at hb
    omega
  obtain ⟨i0, hi0, hz0, hz1, hz2⟩ := info_parts info25
  have hm2 : s2 ≤ 200000 := by have := HL.out; have := HLEN.out; omega
  clear hSS hb
  go_enter Try.func51, Try.ntmps51
  go_upto_region 1 with fail
  rw [← hz, ← hW]
  clear hW hz
  go_wp2_with fail
  go_loopw [7, 8] (fun u x wq => ∃ (i j : Nat) (u1 : Option Addr) (u3 : Nat), u = .slice u1 j u3 ∧ x = .int .i64 (i : Int) ∧ i ≤ s2 ∧ j ≤ 200000 ∧ Hid (RG (fun b => b < B) W wq (.slice u1 j u3) (rowS 5 (ones ((SL ts).take i))))) (fun _ x _ => s2 - (intOf x).toNat)
  case atStart => exact ⟨0, 0, none, 0, rfl, rfl, by omega, by omega, by show RG _ _ _ _ _; simpa [rowS] using RG.start (fun b hb => by have := HSW.out; omega) (Below.refl _ _)⟩
  case round =>
    obtain ⟨i, j, u1, u3, rfl, rfl, hi, hj, HR⟩ := hrel
    have hbel : Below W.heap.size W wr := by obtain ⟨MS, A', h⟩ := HR.out; exact h.bel
    have hbs := hbel.size
    have hsw := HSW.out
    have bN := (hbel.block z (by omega)).trans HBN.out
    have bZ := (hbel.block (z + 1) (by omega)).trans HZW.out
    have HBZ := hid bZ
    have hwk : ∀ b, b < B → wr.heap[b]? = w0.heap[b]? := fun b hb => (hbel.block b (by omega)).trans (HWW.out b hb)
    have HWK := hid hwk
    have HBEL := hid hbel
    clear q0 q1 q2 q3 q4 q5 q6 q7 q8
    obtain ⟨q0, q1, q2, q3, q4, q5, q6, q7, q8⟩ := nine' bN
    clear hbel bN bZ hwk
    by_cases hil : i < s2
    · have b1 : decide ((i : Int) < (s2 : Int)) = true := by simp; omega
      have b2 : (i : Int) < (s2 : Int) := by omega
      have ad1 : IntKind.i64.wrap ((i : Int) + 1) = (i : Int) + 1 := by simp [IntKind.wrap, IntKind.bits, IntKind.signed]; omega
      have hlt : i < ts.length := by have := HL.out; omega
      obtain ⟨b, o, hs1, hbl, h9⟩ := HS.out (by omega)
      subst hs1
      obtain ⟨n0, n1, n2, n3, n4, n5, n6, n7, n8⟩ := (h9 i hlt).kept (HWK.out b hbl)
      have HC := HIH.out i hlt (HSB.out i hlt) wr (by omega) HWK.out
      obtain ⟨M, hMe⟩ : ∃ M, M = ND i := ⟨_, rfl⟩
      rw [← hMe] at HC n0 n1 n2 n3 n4 n5 n6 n7 n8
      have hnf := HNF.out i hlt
      have hst := HST.out i hlt
      have hbnd := HBD.out (i + 1)
      rw [hst] at hbnd
      obtain ⟨S, hSe⟩ : ∃ S, S = (ts[i]'hlt).S := ⟨_, rfl⟩
      rw [← hSe] at HC hnf hst hbnd
      obtain ⟨MS, A', hR⟩ := HR.out
      obtain ⟨us, hus⟩ : ∃ us, us = rowS 5 (ones ((SL ts).take i)) := ⟨_, rfl⟩
      rw [← hus] at hR hst hbnd
      have hul : j = us.length := row_len hR.row
      have HR1 := hid hR
      have HUL := hid hul
      have HNX := hid hnf
      have HSTi := hid hst
      have HBI := hid hbnd
      clear h9 hMe hnf hst hSe hR hus hul HR hbnd
      go_upto_region 20 with (first | (go_at_call 51; (with_reducible refine HC.mono ?_); rintro e w2 ⟨Y, rfl, hY, hb2⟩; have HTY := hid hY; have HB2 := hid hb2; clear hY hb2 HC))
      obtain ⟨X, hX⟩ : ∃ X, X = w2.alloc (.cells #[.int .i64 Y.k, .slice Y.r1 Y.r2 Y.r3, .int .i64 Y.a2, .slice Y.s1 Y.s2 Y.s3, .int .i64 Y.a4, .int .i64 Y.a5, .bool Y.a6, .int .i64 Y.a7, .string Y.a8] 25) := ⟨_, rfl⟩
      rw [← hX]
      have hs2 := HB2.out.size
      have hXb : Below w2.heap.size w2 X := by rw [hX]; exact Joins.below_alloc1 w2 _
      have hXs : X.heap.size = w2.heap.size + 1 := by rw [hX]; simp
      have hXn : BN X w2.heap.size Y := by rw [hX]; exact heap_alloc_new w2 _
      obtain ⟨x0, x1, x2, x3, x4, x5, x6, x7, x8⟩ := nine' hXn
      have hrow2 := HR1.out.rowAt (HB2.out.trans (Joins.below_le hXb hs2))
      rw [← HUL.out] at hrow2
      have HROW := hid hrow2
      have HXB := hid hXb
      have hsX : W.heap.size ≤ X.heap.size := by omega
      have HXS := hid hXs
      clear hX hXb hXn hXs hrow2 n0 n1 n2 n3 n4 n5 n6 n7 n8 q0 q1 q2 q3 q4 q5 q6 q7 q8
      have hkY : Y.k = S.kind := (HTY.out.subs).2.2.2
      by_cases k5 : Y.k = 5
      · have hw5 : within 5 S = S.subs := by unfold within; rw [if_pos (by omega)]
        have h2 := nf_subs HNX.out (.inr (by omega))
        obtain ⟨hLTs, hY2, hY3, _⟩ := HTY.out.subs
        obtain ⟨ND2, h1', h2'⟩ := hLTs
        obtain ⟨b2', o2, e2, hb2, h92⟩ := h1' (by omega)
        have hYl : b2' < w2.heap.size := by rcases hb2 with h | h <;> omega
        have hnews := tl_news (n := Y.s2) (fun i hi => (h92 i (by omega)).kept (HXB.out.block b2' hYl))
        have hnl : (((List.range Y.s2).map ND2).flatMap Nv.cs).length = Y.s2 * 9 := by rw [flat9_len]; simp
        have htj : j + Y.s2 ≤ 200000 := by have h := HBI.out; have := HUL.out; rw [hw5, List.length_append] at h; omega
        obtain ⟨news, hnw⟩ : ∃ news, news = ((List.range Y.s2).map ND2).flatMap Nv.cs := ⟨_, rfl⟩
        have h1c : ∀ u ∈ news, u.oneCell' = true := by rw [hnw]; exact one9L _
        rw [← hnw] at hnews hnl
        have HNW := hid hnw
        have HN2' := hid h2'
        have HNL := hid hnl
        have HNEWS := hid hnews
        have H1C := hid h1c
        have hp2 : 2 ≤ Y.s2 := by omega
        have HY2 := hid hY2
        have g5 : (Y.k == 5) = true := by simp [k5]
        rw [e2] at x3
        clear hnw h1' h2' h92 hnl hnews h1c h2 hb2 hY2 hY3 hkY
        obtain ⟨m2, hm2e⟩ : ∃ m2, m2 = Y.s2 := ⟨_, rfl⟩
        obtain ⟨m3, hm3e⟩ : ∃ m3, m3 = Y.s3 := ⟨_, rfl⟩
        rw [← hm2e] at hp2 HNL htj x3
        rw [← hm3e] at x3
        have HM2 := hid hm2e
        clear hm2e hm3e
        go_wp2_with (first | (at_builtin; refine wpList_append_moveN rfl (.tmp 62) (.tmp 64) 23 rfl W.heap.size 25 i0 Z9 9 112 Try.underlying23 hi0 hz0 hz1 hz2 rfl (by decide) (.slice u1 j u3) j (MS.flatMap Nv.cs) rfl HROW.out ⟨b2', o2, none⟩ m2 m3 news rfl HNL.out (by omega) HNEWS.out H1C.out (by unfold maxLen; omega) (by omega) hsX ?_; intro v' w3 ho3 hm3; obtain ⟨vb, vc, rfl⟩ := Joins.ownsRow_form ho3.out (by omega)))
        refine ⟨⟨i + 1, j + m2, some ⟨vb, 0, none⟩, vc, rfl, by push_cast; rfl, by omega, htj, ?_⟩, by simp [intOf]; omega⟩
        rw [HSTi.out, hw5]
        have ho := ho3.out
        rw [HNW.out] at ho
        have hhs : m2 = S.subs.length := HM2.out.trans HY2.out
        refine HR1.out.app (A2 := New (fun b => b < B) wr w2) HB2.out (news := (List.range Y.s2).map ND2) (by simp [← hhs, HM2.out]) (fun q hq hq' => ?_) (fun b hb => hb) HXB.out ?_ hm3.out
        · simp only [List.getElem_map, List.getElem_range]; exact HN2'.out q hq
        · rw [← HUL.out, ← hhs]; exact ho
      · have g5 : (Y.k == 5) = false := by simp [k5]
        have hw5 : within 5 S = [S] := by unfold within; rw [if_neg (by omega)]
        have htj : j + 1 ≤ 200000 := by have h := HBI.out; have := HUL.out; rw [hw5, List.length_append] at h; simp at h; omega
        clear hkY
        go_wp2_with (first | (at_builtin; refine wpList_append_moveN rfl (.tmp 66) (.tmp 68) 23 rfl W.heap.size 25 i0 Z9 9 112 Try.underlying23 hi0 hz0 hz1 hz2 rfl (by decide) (.slice u1 j u3) j (MS.flatMap Nv.cs) rfl (HROW.out.alloc _) ⟨X.heap.size, 0, none⟩ 1 1 (Nv.cs Y) rfl rfl (by decide) (news9 X Y) (one9 _) (by unfold maxLen; omega) (by omega) (by simp; omega) ?_; intro v' w3 ho3 hm3; obtain ⟨vb, vc, rfl⟩ := Joins.ownsRow_form ho3.out (by omega)))
        refine ⟨⟨i + 1, j + 1, some ⟨vb, 0, none⟩, vc, rfl, by push_cast; rfl, by omega, htj, ?_⟩, by simp [intOf]; omega⟩
        rw [HSTi.out, hw5]
        refine HR1.out.app (A2 := New (fun b => b < B) wr w2) HB2.out (news := [Y]) rfl (fun q hq hq' => ?_) (fun b hb => hb) (HXB.out.trans (Joins.below_alloc1 X _ |> fun h => Joins.below_le h HXB.out.size)) ?_ hm3.out
        · have e : q = 0 := by simpa using hq
          subst e
          exact HTY.out
        · rw [← HUL.out]; simpa using ho3.out
    · have b1 : decide ((i : Int) < (s2 : Int)) = false := by simp; omega
      obtain rfl : i = s2 := by omega
      have hR := HR.out
      have htk : (SL ts).take i = SL ts := by rw [List.take_of_length_le]; rw [SL_len]; have := HL.out; omega
      rw [htk] at hR
      have hT := hR.node 5 (by decide)
      have HT := hid hT
      have bZ := HBZ.out
      obtain ⟨p0, p1, p2, p3, p4, p5, p6, p7, p8⟩ := nine' bZ
      have f0 := Joins.unfrozen_of_block bZ 0
      have f1 := Joins.unfrozen_of_block bZ 1
      have f2 := Joins.unfrozen_of_block bZ 2
      have f3 := Joins.unfrozen_of_block bZ 3
      have f4 := Joins.unfrozen_of_block bZ 4
      have f5 := Joins.unfrozen_of_block bZ 5
      have f6 := Joins.unfrozen_of_block bZ 6
      have f7 := Joins.unfrozen_of_block bZ 7
      have f8 := Joins.unfrozen_of_block bZ 8
      clear hR htk HR hT bZ
      go_wp2
      all_goals
        have hz' := HZ.out
        have hsw := HSW.out
        obtain ⟨y1, y2, y3⟩ := box_end (A := fun b => b < B) (w := w) (z := z + 1) (by omega) (fun b hb => by omega) HBZ.out (HBW.out.trans (Joins.below_le HBEL.out HBW.out.size)) HT.out (fun b h => by rcases h with h1 | h1; exact .inl h1; exact .inr ⟨by omega, by omega, by omega⟩)
        exact bodyPost_ret (results_cell_row rfl _ _ (z + 1) 25 _ (0, 0) _ rfl y1 Try.underlying25 rfl (by kernel_rfl)) rfl ⟨_, rfl, y2, y3⟩
theorem form51 {w0 : World} {B : Nat} {N : Nv} {t : Tn} (h : TI w0 B N t) : t.fine = true → t.nodes ≤ 200000 → t.S.nodes ≤ 200000 → ∀ (w : World), B ≤ w.heap.size → (∀ b, b < B → w.heap[b]? = w0.heap[b]?) → Calls Try.prog 51 #[N.v] w (FPost B w t.S) := by
  induction h with
  | @mk N R ts ND ok hr hR hRk hs hS hk ih =>
  intro hf hn hb w hB hw
  simp only [Tn.fine, Bool.and_eq_true] at hf
  simp only [Tn.nodes] at hn
  have hlen : ts.length ≤ 200000 := by have := nodes_ge ts; omega
  have IH : ∀ i (hi : i < ts.length), ts[i].S.nodes ≤ 200000 → ∀ w1 : World, B ≤ w1.heap.size → (∀ b, b < B → w1.heap[b]? = w0.heap[b]?) → Calls Try.prog 51 #[(ND i).v] w1 (FPost B w1 ts[i].S) := fun i hi h1 => ih i hi (fineL_get hf.2 i hi) (by have := nodes_get ts i hi; omega) h1
  obtain ⟨k, r1, r2, r3, a2, s1, s2, s3, a4, a5, a6, a7, a8⟩ := N
  by_cases k4 : k = 4
  · subst k4; exact form51_cat hB hw ok hf.1 hf.2 hs hr hR hRk hS hk IH hb hlen
  by_cases k5 : k = 5
  · subst k5; exact form51_alt hB hw ok hf.1 hf.2 hs hr hR hRk hS hk IH hb hlen
  by_cases k6 : k = 6
  · subst k6; exact form51_rep hB hw ok hf.1 hf.2 hs hr hR hRk hS hk IH hb hlen
  by_cases k7 : k = 7
  · subst k7; exact form51_grp hB hw ok hf.1 hf.2 hs hr hR hRk hS hk IH hb hlen
  exact form51_leaf hB hw ok hf.1 hf.2 hs hr hR hRk hS hk IH hb hlen k4 k5 k6 k7
end Go.Proofs.Ytdidopgenhpakaa
namespace Go.Proofs.Ytdidopgenhpakaa
open Go.RowKit
set_option linter.unusedVariables false
set_option linter.unusedSimpArgs false
theorem ti_zero (w : World) : TI w w.heap.size Zn zeroT := .mk (N := Zn) (R := []) (ts := []) (ND := fun _ => default) zn_ok rfl (fun h => absurd rfl h) (by simp) rfl (fun h => by simp at h) (fun i hi => by simp at hi)
set_option maxRecDepth 100000 in
set_option maxHeartbeats 8000000 in
theorem rsimp33 {w : World} {N : Nv} {t : Tn} (h : TI w w.heap.size N t) : Calls Try.prog 33 #[N.v] w fun e w' => ∃ M, e = .returned (.tuple #[Nv.v M, .int .i64 (errS t)]) ∧ TI w' w'.heap.size M (simT t) ∧ Below w.heap.size w w' := by
  obtain ⟨W, hW⟩ : ∃ W, W = (w.alloc (.cells #[.int .i64 N.k, .slice N.r1 N.r2 N.r3, .int .i64 N.a2, .slice N.s1 N.s2 N.s3, .int .i64 N.a4, .int .i64 N.a5, .bool N.a6, .int .i64 N.a7, .string N.a8] 25)).alloc (.cells #[.int .i64 0, .slice none 0 0, .int .i64 0, .slice none 0 0, .int .i64 0, .int .i64 0, .bool false, .int .i64 0, .string ⟨#[]⟩] 25) := ⟨_, rfl⟩
  have hbW : Below w.heap.size w W := by rw [hW]; exact below_two' w _ _
  have hsW : W.heap.size = w.heap.size + 2 := by rw [hW]; simp
  have hX : BN W w.heap.size N := by rw [hW]; exact (heap_alloc_old _ _ (by simp)).trans (heap_alloc_new w _)
  have hY : BN W (w.heap.size + 1) Zn := by rw [hW]; exact two_new w _ _ _
  have hTI : TI W w.heap.size N t := h.kept fun b hb => hbW.block b hb
  have HC := sound25 (hTI.le (by omega))
  obtain ⟨x, hx⟩ : ∃ x, x = w.heap.size := ⟨_, rfl⟩
  rw [← hx] at hX hY hsW
  obtain ⟨k, r1, r2, r3, a2, s1, s2, s3, a4, a5, a6, a7, a8⟩ := N
  obtain ⟨q0, q1, q2, q3, q4, q5, q6, q7, q8⟩ := nine' hX
  have HX := hid hX
  have HY := hid hY
  have HBW := hid hbW
  have HSW := hid hsW
  have HXE := hid hx
  have HTI := hid hTI
  dsimp only at HC hW q0 q1 q2 q3 q4 q5 q6 q7 q8
  by_cases hsd : t.sound = true
  · rw [hsd] at HC
    simp only [if_true] at HC
    have HSO := hid hsd
    simp only [Tn.sound, Bool.and_eq_true, decide_eq_true_eq] at hsd
    have HFO := hid (reckon50 HTI.out hsd.1.1 (by omega))
    have HSD := hid hsd
    clear hX hY hbW hsW hTI h hsd
    go_enter Try.func33, Try.ntmps33
    go_upto_region 1 with fail
    rw [← hx, ← hW]
    clear hW hx
    obtain ⟨T, hT⟩ : ∃ T, T = sumOf 1099511627776 t.S := ⟨_, rfl⟩
    have HT := hid hT
    clear hT
    go_upto_region 4 with (first | (go_at_call 22; (with_reducible refine HC.mono ?_); rintro e w2 ⟨rfl, hb2⟩; have hX2 := (hb2.block x (by have := HSW.out; omega)).trans HX.out; clear q0 q1 q2 q3 q4 q5 q6 q7 q8; obtain ⟨q0, q1, q2, q3, q4, q5, q6, q7, q8⟩ := nine' hX2; have HC2 := HFO.out w2 (by have := HXE.out; have := HSW.out; have := hb2.size; omega) (fun c hc => hb2.block c (by have := HXE.out; have := HSW.out; omega)); rw [← HT.out] at HC2; have HB2 := hid hb2; clear hb2 hX2 HC))
    go_upto_region 5 with (first | (go_at_call 50; (with_reducible refine HC2.mono ?_); rintro e w3 ⟨rfl, hb3⟩; have HB3 := hid hb3; clear hb3 HC2))
    obtain ⟨V, hV⟩ : ∃ V, V = w3.alloc (.cells T.c 80) := ⟨_, rfl⟩
    rw [← hV]
    have hz2 : W.heap.size ≤ w2.heap.size := HB2.out.size
    have hz3 : w2.heap.size ≤ w3.heap.size := HB3.out.size
    have hVb : Below w3.heap.size w3 V := by rw [hV]; exact Joins.below_alloc1 w3 _
    have hVs : V.heap.size = w3.heap.size + 1 := by rw [hV]; simp
    have hV4 : V.heap[w3.heap.size]? = some (.cells T.c 80 (0, 0)) := by rw [hV]; exact heap_alloc_new w3 _
    have c1 : V.cell? ⟨w3.heap.size, 1, none⟩ = some (.int .i64 (T.n : Int)) := Joins.cell_of_block hV4 1
    have c3 : V.cell? ⟨w3.heap.size, 3, none⟩ = some (.int .i64 (T.d : Int)) := Joins.cell_of_block hV4 3
    have hWV : Below W.heap.size W V := (HB2.out.trans (Joins.below_le HB3.out hz2)).trans (Joins.below_le hVb (by omega))
    have hVN := (hWV.block x (by have := HSW.out; omega)).trans HX.out
    have hVZ := (hWV.block (x + 1) (by have := HSW.out; omega)).trans HY.out
    have HVB := hid (HBW.out.trans (Joins.below_le hWV HBW.out.size))
    have HVN := hid hVN
    have HVZ := hid hVZ
    have HVW := hid (hWV.size)
    have HTV : Hid (TI V w.heap.size ⟨k, r1, r2, r3, a2, s1, s2, s3, a4, a5, a6, a7, a8⟩ t) := HTI.out.kept fun b hb => hWV.block b (by have := HXE.out; have := HSW.out; omega)
    obtain ⟨z5, hz5⟩ : ∃ z5, z5 = w3.heap.size := ⟨_, rfl⟩
    rw [← hz5] at c1 c3 ⊢
    clear q0 q1 q2 q3 q4 q5 q6 q7 q8 hV hVb hVs hV4 hWV hz5 HB3 HB2 HTI hz2 hz3
    obtain ⟨m, hm⟩ : ∃ m, m = T.n := ⟨_, rfl⟩
    obtain ⟨d, hd⟩ : ∃ d, d = T.d := ⟨_, rfl⟩
    rw [← hm] at c1
    rw [← hd] at c3
    have em : m = min t.S.nodes 1099511627776 := by rw [hm, HT.out]; rfl
    have ed : d = t.S.depth := by rw [hd, HT.out]; rfl
    by_cases hbig : t.bigS = true
    · have herr : errS t = 3 := by unfold errS; rw [HSO.out, hbig]; rfl
      have HSE : Hid (simT t = zeroT) := by unfold simT; rw [herr]; rfl
      have HER := hid herr
      obtain ⟨p0, p1, p2, p3, p4, p5, p6, p7, p8⟩ := nine' hVZ
      have f0 := Joins.unfrozen_of_block hVZ 0
      have f1 := Joins.unfrozen_of_block hVZ 1
      have f2 := Joins.unfrozen_of_block hVZ 2
      have f3 := Joins.unfrozen_of_block hVZ 3
      have f4 := Joins.unfrozen_of_block hVZ 4
      have f5 := Joins.unfrozen_of_block hVZ 5
      have f6 := Joins.unfrozen_of_block hVZ 6
      have f7 := Joins.unfrozen_of_block hVZ 7
      have f8 := Joins.unfrozen_of_block hVZ 8
      clear herr hVN hVZ
      simp only [Tn.bigS, Bool.or_eq_true, decide_eq_true_eq] at hbig
      by_cases hn : 200000 < m
      · have g1 : decide ((200000 : Int) < (m : Int)) = true := by simp; omega
        clear hbig hm hd hn em ed
        go_wp2
        all_goals
          obtain ⟨y1, y2, y3⟩ := tail_nine Zn HVZ.out
          refine bodyPost_ret (results_cell_tmp rfl _ _ (x + 1) 25 _ (0, 0) _ rfl y1 Try.underlying25 rfl (by kernel_rfl)) rfl ?_
          exact ⟨Zn, (by rw [HER.out]; rfl), by rw [HSE.out]; exact ti_zero _, y3 _ _ HVB.out (by have := HXE.out; omega)⟩
      · have g1 : decide ((200000 : Int) < (m : Int)) = false := by simp; omega
        have g2 : decide ((10000 : Int) < (d : Int)) = true := by
          simp
          have : ¬ 200000 < t.S.nodes := fun h => hn (by omega)
          omega
        clear hbig hm hd hn em ed
        go_wp2
        all_goals
          obtain ⟨y1, y2, y3⟩ := tail_nine Zn HVZ.out
          refine bodyPost_ret (results_cell_tmp rfl _ _ (x + 1) 25 _ (0, 0) _ rfl y1 Try.underlying25 rfl (by kernel_rfl)) rfl ?_
          exact ⟨Zn, (by rw [HER.out]; rfl), by rw [HSE.out]; exact ti_zero _, y3 _ _ HVB.out (by have := HXE.out; omega)⟩
    · have hbig' : t.bigS = false := by simpa using hbig
      have herr : errS t = 0 := by unfold errS; rw [HSO.out, hbig']; rfl
      have HSE : Hid (simT t = t.S) := by unfold simT; rw [herr]; rfl
      have HER := hid herr
      simp only [Tn.bigS, Bool.or_eq_false_iff, decide_eq_false_iff_not] at hbig'
      have g1 : decide ((200000 : Int) < (m : Int)) = false := by simp; omega
      have g2 : decide ((10000 : Int) < (d : Int)) = false := by simp; omega
      have hwV : w.heap.size ≤ V.heap.size := HVB.out.size
      have HC3 := form51 HTV.out HSD.out.1.1 HSD.out.2 (by omega) V hwV (fun _ _ => rfl)
      have hxy : x + 1 < V.heap.size := by have := HSW.out; have := HVW.out; omega
      obtain ⟨q0, q1, q2, q3, q4, q5, q6, q7, q8⟩ := nine' hVN
      clear herr hVN hVZ hbig hbig' hm hd em ed
      go_wp2_with (first | (go_at_call 51; (with_reducible refine HC3.mono ?_); rintro e w4 ⟨M, rfl, hM, hb4⟩; have hY4 := (hb4.block (x + 1) hxy).trans HVZ.out; obtain ⟨p0, p1, p2, p3, p4, p5, p6, p7, p8⟩ := nine' hY4; have f0 := Joins.unfrozen_of_block hY4 0; have f1 := Joins.unfrozen_of_block hY4 1; have f2 := Joins.unfrozen_of_block hY4 2; have f3 := Joins.unfrozen_of_block hY4 3; have f4 := Joins.unfrozen_of_block hY4 4; have f5 := Joins.unfrozen_of_block hY4 5; have f6 := Joins.unfrozen_of_block hY4 6; have f7 := Joins.unfrozen_of_block hY4 7; have f8 := Joins.unfrozen_of_block hY4 8; have HY4 := hid hY4; have HM := hid hM; have HB4 := hid hb4; clear hM hb4 hY4 HC3))
      all_goals
        obtain ⟨y1, y2, y3⟩ := tail_nine M HY4.out
        refine bodyPost_ret (results_cell_tmp rfl _ _ (x + 1) 25 _ (0, 0) _ rfl y1 Try.underlying25 rfl (by kernel_rfl)) rfl ?_
        have hxe := HXE.out
        have hs4 := HB4.out.size
        have hbb := y3 _ _ (Below.refl 0 w4) (Nat.zero_le _)
        refine ⟨M, (by rw [HER.out]; rfl), ?_, y3 _ _ (HVB.out.trans (Joins.below_le HB4.out hwV)) (by omega)⟩
        rw [HSE.out]
        have hT := HM.out.kept (A' := New (fun b => b < w.heap.size) V w4) (fun c hc => y2 c (by rcases hc with h | h <;> omega)) fun c hc => hc
        exact hT.ti fun c hc => Nat.lt_of_lt_of_le (by rcases hc with h | h <;> omega) hbb.size
  · have hsd' : t.sound = false := by simpa using hsd
    rw [hsd'] at HC
    simp only [Bool.false_eq_true, if_false] at HC
    have herr : errS t = 50 := by unfold errS; rw [hsd']; rfl
    have HSE : Hid (simT t = zeroT) := by unfold simT; rw [herr]; rfl
    have HER := hid herr
    clear hX hY hbW hsW hTI h hsd hsd' herr
    go_enter Try.func33, Try.ntmps33
    go_upto_region 1 with fail
    rw [← hx, ← hW]
    clear hW hx
    go_wp2_with (first | (go_at_call 22; (with_reducible refine HC.mono ?_); rintro e w4 ⟨rfl, hb4⟩; have hY4 := (hb4.block (x + 1) (by have := HSW.out; omega)).trans HY.out; clear q0 q1 q2 q3 q4 q5 q6 q7 q8; have f0 := Joins.unfrozen_of_block hY4 0; have f1 := Joins.unfrozen_of_block hY4 1; have f2 := Joins.unfrozen_of_block hY4 2; have f3 := Joins.unfrozen_of_block hY4 3; have f4 := Joins.unfrozen_of_block hY4 4; have f5 := Joins.unfrozen_of_block hY4 5; have f6 := Joins.unfrozen_of_block hY4 6; have f7 := Joins.unfrozen_of_block hY4 7; have f8 := Joins.unfrozen_of_block hY4 8; obtain ⟨q0, q1, q2, q3, q4, q5, q6, q7, q8⟩ := nine' hY4; have HY4 := hid hY4; have HB4 := hid hb4; clear hb4 hY4 HC))
    all_goals
      obtain ⟨y1, y2, y3⟩ := tail_nine Zn HY4.out
      refine bodyPost_ret (results_cell_tmp rfl _ _ (x + 1) 25 _ (0, 0) _ rfl y1 Try.underlying25 rfl (by kernel_rfl)) rfl ?_
      exact ⟨Zn, (by rw [HER.out]; rfl), by rw [HSE.out]; exact ti_zero _, y3 _ _ (HBW.out.trans (Joins.below_le HB4.out HBW.out.size)) (by have := HXE.out; omega)⟩
end Go.Proofs.Ytdidopgenhpakaa
