/- HELPERS: all lists of trees that came out, in memory; a tree's lists are added. -/
import Derived.Test.YtilpkeipjlnogaaTd2
namespace Go.Proofs.Ytilpkeipjlnogaa
open Go.RowKit
set_option linter.unusedVariables false
set_option linter.unusedSimpArgs false
mutual
/-- no list of ranges is longer than a class may be -/
def Tn.few : Tn → Bool
  | .mk _ R _ s _ _ _ _ _ => decide (R.length ≤ 5000) && fewL s
def fewL : List Tn → Bool
  | [] => true
  | t :: ts => t.few && fewL ts
end
theorem fewL_get {ts : List Tn} (h : fewL ts = true) : ∀ (i : Nat) (hi : i < ts.length), ts[i].few = true := by
  induction ts with
  | nil => intro i hi; simp at hi
  | cons t ts ih =>
    simp only [fewL, Bool.and_eq_true] at h
    intro i hi
    cases i with
    | zero => exact h.1
    | succ i => exact ih h.2 i (by simpa using hi)
mutual
theorem few_of_fine : ∀ t : Tn, t.fine = true → t.few = true
  | .mk k R a s mn mx lz ix nm, h => by
    simp only [Tn.fine, Bool.and_eq_true] at h
    simp only [Tn.few, Bool.and_eq_true, decide_eq_true_eq]
    have FN := fine_node h.1
    refine ⟨?_, fewL_of_fine s h.2⟩
    by_cases h2 : k = 2
    · exact rightB_len (FN.cls h2)
    · have := FN.rng h2; omega
theorem fewL_of_fine : ∀ ts : List Tn, fineL ts = true → fewL ts = true
  | [], _ => rfl
  | t :: ts, h => by
    simp only [fineL, Bool.and_eq_true] at h
    simp only [fewL, Bool.and_eq_true]
    exact ⟨few_of_fine t h.1, fewL_of_fine ts h.2⟩
end
/-- what has a block of its own -/
inductive Ky where
  | l
  | a
  | b
  | r (i : Nat)
  | s (i : Nat)
def Ky.ok (n : Nat) : Ky → Prop
  | .r i => i < n
  | .s i => i < n
  | _ => True
def bkO (lb : Nat) (v0 v1 : Value) (RV SV : Nat → Value) : Ky → Option Nat
  | .l => some lb
  | .a => v0.ownBlock
  | .b => v1.ownBlock
  | .r i => (RV i).ownBlock
  | .s i => (SV i).ownBlock
/-- the lists, each in a block by itself -/
structure ST (w : World) (lb n : Nat) (v0 v1 : Value) (RV SV : Nat → Value) (ln lm : Nat → Nat) (XR XS : Nat → List Value) (Bd : Nat) : Prop where
  ob : w.heap[lb]? = some (.cells #[v0, v1] 38 (0, 0))
  r0 : w.ownsRow 0 22 1 v0 n ((List.range n).map RV)
  r1 : w.ownsRow 0 23 1 v1 n ((List.range n).map SV)
  lr : ∀ i, i < n → w.ownsRow 0 53 2 (RV i) (ln i) (XR i)
  ls : ∀ i, i < n → w.ownsRow 0 25 9 (SV i) (lm i) (XS i)
  dd : ∀ p q b, p.ok n → q.ok n → bkO lb v0 v1 RV SV p = some b → bkO lb v0 v1 RV SV q = some b → p = q
  bd : ∀ i, i < n → ln i ≤ Bd ∧ lm i ≤ Bd
theorem ST.low {w : World} {lb n : Nat} {v0 v1 : Value} {RV SV : Nat → Value} {ln lm : Nat → Nat} {XR XS : Nat → List Value} {Bd : Nat} (h : ST w lb n v0 v1 RV SV ln lm XR XS Bd) : ∀ p b, p.ok n → bkO lb v0 v1 RV SV p = some b → b < w.heap.size := by
  intro p b hp hb
  cases p with
  | l => simp [bkO] at hb; subst hb; exact (Array.getElem?_eq_some_iff.1 h.ob).1
  | a => exact (h.r0.lt b hb).2
  | b => exact (h.r1.lt b hb).2
  | r i => exact ((h.lr i hp).lt b hb).2
  | s i => exact ((h.ls i hp).lt b hb).2
theorem ST.kept {w w' : World} {lb n : Nat} {v0 v1 : Value} {RV SV : Nat → Value} {ln lm : Nat → Nat} {XR XS : Nat → List Value} {Bd : Nat} (h : ST w lb n v0 v1 RV SV ln lm XR XS Bd) (hk : ∀ p b, p.ok n → bkO lb v0 v1 RV SV p = some b → w'.heap[b]? = w.heap[b]?) : ST w' lb n v0 v1 RV SV ln lm XR XS Bd :=
  ⟨(hk .l lb trivial rfl).trans h.ob, row_kept h.r0 (fun b hb => hk .a b trivial hb), row_kept h.r1 (fun b hb => hk .b b trivial hb), fun i hi => row_kept (h.lr i hi) (fun b hb => hk (.r i) b hi hb), fun i hi => row_kept (h.ls i hi) (fun b hb => hk (.s i) b hi hb), h.dd, h.bd⟩
theorem step_append_row {P : Program} {ops : Array Oper} {o : Oper} {a : Act} {w : World} {K : Act → World → Prop} {Q : Exit → Act → World → Prop} {E : Prop}
    (hg : o.guard = none) (s x : Operand) (t : TypeId) (hop : o.op = Op.call { callee := Callee.builtin Builtin.append, args := #[s, x], argTypes := #[t, t] })
    (base : Nat) (e : TypeId) (i : TypeInfo) (z : Value) (size bytes : Nat) (h1 : P.underlying t = some (.slice e)) (h2 : P.info? e = some i) (h3 : i.zero = some z) (h4 : i.size = size) (h5 : i.bytes = bytes) (h6 : z.cells.size = size) (h7 : 0 < size)
    (v : Value) (n : Nat) (xs : List Value) (hs : a.eval s = v) (hown : w.ownsRow base e size v n xs)
    (b m c : Nat) (arr : Array Value) (te : TypeId) (hx : a.eval x = .slice (some ⟨b, 0, none⟩) m c) (hb' : w.heap[b]? = some (.cells arr te (0, 0))) (hn : arr.size = m * size) (hm : 0 < m) (h1c : ∀ u ∈ arr.toList, u.oneCell' = true)
    (b1 : n + m ≤ maxLen) (b2 : (n + m) * bytes ≤ 140737488355328) (hb : base ≤ w.heap.size)
    (hK : ∀ v' w', Hid (w'.ownsRow base e size v' (n + m) (xs ++ arr.toList)) → Hid (Frm w w' v v') → K (a.put o.dst v') w') :
    if Region.wanted o (yielded ops a.tmps) = true then Oper.wp P o a w K Q else E :=
  step_append_moveN hg s x t hop base e i z size bytes h1 h2 h3 h4 h5 h6 h7 v n xs hs hown ⟨b, 0, none⟩ m c arr.toList hx (by simpa using hn) hm (fun j u hj => by rw [Addr.add_mid, Nat.zero_add, Joins.cell_of_block hb']; simpa using hj) h1c b1 b2 hb (fun v' w' r1 r2 => hK v' w' r1 r2.frm)
theorem info22 : (Try.prog.info? 22).map (fun i => (i.zero, i.size, i.bytes)) = some (some (.slice none 0 0), 1, 24) := by kernel_rfl
theorem info23 : (Try.prog.info? 23).map (fun i => (i.zero, i.size, i.bytes)) = some (some (.slice none 0 0), 1, 24) := by kernel_rfl
theorem map_snoc (i : Nat) (f : Nat → Value) (v : Value) : (List.range (i + 1)).map (fun j => if j = i then v else f j) = (List.range i).map f ++ [v] := by
  rw [List.range_succ, List.map_append]
  congr 1
  · apply List.map_congr_left
    intro j hj
    rw [if_neg (by have := List.mem_range.1 hj; omega)]
  · simp
theorem nodesL_app (a b : List Tn) : nodesL (a ++ b) = nodesL a + nodesL b := by
  induction a with
  | nil => simp [nodesL]
  | cons x a ih => simp only [List.cons_append, nodesL, ih]; omega
theorem nodesL_take (ts : List Tn) (i : Nat) (hi : i < ts.length) : nodesL (ts.take (i + 1)) = nodesL (ts.take i) + ts[i].nodes := by
  rw [List.take_succ_eq_append_getElem hi, nodesL_app]
  simp [nodesL]
theorem nodesL_take_le (ts : List Tn) (i : Nat) : nodesL (ts.take i) ≤ nodesL ts := by
  have h := nodesL_app (ts.take i) (ts.drop i)
  rw [List.take_append_drop] at h
  omega
set_option maxRecDepth 100000 in
set_option maxHeartbeats 8000000 in
theorem add17 {w0 : World} {N : Nv} {t : Tn} {A : Nat → Prop} (h : TO w0 N t A) : ∀ (w : World) (lb n : Nat) (v0 v1 : Value) (RV SV : Nat → Value) (ln lm : Nat → Nat) (XR XS : Nat → List Value), (∀ b, A b → w.heap[b]? = w0.heap[b]?) → ST w lb n v0 v1 RV SV ln lm XR XS 1000000 → (∀ p b, p.ok n → bkO lb v0 v1 RV SV p = some b → ¬ A b) → n + t.nodes ≤ 1000000 → t.few = true →
    Calls Try.prog 17 #[pt lb, N.v] w fun e w' => e = .returned (.tuple #[]) ∧ (∃ v0' v1' RV' SV' ln' lm' XR' XS', ST w' lb (n + t.nodes) v0' v1' RV' SV' ln' lm' XR' XS' 1000000 ∧ (∀ p b, p.ok (n + t.nodes) → bkO lb v0' v1' RV' SV' p = some b → (∃ q, q.ok n ∧ bkO lb v0 v1 RV SV q = some b) ∨ A b ∨ w.heap.size ≤ b) ∧ (∀ b, v0'.ownBlock = some b → v0.ownBlock = some b ∨ w.heap.size ≤ b) ∧ (∀ b, v1'.ownBlock = some b → v1.ownBlock = some b ∨ w.heap.size ≤ b)) ∧
      Chs (fun b => bkO lb v0 v1 RV SV .l = some b ∨ bkO lb v0 v1 RV SV .a = some b ∨ bkO lb v0 v1 RV SV .b = some b) w w' := by
  induction h with
  | @mk N R ts ND AS ok hRk rr sr hk d1 d2 d3 ih =>
  intro w lb n v0 v1 RV SV ln lm XR XS hw hST hdis hno hf
  simp only [Tn.nodes] at hno ⊢
  simp only [Tn.few, Bool.and_eq_true, decide_eq_true_eq] at hf
  have HFG := hid (fewL_get hf.2)
  have hR5 : R.length ≤ 5000 := hf.1
  clear hf
  have hlen : ts.length ≤ 1000000 := by have := nodes_ge ts; omega
  have hrr := row_kept rr (w' := w) (fun b hb => hw b (.inl hb))
  have hsr := row_kept sr (w' := w) (fun b hb => hw b (.inr (.inl hb)))
  have e1 := row_len hrr
  have e2 := row_len hsr
  obtain ⟨k, r1, r2, r3, a2, s1, s2, s3, a4, a5, a6, a7, a8⟩ := N
  dsimp only at hrr hsr e1 e2 d2 d3 hw hdis
  obtain ⟨i2, hi2, hz20, hz21, hz22⟩ := info_parts info22
  obtain ⟨i3, hi3, hz30, hz31, hz32⟩ := info_parts info23
  obtain ⟨a0, c0, hv0, hc0⟩ := row_shape hST.r0
  obtain ⟨a1, c1, hv1, hc1⟩ := row_shape hST.r1
  subst hv0 hv1
  have hlbl : lb < w.heap.size := (Array.getElem?_eq_some_iff.1 hST.ob).1
  have HST := hid hST
  have HRR := hid hrr
  have HSR := hid hsr
  have HDIS := hid hdis
  have HE1 := hid e1
  have HE2 := hid e2
  have HD1 := hid d1
  have HD2 := hid d2
  have HD3 := hid d3
  have HK := hid hk
  have HIH := hid ih
  have HWA := hid hw
  have HNO := hid hno
  clear hST hrr hsr hdis hc0 hc1 e1 e2 d1 d2 d3 hk ih hw rr sr ok hRk
  go_enter Try.func17, Try.ntmps17
  go_upto_region 1 with fail
  obtain ⟨W, hW⟩ : ∃ W, W = w.alloc (.cells #[.int .i64 k, .slice r1 r2 r3, .int .i64 a2, .slice s1 s2 s3, .int .i64 a4, .int .i64 a5, .bool a6, .int .i64 a7, .string a8] 25) := ⟨_, rfl⟩
  rw [← hW]
  have HX : Hid (BxN W w.heap.size ⟨k, r1, r2, r3, a2, s1, s2, s3, a4, a5, a6, a7, a8⟩) := by rw [hW]; exact heap_alloc_new w _
  have hbW : Below w.heap.size w W := by rw [hW]; exact Joins.below_alloc1 w _
  have hsW : W.heap.size = w.heap.size + 1 := by rw [hW]; simp
  have HBW := hid hbW
  have HSW := hid hsW
  have hSTW : ST W lb n (.slice a0 n c0) (.slice a1 n c1) RV SV ln lm XR XS 1000000 := HST.out.kept fun p b hp hb => hbW.block b (HST.out.low p b hp hb)
  have HSTW := hid hSTW
  obtain ⟨x, hx⟩ : ∃ x, x = w.heap.size := ⟨_, rfl⟩
  rw [← hx] at HX hsW ⊢
  have HXE := hid hx
  have hlbW : lb < W.heap.size := by omega
  have hxW : x < W.heap.size := by omega
  have hlx : lb ≠ x := by omega
  clear hW hbW hx hsW
  go_cut [] from 5 (fun wx => ∃ a0' c0', Hid (wx.heap[lb]? = some (.cells #[.slice a0' (n + 1) c0', .slice a1 n c1] 38 (0, 0))) ∧ Hid (wx.ownsRow 0 22 1 (.slice a0' (n + 1) c0') (n + 1) ((List.range n).map RV ++ [.slice r1 r2 r3])) ∧ Hid (Chs (fun b => b = lb ∨ (Value.slice a0 n c0).ownBlock = some b) W wx) ∧ Hid (∀ b, (Value.slice a0' (n + 1) c0').ownBlock = some b → (Value.slice a0 n c0).ownBlock = some b ∨ W.heap.size ≤ b))
  case first =>
    obtain ⟨o0, o1, o2, o3, o4, o5, o6, o7, o8⟩ := nine' HX.out
    have l0 : W.cell? ⟨lb, 0, none⟩ = some (.slice a0 n c0) := Joins.cell_of_block hSTW.ob 0
    have HR0 : Hid ((W.drew.alloc (.cells #[.slice r1 r2 r3] 22)).ownsRow 0 22 1 (.slice a0 n c0) n ((List.range n).map RV)) := (hSTW.r0.drew).alloc _
    have hne : (Value.slice a0 n c0).ownBlock ≠ some lb := fun h => by have := hSTW.dd .a .l lb trivial trivial h rfl; cases this
    clear hSTW
    go_region_law (refine step_append_row rfl (.tmp 9) (.tmp 12) 35 rfl 0 22 i2 (.slice none 0 0) 1 24 Try.underlying35 hi2 hz20 hz21 hz22 rfl (by decide) (.slice a0 n c0) n ((List.range n).map RV) (by simp [Act.eval, Act.put]) (by exact HR0.out) W.heap.size 1 1 #[.slice r1 r2 r3] 22 (by simp [Act.eval, Act.put]) (by exact heap_alloc_new W.drew _) rfl (by decide) (by simp [Value.oneCell']) (by unfold maxLen; omega) (by omega) (by omega) ?_; intro v3 w3 ho3 hf3; obtain ⟨y1, y3, rfl, _⟩ := row_shape ho3.out; have hlb3 : w3.heap[lb]? = some (.cells #[.slice a0 n c0, .slice a1 n c1] 38 (0, 0)) := (hf3.out.block lb (by (try simp) <;> omega) hne).trans ((heap_alloc_old _ _ (by (try simp) <;> omega)).trans HSTW.out.ob); have l3 : w3.cell? ⟨lb, 0, none⟩ = some (.slice a0 n c0) := Joins.cell_of_block hlb3 0; have f3 := Joins.unfrozen_of_block hlb3 0; have HLB3 := hid hlb3; clear hlb3)
    all_goals go_wp2_with fail
    all_goals go_meet
    all_goals
      have hz3 : W.heap.size + 1 ≤ w3.heap.size := by have := hf3.out.size; simpa using this
      refine ⟨y1, y3, Joins.block_setCell (i := 0) HLB3.out _, ?_, ⟨hf3.out.os, hf3.out.tape, hf3.out.output, by simp [World.setCell]; omega, fun b hb hn => ?_⟩, fun b hb => ?_⟩
      · refine own_setCell ?_ (fun h => ?_)
        · exact ho3.out
        · rcases hf3.out.own _ h with h1 | h1
          · exact hne h1
          · simp at h1; omega
      · exact (Below.heap_setCell _ _ _ _ (fun e => hn (.inl e))).trans ((hf3.out.block b (by (try simp) <;> omega) (fun h => hn (.inr h))).trans (heap_alloc_old _ _ (by (try simp) <;> omega)))
      · rcases hf3.out.own b hb with h1 | h1
        · exact .inl h1
        · right; simp at h1; omega
  case rest =>
    clear hSTW
    obtain ⟨a0', c0', HL1, HR1, HC1, HO1⟩ := hcut
    obtain ⟨V1, rfl⟩ : ∃ V1, V1 = wc := ⟨_, rfl⟩
    have hlbc : lb < V1.heap.size := (Array.getElem?_eq_some_iff.1 HL1.out).1
    have hWc : W.heap.size ≤ V1.heap.size := HC1.out.size
    have hxa : (Value.slice a0 n c0).ownBlock ≠ some x := fun h => by have := HST.out.low .a x trivial h; have := HXE.out; omega
    have hxb : (Value.slice a1 n c1).ownBlock ≠ some x := fun h => by have := HST.out.low .b x trivial h; have := HXE.out; omega
    have HXc : Hid (BxN V1 x ⟨k, r1, r2, r3, a2, s1, s2, s3, a4, a5, a6, a7, a8⟩) := (HC1.out.block x hxW (by rintro (h | h); (exact hlx h.symm); (exact hxa h))).trans HX.out
    have hab : ∀ b, (Value.slice a0' (n + 1) c0').ownBlock = some b → (Value.slice a1 n c1).ownBlock ≠ some b := fun b h h' => by
      rcases HO1.out b h with h1 | h1
      · have := HSTW.out.dd .a .b b trivial trivial h1 h'; cases this
      · have := HSTW.out.low .b b trivial h'; omega
    have HAB := hid hab
    have HRB : Hid (V1.ownsRow 0 23 1 (.slice a1 n c1) n ((List.range n).map SV)) := row_kept HSTW.out.r1 (fun b hb => HC1.out.block b (HSTW.out.low .b b trivial hb) (by
      rintro (h | h)
      · have := HSTW.out.dd .b .l b trivial trivial hb (by rw [h]; rfl); cases this
      · have := HSTW.out.dd .a .b b trivial trivial h hb; cases this))
    clear hab
    go_upto_region 2 with fail
    go_cut [] from 5 (fun wx => ∃ a1' c1', Hid (wx.heap[lb]? = some (.cells #[.slice a0' (n + 1) c0', .slice a1' (n + 1) c1'] 38 (0, 0))) ∧ Hid (wx.ownsRow 0 23 1 (.slice a1' (n + 1) c1') (n + 1) ((List.range n).map SV ++ [.slice s1 s2 s3])) ∧ Hid (Chs (fun b => b = lb ∨ (Value.slice a1 n c1).ownBlock = some b) V1 wx) ∧ Hid (∀ b, (Value.slice a1' (n + 1) c1').ownBlock = some b → (Value.slice a1 n c1).ownBlock = some b ∨ V1.heap.size ≤ b))
    case first =>
      obtain ⟨o0, o1, o2, o3, o4, o5, o6, o7, o8⟩ := nine' HXc.out
      have l0 : V1.cell? ⟨lb, 1, none⟩ = some (.slice a1 n c1) := Joins.cell_of_block HL1.out 1
      have hxc : x < V1.heap.size := by omega
      have HR0 : Hid ((V1.drew.alloc (.cells #[.slice s1 s2 s3] 23)).ownsRow 0 23 1 (.slice a1 n c1) n ((List.range n).map SV)) := (HRB.out.drew).alloc _
      have hne : (Value.slice a1 n c1).ownBlock ≠ some lb := fun h => by have := HSTW.out.dd .b .l lb trivial trivial h rfl; cases this
      go_region_law (refine step_append_row rfl (.tmp 20) (.tmp 23) 36 rfl 0 23 i3 (.slice none 0 0) 1 24 Try.underlying36 hi3 hz30 hz31 hz32 rfl (by decide) (.slice a1 n c1) n ((List.range n).map SV) (by simp [Act.eval, Act.put]) (by exact HR0.out) V1.heap.size 1 1 #[.slice s1 s2 s3] 23 (by simp [Act.eval, Act.put]) (by exact heap_alloc_new V1.drew _) rfl (by decide) (by simp [Value.oneCell']) (by unfold maxLen; omega) (by omega) (by omega) ?_; intro v3 w3 ho3 hf3; obtain ⟨y1, y3, rfl, _⟩ := row_shape ho3.out; have hlb3 : w3.heap[lb]? = some (.cells #[.slice a0' (n + 1) c0', .slice a1 n c1] 38 (0, 0)) := (hf3.out.block lb (by (try simp) <;> omega) hne).trans ((heap_alloc_old _ _ (by (try simp) <;> omega)).trans HL1.out); have l3 : w3.cell? ⟨lb, 1, none⟩ = some (.slice a1 n c1) := Joins.cell_of_block hlb3 1; have f3 := Joins.unfrozen_of_block hlb3 1; have HLB3 := hid hlb3; clear hlb3)
      all_goals go_wp2_with fail
      all_goals go_meet
      all_goals
        have hz3 : V1.heap.size + 1 ≤ w3.heap.size := by have := hf3.out.size; simpa using this
        refine ⟨y1, y3, Joins.block_setCell (i := 1) HLB3.out _, ?_, ⟨hf3.out.os, hf3.out.tape, hf3.out.output, by simp [World.setCell]; omega, fun b hb hn => ?_⟩, fun b hb => ?_⟩
        · refine own_setCell ?_ (fun h => ?_)
          · exact ho3.out
          · rcases hf3.out.own _ h with h1 | h1
            · exact hne h1
            · simp at h1; omega
        · exact (Below.heap_setCell _ _ _ _ (fun e => hn (.inl e))).trans ((hf3.out.block b (by (try simp) <;> omega) (fun h => hn (.inr h))).trans (heap_alloc_old _ _ (by (try simp) <;> omega)))
        · rcases hf3.out.own b hb with h1 | h1
          · exact .inl h1
          · right; simp at h1; omega
    case rest =>
      obtain ⟨a1', c1', HL2, HR2, HC2, HO2⟩ := hcut
      have hV1c : V1.heap.size ≤ wc.heap.size := HC2.out.size
      have HNA : Hid (∀ b, (Value.slice a0' (n + 1) c0').ownBlock = some b → (Value.slice a0 n c0).ownBlock = some b ∨ x + 1 ≤ b) := fun b hb => (HO1.out b hb).imp id (fun h => by have := HSW.out; have := HXE.out; omega)
      have HNB : Hid (∀ b, (Value.slice a1' (n + 1) c1').ownBlock = some b → (Value.slice a1 n c1).ownBlock = some b ∨ x + 1 ≤ b) := fun b hb => (HO2.out b hb).imp id (fun h => by have := HSW.out; have := HXE.out; omega)
      have hkeep : ∀ b, b < x → bkO lb (.slice a0 n c0) (.slice a1 n c1) RV SV .l ≠ some b → bkO lb (.slice a0 n c0) (.slice a1 n c1) RV SV .a ≠ some b → bkO lb (.slice a0 n c0) (.slice a1 n c1) RV SV .b ≠ some b → wc.heap[b]? = w.heap[b]? := fun b hb h1 h2 h3 => by
        have hl : b ≠ lb := fun e => h1 (by rw [e]; rfl)
        have hbw : b < w.heap.size := by have := HXE.out; omega
        exact (HC2.out.block b (by have := HSW.out; have := HXE.out; omega) (by rintro (h | h); (exact hl h); (exact h3 h))).trans ((HC1.out.block b (by have := HSW.out; have := HXE.out; omega) (by rintro (h | h); (exact hl h); (exact h2 h))).trans (HBW.out.block b hbw))
      have hwlx : w.heap.size = x := HXE.out.symm
      have hAx : ∀ b, (Nv.rb ⟨k, r1, r2, r3, a2, s1, s2, s3, a4, a5, a6, a7, a8⟩ = some b ∨ Nv.sb ⟨k, r1, r2, r3, a2, s1, s2, s3, a4, a5, a6, a7, a8⟩ = some b ∨ ∃ i, i < ts.length ∧ AS i b) → b < x := fun b hb => by
        rcases hb with h | h | ⟨i, hi, h⟩
        · have := (HRR.out.lt b h).2; omega
        · have := (HSR.out.lt b h).2; omega
        · have h1 := (HK.out i hi).low b h
          have h2 := HWA.out b (.inr (.inr ⟨i, hi, h⟩))
          rw [Array.getElem?_eq_getElem h1] at h2
          have := (Array.getElem?_eq_some_iff.1 h2).1
          omega
      have hAn : ∀ b, (Nv.rb ⟨k, r1, r2, r3, a2, s1, s2, s3, a4, a5, a6, a7, a8⟩ = some b ∨ Nv.sb ⟨k, r1, r2, r3, a2, s1, s2, s3, a4, a5, a6, a7, a8⟩ = some b ∨ ∃ i, i < ts.length ∧ AS i b) → ∀ p, p.ok n → bkO lb (.slice a0 n c0) (.slice a1 n c1) RV SV p ≠ some b := fun b hb p hp h => HDIS.out p b hp h hb
      have hkA : ∀ b, (Nv.rb ⟨k, r1, r2, r3, a2, s1, s2, s3, a4, a5, a6, a7, a8⟩ = some b ∨ Nv.sb ⟨k, r1, r2, r3, a2, s1, s2, s3, a4, a5, a6, a7, a8⟩ = some b ∨ ∃ i, i < ts.length ∧ AS i b) → wc.heap[b]? = w.heap[b]? := fun b hb => hkeep b (hAx b hb) (hAn b hb .l trivial) (hAn b hb .a trivial) (hAn b hb .b trivial)
      have hlow1 : ∀ p b, p.ok n → bkO lb (.slice a0 n c0) (.slice a1 n c1) RV SV p = some b → b < x := fun p b hp h => by have := HST.out.low p b hp h; omega
      have hka : ∀ b, (Value.slice a0' (n + 1) c0').ownBlock = some b → wc.heap[b]? = V1.heap[b]? := fun b hb => HC2.out.block b (HR1.out.lt b hb).2 (by
        rintro (h | h)
        · rcases HO1.out b hb with h1 | h1
          · have := HST.out.dd .a .l b trivial trivial h1 (by rw [h]; rfl); cases this
          · omega
        · exact HAB.out b hb h)
      have hkey : ∀ p b, p.ok (n + 1) → bkO lb (.slice a0' (n + 1) c0') (.slice a1' (n + 1) c1') (fun j => if j = n then .slice r1 r2 r3 else RV j) (fun j => if j = n then .slice s1 s2 s3 else SV j) p = some b →
          (p.ok n ∧ bkO lb (.slice a0 n c0) (.slice a1 n c1) RV SV p = some b ∧ b < x) ∨ (p = .a ∧ x + 1 ≤ b ∧ b < V1.heap.size) ∨ (p = .b ∧ V1.heap.size ≤ b ∧ x + 1 ≤ b) ∨ (p = .r n ∧ Nv.rb ⟨k, r1, r2, r3, a2, s1, s2, s3, a4, a5, a6, a7, a8⟩ = some b) ∨ (p = .s n ∧ Nv.sb ⟨k, r1, r2, r3, a2, s1, s2, s3, a4, a5, a6, a7, a8⟩ = some b) := by
        intro p b hp hb
        cases p with
        | l => exact .inl ⟨trivial, hb, hlow1 .l b trivial hb⟩
        | a =>
          rcases HO1.out b hb with h | h
          · exact .inl ⟨trivial, h, hlow1 .a b trivial h⟩
          · exact .inr (.inl ⟨rfl, by have := HSW.out; omega, (HR1.out.lt b hb).2⟩)
        | b =>
          rcases HO2.out b hb with h | h
          · exact .inl ⟨trivial, h, hlow1 .b b trivial h⟩
          · exact .inr (.inr (.inl ⟨rfl, h, by have := HSW.out; omega⟩))
        | r i =>
          by_cases e : i = n
          · subst e
            simp only [bkO, if_pos] at hb
            exact .inr (.inr (.inr (.inl ⟨rfl, hb⟩)))
          · simp only [bkO, if_neg e] at hb
            have hi : i < n := by have : i < n + 1 := hp; omega
            exact .inl ⟨hi, hb, hlow1 (.r i) b hi hb⟩
        | s i =>
          by_cases e : i = n
          · subst e
            simp only [bkO, if_pos] at hb
            exact .inr (.inr (.inr (.inr ⟨rfl, hb⟩)))
          · simp only [bkO, if_neg e] at hb
            have hi : i < n := by have : i < n + 1 := hp; omega
            exact .inl ⟨hi, hb, hlow1 (.s i) b hi hb⟩
      have HST1 : Hid (ST wc lb (n + 1) (.slice a0' (n + 1) c0') (.slice a1' (n + 1) c1') (fun j => if j = n then .slice r1 r2 r3 else RV j) (fun j => if j = n then .slice s1 s2 s3 else SV j) (fun j => if j = n then R.length else ln j) (fun j => if j = n then ts.length else lm j) (fun j => if j = n then O2 R else XR j) (fun j => if j = n then ((List.range ts.length).map ND).flatMap Nv.cs else XS j) 1000000) := by
        refine ⟨HL2.out, ?_, ?_, fun i hi => ?_, fun i hi => ?_, fun p q b hp hq h1 h2 => ?_, fun i hi => ?_⟩
        · rw [map_snoc]; exact row_kept HR1.out hka
        · rw [map_snoc]; exact HR2.out
        · by_cases e : i = n
          · subst e; simp only [if_pos]; exact row_kept HRR.out (fun b hb => hkA b (.inl hb))
          · simp only [if_neg e]
            have hi' : i < n := by omega
            exact row_kept (HST.out.lr i hi') (fun b hb => hkeep b (hlow1 (.r i) b hi' hb) (fun h => by have := HST.out.dd .l (.r i) b trivial hi' h hb; cases this) (fun h => by have := HST.out.dd .a (.r i) b trivial hi' h hb; cases this) (fun h => by have := HST.out.dd .b (.r i) b trivial hi' h hb; cases this))
        · by_cases e : i = n
          · subst e; simp only [if_pos]; exact row_kept HSR.out (fun b hb => hkA b (.inr (.inl hb)))
          · simp only [if_neg e]
            have hi' : i < n := by omega
            exact row_kept (HST.out.ls i hi') (fun b hb => hkeep b (hlow1 (.s i) b hi' hb) (fun h => by have := HST.out.dd .l (.s i) b trivial hi' h hb; cases this) (fun h => by have := HST.out.dd .a (.s i) b trivial hi' h hb; cases this) (fun h => by have := HST.out.dd .b (.s i) b trivial hi' h hb; cases this))
        · rcases hkey p b hp h1 with ⟨u1, u2, u3⟩ | ⟨u1, u2, u3⟩ | ⟨u1, u2, u3⟩ | ⟨u1, u2⟩ | ⟨u1, u2⟩ <;> rcases hkey q b hq h2 with ⟨v1, v2, v3⟩ | ⟨v1, v2, v3⟩ | ⟨v1, v2, v3⟩ | ⟨v1, v2⟩ | ⟨v1, v2⟩ <;>
            first
              | omega
              | exact HST.out.dd p q b u1 v1 u2 v2
              | exact u1.trans v1.symm
              | exact absurd u2 (hAn b (.inl v2) p u1)
              | exact absurd u2 (hAn b (.inr (.inl v2)) p u1)
              | exact absurd v2 (hAn b (.inl u2) q v1)
              | exact absurd v2 (hAn b (.inr (.inl u2)) q v1)
              | exact absurd v2 (HD2.out b u2)
              | exact absurd u2 (HD2.out b v2)
              | (have := hAx b (.inl u2); omega)
              | (have := hAx b (.inr (.inl u2)); omega)
              | (have := hAx b (.inl v2); omega)
              | (have := hAx b (.inr (.inl v2)); omega)
        · by_cases e : i = n
          · subst e; simp only [if_pos]; exact ⟨by omega, hlen⟩
          · simp only [if_neg e]; exact HST.out.bd i (by omega)
      have HKEY := hid hkey
      have HAX := hid hAx
      have HKA := hid hkA
      have HKP := hid hkeep
      have HXd : Hid (BxN wc x ⟨k, r1, r2, r3, a2, s1, s2, s3, a4, a5, a6, a7, a8⟩) := (HC2.out.block x (by omega) (by rintro (h | h); (exact hlx h.symm); (exact hxb h))).trans HXc.out
      have hxc : x < wc.heap.size := by omega
      have HCH : Hid (Chs (fun b => bkO lb (.slice a0 n c0) (.slice a1 n c1) RV SV .l = some b ∨ bkO lb (.slice a0 n c0) (.slice a1 n c1) RV SV .a = some b ∨ bkO lb (.slice a0 n c0) (.slice a1 n c1) RV SV .b = some b) w wc) := ⟨HC2.out.os.trans (HC1.out.os.trans HBW.out.os), HC2.out.tape.trans (HC1.out.tape.trans HBW.out.tape), HC2.out.output.trans (HC1.out.output.trans HBW.out.output), by have := HSW.out; omega, fun b hb hn => hkeep b (by omega) (fun h => hn (.inl h)) (fun h => hn (.inr (.inl h))) (fun h => hn (.inr (.inr h)))⟩
      clear hkey hAx hkA hkeep HL1 HR1 HC1 HRB HL2 HR2 HC2 hka
      go_wp2_with fail
      go_loopw [4] (fun y wq => ∃ i : Nat, y = .int .i64 (i : Int) ∧ i ≤ s2 ∧ Hid (∃ (v0' v1' : Value) (RV' SV' : Nat → Value) (ln' lm' : Nat → Nat) (XR' XS' : Nat → List Value), ST wq lb (n + 1 + nodesL (ts.take i)) v0' v1' RV' SV' ln' lm' XR' XS' 1000000 ∧ (∀ p b, p.ok (n + 1 + nodesL (ts.take i)) → bkO lb v0' v1' RV' SV' p = some b → (∃ q, q.ok n ∧ bkO lb (.slice a0 n c0) (.slice a1 n c1) RV SV q = some b) ∨ Nv.rb ⟨k, r1, r2, r3, a2, s1, s2, s3, a4, a5, a6, a7, a8⟩ = some b ∨ Nv.sb ⟨k, r1, r2, r3, a2, s1, s2, s3, a4, a5, a6, a7, a8⟩ = some b ∨ (∃ j, j < i ∧ j < ts.length ∧ AS j b) ∨ x + 1 ≤ b) ∧ (∀ b, v0'.ownBlock = some b → bkO lb (.slice a0 n c0) (.slice a1 n c1) RV SV .a = some b ∨ x + 1 ≤ b) ∧ (∀ b, v1'.ownBlock = some b → bkO lb (.slice a0 n c0) (.slice a1 n c1) RV SV .b = some b ∨ x + 1 ≤ b)) ∧ Hid (BxN wq x ⟨k, r1, r2, r3, a2, s1, s2, s3, a4, a5, a6, a7, a8⟩) ∧ Hid (Chs (fun b => bkO lb (.slice a0 n c0) (.slice a1 n c1) RV SV .l = some b ∨ bkO lb (.slice a0 n c0) (.slice a1 n c1) RV SV .a = some b ∨ bkO lb (.slice a0 n c0) (.slice a1 n c1) RV SV .b = some b) w wq)) (fun y _ => s2 - (intOf y).toNat)
      case atStart =>
        refine ⟨0, rfl, by omega, ⟨_, _, _, _, _, _, _, _, by simpa [nodesL] using HST1.out, fun p b hp hb => ?_, HNA.out, HNB.out⟩, HXd.out, HCH.out⟩
        rcases HKEY.out p b (by simpa [nodesL] using hp) hb with ⟨u1, u2, u3⟩ | ⟨u1, u2, u3⟩ | ⟨u1, u2, u3⟩ | ⟨u1, u2⟩ | ⟨u1, u2⟩
        · exact .inl ⟨p, u1, u2⟩
        · exact .inr (.inr (.inr (.inr u2)))
        · exact .inr (.inr (.inr (.inr u3)))
        · exact .inr (.inl u2)
        · exact .inr (.inr (.inl u2))
      case round =>
        obtain ⟨i, rfl, hi, HS, HXq, HCq⟩ := hrel
        obtain ⟨o0, o1, o2, o3, o4, o5, o6, o7, o8⟩ := nine' HXq.out
        have hxr : x < wr.heap.size := (Array.getElem?_eq_some_iff.1 HXq.out).1
        by_cases hil : i < s2
        · have b1 : decide ((i : Int) < (s2 : Int)) = true := by simp; omega
          have b2 : (i : Int) < (s2 : Int) := by omega
          have hlt : i < ts.length := by rw [← HE2.out]; exact hil
          have ad1 : IntKind.i64.wrap ((i : Int) + 1) = (i : Int) + 1 := by simp [IntKind.wrap, IntKind.bits, IntKind.signed]; have := hlen; have := HE2.out; omega
          have hkw : ∀ b, (Nv.rb ⟨k, r1, r2, r3, a2, s1, s2, s3, a4, a5, a6, a7, a8⟩ = some b ∨ Nv.sb ⟨k, r1, r2, r3, a2, s1, s2, s3, a4, a5, a6, a7, a8⟩ = some b ∨ ∃ i, i < ts.length ∧ AS i b) → wr.heap[b]? = w.heap[b]? := fun b hb => HCq.out.block b (by have := HAX.out b hb; omega) (by
            rintro (h | h | h)
            · exact HDIS.out .l b trivial h hb
            · exact HDIS.out .a b trivial h hb
            · exact HDIS.out .b b trivial h hb)
          obtain ⟨bs, ebs, eown, h9⟩ := row_nine (row_kept HSR.out (fun b hb => hkw b (.inr (.inl hb)))) (by simp) (by omega)
          obtain ⟨n0, n1, n2, n3, n4, n5, n6, n7, n8⟩ := h9 i (by simpa using hlt)
          simp only [List.getElem_map, List.getElem_range, Nat.zero_add] at n0 n1 n2 n3 n4 n5 n6 n7 n8
          subst ebs
          obtain ⟨v0', v1', RV', SV', ln', lm', XR', XS', hs1, hs2, hs3, hs4⟩ := HS.out
          have htk : nodesL (ts.take (i + 1)) = nodesL (ts.take i) + ts[i].nodes := nodesL_take ts i hlt
          have hnl : n + 1 + nodesL (ts.take i) + ts[i].nodes ≤ 1000000 := by have := nodesL_take_le ts (i + 1); omega
          have HC := HIH.out i hlt wr lb (n + 1 + nodesL (ts.take i)) v0' v1' RV' SV' ln' lm' XR' XS' (fun b hb => (hkw b (.inr (.inr ⟨i, hlt, hb⟩))).trans (HWA.out b (.inr (.inr ⟨i, hlt, hb⟩)))) hs1 (fun p b hp hb hA => by
            rcases hs2 p b hp hb with ⟨q, hq, h⟩ | h | h | ⟨j, hj, hj2, h⟩ | h
            · exact HDIS.out q b hq h (.inr (.inr ⟨i, hlt, hA⟩))
            · exact (HD3.out i b hlt hA).1 h
            · exact (HD3.out i b hlt hA).2 h
            · exact HD1.out j i b hj2 hlt (by omega) h hA
            · have := HAX.out b (.inr (.inr ⟨i, hlt, hA⟩)); omega) hnl (HFG.out i hlt)
          have HS2 := hid hs2
          have HS3 := hid hs3
          have HS4 := hid hs4
          have HTK := hid htk
          obtain ⟨P, hP⟩ : ∃ P, P = ND i := ⟨_, rfl⟩
          rw [← hP] at HC n0 n1 n2 n3 n4 n5 n6 n7 n8
          clear hs1 hs2 hs3 hs4 htk hP h9 HS hkw eown
          go_wp2_with (first | (go_at_call 17; (with_reducible refine HC.mono ?_); rintro e w2 ⟨rfl, hex, hch⟩; have HEX := hid hex; have HCH2 := hid hch; clear hex hch HC))
          have hlbx : lb < x := by omega
          have hfr : ∀ b, (bkO lb v0' v1' RV' SV' .l = some b ∨ bkO lb v0' v1' RV' SV' .a = some b ∨ bkO lb v0' v1' RV' SV' .b = some b) → (bkO lb (.slice a0 n c0) (.slice a1 n c1) RV SV .l = some b ∨ bkO lb (.slice a0 n c0) (.slice a1 n c1) RV SV .a = some b ∨ bkO lb (.slice a0 n c0) (.slice a1 n c1) RV SV .b = some b) ∨ x + 1 ≤ b := by
            rintro b (h | h | h)
            · exact .inl (.inl h)
            · exact (HS3.out b h).imp (fun h => .inr (.inl h)) id
            · exact (HS4.out b h).imp (fun h => .inr (.inr h)) id
          have hxo : ¬ (bkO lb (.slice a0 n c0) (.slice a1 n c1) RV SV .l = some x ∨ bkO lb (.slice a0 n c0) (.slice a1 n c1) RV SV .a = some x ∨ bkO lb (.slice a0 n c0) (.slice a1 n c1) RV SV .b = some x) := by
            rintro (h | h | h)
            · simp [bkO] at h; omega
            · exact hxa h
            · exact hxb h
          refine ⟨⟨i + 1, by push_cast; rfl, by omega, ?_, (HCH2.out.block x hxr (fun h => (hfr x h).elim hxo (by omega))).trans HXq.out, ⟨HCH2.out.os.trans HCq.out.os, HCH2.out.tape.trans HCq.out.tape, HCH2.out.output.trans HCq.out.output, Nat.le_trans HCq.out.size HCH2.out.size, fun b hb hn => (HCH2.out.block b (by have := HCq.out.size; omega) (fun h => (hfr b h).elim hn (by omega))).trans (HCq.out.block b hb hn)⟩⟩, by simp [intOf]; omega⟩
          obtain ⟨v0'', v1'', RV'', SV'', ln'', lm'', XR'', XS'', g1, g2, g3, g4⟩ := HEX.out
          rw [HTK.out, ← Nat.add_assoc]
          refine ⟨v0'', v1'', RV'', SV'', ln'', lm'', XR'', XS'', g1, fun p b hp hb => ?_, fun b hb => ?_, fun b hb => ?_⟩
          · rcases g2 p b hp hb with ⟨q, hq, h⟩ | h | h
            · rcases HS2.out q b hq h with h | h | h | ⟨j, hj, hj2, h⟩ | h
              · exact .inl h
              · exact .inr (.inl h)
              · exact .inr (.inr (.inl h))
              · exact .inr (.inr (.inr (.inl ⟨j, by omega, hj2, h⟩)))
              · exact .inr (.inr (.inr (.inr h)))
            · exact .inr (.inr (.inr (.inl ⟨i, by omega, hlt, h⟩)))
            · exact .inr (.inr (.inr (.inr (by omega))))
          · rcases g3 b hb with h | h
            · exact HS3.out b h
            · exact .inr (by omega)
          · rcases g4 b hb with h | h
            · exact HS4.out b h
            · exact .inr (by omega)
        · have b1 : decide ((i : Int) < (s2 : Int)) = false := by simp; omega
          obtain rfl : i = s2 := by omega
          go_wp2
          go_end0
          obtain ⟨v0', v1', RV', SV', ln', lm', XR', XS', hs1, hs2, hs3, hs4⟩ := HS.out
          have htl : ts.take i = ts := by rw [HE2.out, List.take_length]
          rw [htl] at hs1 hs2
          rw [← Nat.add_assoc]
          refine ⟨rfl, ⟨v0', v1', RV', SV', ⟨ln', lm', XR', XS', hs1⟩, fun p b hp hb => ?_, fun b hb => (hs3 b hb).imp id (fun h => by omega), fun b hb => (hs4 b hb).imp id (fun h => by omega)⟩, HCq.out⟩
          rcases hs2 p b hp hb with h | h | h | ⟨j, hj, hj2, h⟩ | h
          · exact .inl h
          · exact .inr (.inl (.inl h))
          · exact .inr (.inl (.inr (.inl h)))
          · exact .inr (.inl (.inr (.inr ⟨j, hj2, h⟩)))
          · exact .inr (.inr (by omega))
end Go.Proofs.Ytilpkeipjlnogaa
