/- HELPERS: the groups of a tree. -/
import Derived.Test.YtilpkeipjlnogaaMo
namespace Go.Proofs.Ytilpkeipjlnogaa
open Go.RowKit
set_option linter.unusedVariables false
set_option linter.unusedSimpArgs false
/-- what an append onto a row of the call's own leaves of all else -/
structure Frm (w w' : World) (v v' : Value) : Prop where
  os : w'.os = w.os
  tape : w'.tape = w.tape
  output : w'.output = w.output
  size : w.heap.size ≤ w'.heap.size
  block : ∀ k, k < w.heap.size → v.ownBlock ≠ some k → w'.heap[k]? = w.heap[k]?
  own : ∀ k, v'.ownBlock = some k → v.ownBlock = some k ∨ k = w.heap.size
theorem Moved.frm {w w' : World} {v v' : Value} (h : Moved w w' v v') : Frm w w' v v' := by
  rcases h with ⟨e, h⟩ | ⟨e, h⟩
  · exact ⟨h.os, h.tape, h.output, h.size, fun k hk hn => h.block k hk (fun e => hn e.symm), fun k hk => .inl (by rw [← e]; exact hk)⟩
  · exact ⟨h.os, h.tape, h.output, h.size, fun k hk hn => h.block k hk (by simp), fun k hk => .inr (by rw [e] at hk; simp at hk; exact hk.symm)⟩
theorem Frm.refl (w : World) (v : Value) : Frm w w v v := ⟨rfl, rfl, rfl, Nat.le_refl _, fun _ _ _ => rfl, fun k hk => .inl hk⟩
/-- a row is put behind a row of the call's own -/
theorem wpList_append_row {P : Program} {w : World} {ops : Array Oper} {rest : List Oper} {o : Oper} {a : Act} {Q : Exit → Act → World → Prop} (hgd : o.guard = none) (s x : Operand) (t : TypeId)
    (ho : o.op = .call { callee := .builtin .append, args := #[s, x], argTypes := #[t, t] })
    (base : Nat) (e : TypeId) (i : TypeInfo) (z : Value) (size bytes : Nat) (ht : P.underlying t = some (.slice e)) (hi : P.info? e = some i) (hz : i.zero = some z)
    (hsize : i.size = size) (hby : i.bytes = bytes) (hzs : z.cells.size = size) (hpos : 0 < size)
    (v : Value) (n : Nat) (xs : List Value) (hs : a.eval s = v) (hown : w.ownsRow base e size v n xs)
    (sv : Value) (m sb : Nat) (ys : List Value) (hx : a.eval x = sv) (hsrc : w.ownsRow sb e size sv m ys) (h0 : m = 0 → sv = .slice none 0 0) (h1 : ∀ u ∈ ys, u.oneCell' = true)
    (h63 : n + m ≤ maxLen) (hbytes : (n + m) * bytes ≤ 140737488355328) (hbase : base ≤ w.heap.size)
    (h : ∀ v' w', Hid (w'.ownsRow base e size v' (n + m) (xs ++ ys)) → Hid (Frm w w' v v') → Hid (n + m = 0 → v' = v) → wpList P ops Q rest (a.put o.dst v') w') : wpList P ops Q (o :: rest) a w := by
  rcases Nat.eq_zero_or_pos m with hm | hm
  · have := h0 hm
    subst this hm
    have hy : ys = [] := List.length_eq_zero_iff.1 (by have := hsrc.1; omega)
    subst hy
    refine wpList_append_own_none hgd s x t ho base e i size ht hi v n xs hs hown hx (h v w ?_ (Frm.refl _ _) (fun _ => rfl))
    have : w.ownsRow base e size v (n + 0) (xs ++ []) := by simpa using hown
    exact this
  · rcases hsrc.2 with ⟨_, e0⟩ | ⟨g, cap, cur, rfl, _⟩
    · omega
    · refine wpList_append_moveN hgd s x t ho base e i z size bytes ht hi hz hsize hby hzs hpos v n xs hs hown ⟨g, 0, none⟩ m cap ys hx hsrc.1 hm (fun j u hj => hsrc.cells (g := g) rfl j u hj) h1 h63 hbytes hbase ?_
      intro v' w' ho' hm'
      exact h v' w' ho' hm'.out.frm (fun h => by omega)
theorem info9 : (Try.prog.info? 9).map (fun i => (i.zero, i.size, i.bytes)) = some (some (.string ⟨#[]⟩), 1, 16) := by kernel_rfl
mutual
theorem Tn.gs_le : ∀ t : Tn, t.gs ≤ t.nodes
  | .mk k R a s mn mx lz ix nm => by simp only [Tn.gs, Tn.nodes]; have := gsL_le s; split <;> omega
theorem gsL_le : ∀ ts : List Tn, gsL ts ≤ nodesL ts
  | [] => Nat.le_refl _
  | t :: ts => by simp only [gsL, nodesL]; have := Tn.gs_le t; have := gsL_le ts; omega
end
theorem gsL_take (ts : List Tn) (i : Nat) (hi : i < ts.length) : gsL (ts.take (i + 1)) = gsL (ts.take i) + ts[i].gs := by
  have app : ∀ a b : List Tn, gsL (a ++ b) = gsL a + gsL b := fun a b => by
    induction a with
    | nil => simp [gsL]
    | cons x a ih => simp only [List.cons_append, gsL, ih]; omega
  rw [List.take_succ_eq_append_getElem hi, app]
  simp [gsL]
theorem gsL_take_le (ts : List Tn) (i : Nat) : gsL (ts.take i) ≤ gsL ts := by
  have app : ∀ a b : List Tn, gsL (a ++ b) = gsL a + gsL b := fun a b => by
    induction a with
    | nil => simp [gsL]
    | cons x a ih => simp only [List.cons_append, gsL, ih]; omega
  have h := app (ts.take i) (ts.drop i)
  rw [List.take_append_drop] at h
  omega
/-- two rows, side by side -/
structure Two (w : World) (x n : Nat) (u1 u2 : Value) : Prop where
  ex : ∃ xs ys, w.ownsRow x 3 1 u1 n xs ∧ w.ownsRow x 9 1 u2 n ys ∧ (∀ u ∈ xs, u.oneCell' = true) ∧ (∀ u ∈ ys, u.oneCell' = true)
  dis : ∀ b, u1.ownBlock = some b → u2.ownBlock ≠ some b
  nil : n = 0 → u1 = .slice none 0 0 ∧ u2 = .slice none 0 0
theorem Two.empty (w : World) (x : Nat) : Two w x 0 (.slice none 0 0) (.slice none 0 0) := by
  refine ⟨⟨[], [], World.ownsRow_nil _ _ _ _, World.ownsRow_nil _ _ _ _, by simp, by simp⟩, ?_, ?_⟩
  · intro b h; cases h
  · intro _; exact ⟨rfl, rfl⟩
/-- what came of two appends, one onto each -/
theorem Two.step {w w1 w2 : World} {x n m sb : Nat} {u1 u2 v1 v2 s1 s2 : Value} {xs ys xs' ys' : List Value} (h : Two w x n u1 u2) (hb : x ≤ w.heap.size)
    (f1 : Frm w w1 u1 v1) (o1 : w1.ownsRow x 3 1 v1 (n + m) (xs ++ xs')) (f2 : Frm w1 w2 u2 v2) (o2 : w2.ownsRow x 9 1 v2 (n + m) (ys ++ ys')) (l2 : ∀ b, u2.ownBlock = some b → b < w.heap.size)
    (e1 : n + m = 0 → v1 = u1) (e2 : n + m = 0 → v2 = u2) (q1 : ∀ u ∈ xs ++ xs', u.oneCell' = true) (q2 : ∀ u ∈ ys ++ ys', u.oneCell' = true) : Two w2 x (n + m) v1 v2 := by
  have hne : ∀ b, v1.ownBlock = some b → u2.ownBlock ≠ some b := fun b hb1 h2 => by
    rcases f1.own b hb1 with h1 | h1
    · exact h.dis b h1 h2
    · have := l2 b h2; omega
  refine ⟨⟨_, _, row_kept o1 (fun b hb1 => f2.block b (o1.lt b hb1).2 (hne b hb1)), o2, q1, q2⟩, fun b hb1 hb2 => ?_, fun h0 => ?_⟩
  · rcases f2.own b hb2 with h1 | h1
    · exact hne b hb1 h1
    · have := (o1.lt b hb1).2; omega
  · have := h.nil (by omega)
    rw [e1 h0, e2 h0]
    exact this
set_option maxRecDepth 100000 in
set_option maxHeartbeats 8000000 in
theorem names23 {w0 : World} {B : Nat} {N : Nv} {t : Tn} (h : TI w0 B N t) : t.nodes ≤ 200000 → ∀ (w : World), B ≤ w.heap.size → (∀ b, b < B → w.heap[b]? = w0.heap[b]?) →
    Calls Try.prog 23 #[N.v] w fun e w' => ∃ v1 v2, e = .returned (.tuple #[v1, v2]) ∧ Two w' w.heap.size t.gs v1 v2 ∧ Below w.heap.size w w' := by
  induction h with
  | @mk N R ts ND ok hr hR hRk hs hS hk ih =>
  intro hno w hB hw
  simp only [Tn.nodes] at hno
  simp only [Tn.gs]
  have IH : ∀ i (hi : i < ts.length) (w : World), B ≤ w.heap.size → (∀ b, b < B → w.heap[b]? = w0.heap[b]?) → Calls Try.prog 23 #[(ND i).v] w fun e w' => ∃ v1 v2, e = .returned (.tuple #[v1, v2]) ∧ Two w' w.heap.size ts[i].gs v1 v2 ∧ Below w.heap.size w w' := fun i hi => ih i hi (by have := nodes_get ts i hi; omega)
  have hlen : ts.length ≤ 200000 := by have := nodes_ge ts; omega
  have hgs : gsL ts ≤ 200000 := by have := gsL_le ts; omega
  obtain ⟨k, r1, r2, r3, a2, s1, s2, s3, a4, a5, a6, a7, a8⟩ := N
  dsimp only at hs hS
  have hm2 : s2 ≤ 200000 := by omega
  have HW := hid hw
  have HS := hid hS
  have HIH := hid IH
  have HL := hid hs
  obtain ⟨i3, hi3, hz30, hz31, hz32⟩ := info_parts info3
  obtain ⟨i9, hi9, hz90, hz91, hz92⟩ := info_parts info9
  clear ok hr hR hk hS hw ih hs IH hno hlen
  obtain ⟨x, hx⟩ : ∃ x, x = w.heap.size := ⟨_, rfl⟩
  have HXX := hid hx
  have hl1 : w.heap.size + 1 = (w.alloc (.cells #[.int .i64 k, .slice r1 r2 r3, .int .i64 a2, .slice s1 s2 s3, .int .i64 a4, .int .i64 a5, .bool a6, .int .i64 a7, .string a8] 25)).heap.size := by simp
  have hX0 : BxN (w.alloc (.cells #[.int .i64 k, .slice r1 r2 r3, .int .i64 a2, .slice s1 s2 s3, .int .i64 a4, .int .i64 a5, .bool a6, .int .i64 a7, .string a8] 25)) w.heap.size ⟨k, r1, r2, r3, a2, s1, s2, s3, a4, a5, a6, a7, a8⟩ := heap_alloc_new w _
  have hb0 : Below w.heap.size w (w.alloc (.cells #[.int .i64 k, .slice r1 r2 r3, .int .i64 a2, .slice s1 s2 s3, .int .i64 a4, .int .i64 a5, .bool a6, .int .i64 a7, .string a8] 25)) := Joins.below_alloc1 w _
  have HX0 := hid hX0
  have HB0 := hid hb0
  clear hX0 hb0 hx hl1
  by_cases k7 : k = 7
  · subst k7
    simp only [if_true]
    have HO1 : Hid (∀ W : World, W.heap.size = w.heap.size + 1 → (W.alloc (.cells #[.int .i64 a7] 3)).ownsRow 0 3 1 (.slice (some ⟨w.heap.size + 1, 0, none⟩) 1 1) 1 [.int .i64 a7]) := fun W hW => by
      have := World.ownsRow_lit (base := 0) (e := 3) (size := 1) W #[.int .i64 a7] 1 (by omega) (by unfold maxLen; omega) rfl
      rwa [hW] at this
    go_enter Try.func23, Try.ntmps23
    go_upto_region 5 with (at_builtin; refine wpList_append_row rfl (.tmp 12) (.tmp 15) 39 rfl (w.heap.size + 1) 3 i3 (.int .i64 0) 1 8 Try.underlying39 hi3 hz30 hz31 hz32 rfl (by decide) (.slice none 0 0) 0 [] rfl (World.ownsRow_nil _ _ _ _) (.slice (some ⟨w.heap.size + 1, 0, none⟩) 1 1) 1 0 [.int .i64 a7] rfl (HO1.out _ (by simp)) (by omega) (by simp [Value.oneCell']) (by unfold maxLen; omega) (by omega) (by simp) ?_; intro v1 w1 ho1 hf1 _)
    obtain ⟨a1, c1, e1, _⟩ := row_shape ho1.out
    rw [Nat.zero_add] at e1
    subst e1
    have hs1 : w.heap.size + 2 ≤ w1.heap.size := by have := hf1.out.size; simp at this; omega
    have hX1 : BxN w1 w.heap.size ⟨7, r1, r2, r3, a2, s1, s2, s3, a4, a5, a6, a7, a8⟩ := (hf1.out.block _ (by simp; omega) (by simp [Value.ownBlock])).trans ((heap_alloc_old _ _ (by simp)).trans HX0.out)
    have HO2 : Hid ((w1.alloc (.cells #[.string a8] 9)).ownsRow 0 9 1 (.slice (some ⟨w1.heap.size, 0, none⟩) 1 1) 1 [.string a8]) :=
      World.ownsRow_lit (base := 0) (e := 9) (size := 1) w1 #[.string a8] 1 (by omega) (by unfold maxLen; omega) rfl
    obtain ⟨o0, o1, o2, o3, o4, o5, o6, o7, o8⟩ := nine' hX1
    have HX1 := hid hX1
    clear hX1
    go_upto_region 6 with (at_builtin; refine wpList_append_row rfl (.tmp 17) (.tmp 20) 44 rfl (w.heap.size + 1) 9 i9 (.string ⟨#[]⟩) 1 16 Try.underlying44 hi9 hz90 hz91 hz92 rfl (by decide) (.slice none 0 0) 0 [] rfl (World.ownsRow_nil _ _ _ _) (.slice (some ⟨w1.heap.size, 0, none⟩) 1 1) 1 0 [.string a8] rfl HO2.out (by omega) (by simp [Value.oneCell']) (by unfold maxLen; omega) (by omega) (by simp; omega) ?_; intro v2 w2 ho2 hf2 _)
    obtain ⟨a3, c3, e3, _⟩ := row_shape ho2.out
    rw [Nat.zero_add] at e3
    subst e3
    have hs2 : w1.heap.size + 1 ≤ w2.heap.size := by have := hf2.out.size; simpa using this
    have hold : ∀ b, b < w1.heap.size → w2.heap[b]? = w1.heap[b]? := fun b hb => (hf2.out.block b (by simp; omega) (by simp [Value.ownBlock])).trans (heap_alloc_old _ _ hb)
    have hold0 : ∀ b, b < w.heap.size + 1 → w2.heap[b]? = (w.alloc (.cells #[.int .i64 7, .slice r1 r2 r3, .int .i64 a2, .slice s1 s2 s3, .int .i64 a4, .int .i64 a5, .bool a6, .int .i64 a7, .string a8] 25)).heap[b]? := fun b hb => (hold b (by omega)).trans ((hf1.out.block _ (by simp; omega) (by simp [Value.ownBlock])).trans (heap_alloc_old _ _ (by simp; omega)))
    have HX : Hid (BxN w2 w.heap.size ⟨7, r1, r2, r3, a2, s1, s2, s3, a4, a5, a6, a7, a8⟩) := (hold _ (by omega)).trans HX1.out
    have HB : Hid (Below w.heap.size w w2) := ⟨hf2.out.os.trans (hf1.out.os.trans HB0.out.os), hf2.out.tape.trans (hf1.out.tape.trans HB0.out.tape), hf2.out.output.trans (hf1.out.output.trans HB0.out.output), by omega, fun b hb => (hold0 b (by omega)).trans (HB0.out.block b hb)⟩
    have HTW : Hid (Two w2 (w.heap.size + 1) 1 (.slice a1 1 c1) (.slice a3 1 c3)) := by
      refine ⟨⟨_, _, row_kept ho1.out (fun b hb => hold b (ho1.out.lt b hb).2), ho2.out, by simp [Value.oneCell'], by simp [Value.oneCell']⟩, fun b h1 h2 => ?_, fun h => by omega⟩
      rcases hf2.out.own b h2 with h | h
      · cases h
      · have := (ho1.out.lt b h1).2; simp at h; omega
    obtain ⟨g0, hg0⟩ : ∃ g0 : Nat, g0 = 1 := ⟨_, rfl⟩
    obtain ⟨W, hWW⟩ : ∃ W, W = w2 := ⟨_, rfl⟩
    rw [← hWW] at HX HB HTW ⊢
    clear o0 o1 o2 o3 o4 o5 o6 o7 o8 HO1 HO2 HX1 ho1 hf1 ho2 hf2 hs1 hs2 hold hold0 hWW HX0 HB0
    go_wp2_with fail
    go_loopw [4, 5, 6] (fun u1 u2 y wq => ∃ (i g : Nat) (e1 : Option Addr) (f1 : Nat) (e2 : Option Addr) (f2 : Nat), u1 = .slice e1 g f1 ∧ u2 = .slice e2 g f2 ∧ y = .int .i64 (i : Int) ∧ i ≤ s2 ∧ g ≤ 200001 ∧ Hid (g = g0 + gsL (ts.take i)) ∧ Hid (Two wq (w.heap.size + 1) g (.slice e1 g f1) (.slice e2 g f2)) ∧ Hid (BxN wq w.heap.size ⟨7, r1, r2, r3, a2, s1, s2, s3, a4, a5, a6, a7, a8⟩) ∧ Hid (Below w.heap.size w wq)) (fun _ _ y _ => s2 - (intOf y).toNat)
    case atStart => exact ⟨0, 1, _, _, _, _, rfl, rfl, rfl, by omega, by omega, by simp [Hid, gsL, hg0], HTW.out, HX.out, HB.out⟩
    case round =>
      obtain ⟨i, g, e1, f1, e2, f2, rfl, rfl, rfl, hi, hg, HG, HT, HXq, HBq⟩ := hrel
      obtain ⟨o0, o1, o2, o3, o4, o5, o6, o7, o8⟩ := nine' HXq.out
      by_cases hil : i < s2
      · have b1 : decide ((i : Int) < (s2 : Int)) = true := by simp; omega
        have b2 : (i : Int) < (s2 : Int) := by omega
        have hlt : i < ts.length := by rw [← HL.out]; exact hil
        obtain ⟨b, o, hs1, hb, hc⟩ := HS.out (by omega)
        subst hs1
        have hwk : ∀ b, b < B → wr.heap[b]? = w0.heap[b]? := fun b hb => (HBq.out.block b (by omega)).trans (HW.out b hb)
        have hxl : w.heap.size < wr.heap.size := (Array.getElem?_eq_some_iff.1 HXq.out).1
        obtain ⟨n0, n1, n2, n3, n4, n5, n6, n7, n8⟩ := (hc i hlt).kept (hwk b hb)
        have HC := HIH.out i hlt wr (by omega) hwk
        have ad1 : IntKind.i64.wrap ((i : Int) + 1) = (i : Int) + 1 := by simp [IntKind.wrap, IntKind.bits, IntKind.signed]; omega
        have htk := gsL_take ts i hlt
        have htl := gsL_take_le ts (i + 1)
        obtain ⟨m, hm⟩ : ∃ m, m = ts[i].gs := ⟨_, rfl⟩
        rw [← hm] at HC htk
        have hgm : g + m ≤ 200001 := by have := HG.out; omega
        have HG' : Hid (g + m = g0 + gsL (ts.take (i + 1))) := by show g + m = g0 + gsL (ts.take (i + 1)); rw [htk]; have := HG.out; omega
        obtain ⟨P, hP⟩ : ∃ P, P = ND i := ⟨_, rfl⟩
        rw [← hP] at HC n0 n1 n2 n3 n4 n5 n6 n7 n8
        obtain ⟨xs, ys, hr1, hr2, hq1, hq2⟩ := HT.out.ex
        have HR1 := hid hr1
        have HR2 := hid hr2
        have HQ1 := hid hq1
        have HQ2 := hid hq2
        have L2 : Hid (∀ b, (Value.slice e2 g f2).ownBlock = some b → b < wr.heap.size) := fun b hb => (hr2.lt b hb).2
        clear hP hwk hc htk htl hm hr1 hr2 hq1 hq2
        go_wp2_with (first | (go_at_call 23; (with_reducible refine HC.mono ?_); rintro e w2 ⟨v1, v2, rfl, hTw, hb2⟩; obtain ⟨xs', ys', hr3, hr4, hq3, hq4⟩ := hTw.ex; obtain ⟨d1, t1, rfl, _⟩ := row_shape hr3; obtain ⟨d2, t2, rfl, _⟩ := row_shape hr4; have HR3 := hid hr3; have HR4 := hid hr4; have HQ3 := hid hq3; have HQ4 := hid hq4; have HB2 := hid hb2; have HTW2 := hid hTw; have HR1' : Hid (w2.ownsRow (w.heap.size + 1) 3 1 (.slice e1 g f1) g xs) := row_kept HR1.out (fun b hb => hb2.block b (HR1.out.lt b hb).2); have hs2' : wr.heap.size ≤ w2.heap.size := hb2.size; clear hTw hr3 hr4 hq3 hq4 hb2 HC) | (at_builtin; refine wpList_append_row rfl (.tmp 38) (.tmp 39) 39 rfl (w.heap.size + 1) 3 i3 (.int .i64 0) 1 8 Try.underlying39 hi3 hz30 hz31 hz32 rfl (by decide) (.slice e1 g f1) g xs rfl HR1'.out (.slice d1 m t1) m wr.heap.size xs' rfl HR3.out (fun h => (HTW2.out.nil h).1) HQ3.out (by unfold maxLen; omega) (by omega) (by omega) ?_; intro v3 w3 ho3 hf3 he3; have hs3 : w2.heap.size ≤ w3.heap.size := hf3.out.size; have HR2' : Hid (w3.ownsRow (w.heap.size + 1) 9 1 (.slice e2 g f2) g ys) := row_kept HR2.out (fun b hb => (hf3.out.block b (by have := L2.out b hb; omega) (fun h => HT.out.dis b h hb)).trans (HB2.out.block b (L2.out b hb))); have HR4' : Hid (w3.ownsRow wr.heap.size 9 1 (.slice d2 m t2) m ys') := row_kept HR4.out (fun b hb => hf3.out.block b (HR4.out.lt b hb).2 (fun h => by have := (HR4.out.lt b hb).1; have := (HR1.out.lt b h).2; omega)); obtain ⟨p1, p2, rfl, _⟩ := row_shape ho3.out) | (at_builtin; refine wpList_append_row rfl (.tmp 41) (.tmp 42) 44 rfl (w.heap.size + 1) 9 i9 (.string ⟨#[]⟩) 1 16 Try.underlying44 hi9 hz90 hz91 hz92 rfl (by decide) (.slice e2 g f2) g ys rfl HR2'.out (.slice d2 m t2) m wr.heap.size ys' rfl HR4'.out (fun h => (HTW2.out.nil h).2) HQ4.out (by unfold maxLen; omega) (by omega) (by omega) ?_; intro v4 w4 ho4 hf4 he4; obtain ⟨p3, p4, rfl, _⟩ := row_shape ho4.out))
        have hTwo2 : Two w2 (w.heap.size + 1) g (.slice e1 g f1) (.slice e2 g f2) := ⟨⟨xs, ys, HR1'.out, row_kept HR2.out (fun b hb => HB2.out.block b (L2.out b hb)), HQ1.out, HQ2.out⟩, HT.out.dis, HT.out.nil⟩
        have hst := hTwo2.step (sb := 0) (s1 := .slice none 0 0) (s2 := .slice none 0 0) (by omega) hf3.out ho3.out hf4.out ho4.out (fun b hb => by have := L2.out b hb; omega) he3.out he4.out (fun u hu => (List.mem_append.1 hu).elim (HQ1.out u) (HQ3.out u)) (fun u hu => (List.mem_append.1 hu).elim (HQ2.out u) (HQ4.out u))
        have hold : ∀ b, b < w.heap.size + 1 → w4.heap[b]? = wr.heap[b]? := fun b hb => (hf4.out.block b (by omega) (fun h => by have := (HR2.out.lt b h).1; omega)).trans ((hf3.out.block b (by omega) (fun h => by have := (HR1.out.lt b h).1; omega)).trans (HB2.out.block b (by omega)))
        go_roundw
        case rel => exact ⟨i + 1, g + m, _, _, _, _, rfl, rfl, by push_cast; rfl, by omega, hgm, HG'.out, hst, (hold _ (by omega)).trans HXq.out, ⟨hf4.out.os.trans (hf3.out.os.trans (HB2.out.os.trans HBq.out.os)), hf4.out.tape.trans (hf3.out.tape.trans (HB2.out.tape.trans HBq.out.tape)), hf4.out.output.trans (hf3.out.output.trans (HB2.out.output.trans HBq.out.output)), by have := hf4.out.size; omega, fun b hb => (hold b (by omega)).trans (HBq.out.block b hb)⟩⟩
        case measure => simp [intOf]; omega
      · have b1 : decide ((i : Int) < (s2 : Int)) = false := by simp; omega
        obtain rfl : i = s2 := by omega
        go_wp2
        go_ret2
        have hgg := HG.out
        rw [HL.out, List.take_length, hg0] at hgg
        (first | rw [← hgg] | (rw [Nat.zero_add] at hgg; rw [← hgg]))
        exact ⟨_, _, rfl, ⟨by obtain ⟨xs, ys, q1, q2, q3, q4⟩ := HT.out.ex; exact ⟨xs, ys, row_base q1 (by omega), row_base q2 (by omega), q3, q4⟩, HT.out.dis, HT.out.nil⟩, HBq.out⟩
  · have k7' : (k == 7) = false := by simpa using k7
    simp only [if_neg k7]
    go_enter Try.func23, Try.ntmps23
    go_upto_region 6 with fail
    obtain ⟨W, hWW⟩ : ∃ W, W = w.alloc (.cells #[.int .i64 k, .slice r1 r2 r3, .int .i64 a2, .slice s1 s2 s3, .int .i64 a4, .int .i64 a5, .bool a6, .int .i64 a7, .string a8] 25) := ⟨_, rfl⟩
    rw [← hWW] at HX0 HB0 ⊢
    have HX := HX0
    have HB := HB0
    have HTW : Hid (Two W (w.heap.size + 1) 0 (.slice none 0 0) (.slice none 0 0)) := Two.empty _ _
    obtain ⟨g0, hg0⟩ : ∃ g0 : Nat, g0 = 0 := ⟨_, rfl⟩
    clear hWW HX0 HB0
    go_wp2_with fail
    go_loopw [4, 5, 6] (fun u1 u2 y wq => ∃ (i g : Nat) (e1 : Option Addr) (f1 : Nat) (e2 : Option Addr) (f2 : Nat), u1 = .slice e1 g f1 ∧ u2 = .slice e2 g f2 ∧ y = .int .i64 (i : Int) ∧ i ≤ s2 ∧ g ≤ 200001 ∧ Hid (g = g0 + gsL (ts.take i)) ∧ Hid (Two wq (w.heap.size + 1) g (.slice e1 g f1) (.slice e2 g f2)) ∧ Hid (BxN wq w.heap.size ⟨k, r1, r2, r3, a2, s1, s2, s3, a4, a5, a6, a7, a8⟩) ∧ Hid (Below w.heap.size w wq)) (fun _ _ y _ => s2 - (intOf y).toNat)
    case atStart => exact ⟨0, 0, _, _, _, _, rfl, rfl, rfl, by omega, by omega, by simp [Hid, gsL, hg0], HTW.out, HX.out, HB.out⟩
    case round =>
      obtain ⟨i, g, e1, f1, e2, f2, rfl, rfl, rfl, hi, hg, HG, HT, HXq, HBq⟩ := hrel
      obtain ⟨o0, o1, o2, o3, o4, o5, o6, o7, o8⟩ := nine' HXq.out
      by_cases hil : i < s2
      · have b1 : decide ((i : Int) < (s2 : Int)) = true := by simp; omega
        have b2 : (i : Int) < (s2 : Int) := by omega
        have hlt : i < ts.length := by rw [← HL.out]; exact hil
        obtain ⟨b, o, hs1, hb, hc⟩ := HS.out (by omega)
        subst hs1
        have hwk : ∀ b, b < B → wr.heap[b]? = w0.heap[b]? := fun b hb => (HBq.out.block b (by omega)).trans (HW.out b hb)
        have hxl : w.heap.size < wr.heap.size := (Array.getElem?_eq_some_iff.1 HXq.out).1
        obtain ⟨n0, n1, n2, n3, n4, n5, n6, n7, n8⟩ := (hc i hlt).kept (hwk b hb)
        have HC := HIH.out i hlt wr (by omega) hwk
        have ad1 : IntKind.i64.wrap ((i : Int) + 1) = (i : Int) + 1 := by simp [IntKind.wrap, IntKind.bits, IntKind.signed]; omega
        have htk := gsL_take ts i hlt
        have htl := gsL_take_le ts (i + 1)
        obtain ⟨m, hm⟩ : ∃ m, m = ts[i].gs := ⟨_, rfl⟩
        rw [← hm] at HC htk
        have hgm : g + m ≤ 200001 := by have := HG.out; omega
        have HG' : Hid (g + m = g0 + gsL (ts.take (i + 1))) := by show g + m = g0 + gsL (ts.take (i + 1)); rw [htk]; have := HG.out; omega
        obtain ⟨P, hP⟩ : ∃ P, P = ND i := ⟨_, rfl⟩
        rw [← hP] at HC n0 n1 n2 n3 n4 n5 n6 n7 n8
        obtain ⟨xs, ys, hr1, hr2, hq1, hq2⟩ := HT.out.ex
        have HR1 := hid hr1
        have HR2 := hid hr2
        have HQ1 := hid hq1
        have HQ2 := hid hq2
        have L2 : Hid (∀ b, (Value.slice e2 g f2).ownBlock = some b → b < wr.heap.size) := fun b hb => (hr2.lt b hb).2
        clear hP hwk hc htk htl hm hr1 hr2 hq1 hq2
        go_wp2_with (first | (go_at_call 23; (with_reducible refine HC.mono ?_); rintro e w2 ⟨v1, v2, rfl, hTw, hb2⟩; obtain ⟨xs', ys', hr3, hr4, hq3, hq4⟩ := hTw.ex; obtain ⟨d1, t1, rfl, _⟩ := row_shape hr3; obtain ⟨d2, t2, rfl, _⟩ := row_shape hr4; have HR3 := hid hr3; have HR4 := hid hr4; have HQ3 := hid hq3; have HQ4 := hid hq4; have HB2 := hid hb2; have HTW2 := hid hTw; have HR1' : Hid (w2.ownsRow (w.heap.size + 1) 3 1 (.slice e1 g f1) g xs) := row_kept HR1.out (fun b hb => hb2.block b (HR1.out.lt b hb).2); have hs2' : wr.heap.size ≤ w2.heap.size := hb2.size; clear hTw hr3 hr4 hq3 hq4 hb2 HC) | (at_builtin; refine wpList_append_row rfl (.tmp 38) (.tmp 39) 39 rfl (w.heap.size + 1) 3 i3 (.int .i64 0) 1 8 Try.underlying39 hi3 hz30 hz31 hz32 rfl (by decide) (.slice e1 g f1) g xs rfl HR1'.out (.slice d1 m t1) m wr.heap.size xs' rfl HR3.out (fun h => (HTW2.out.nil h).1) HQ3.out (by unfold maxLen; omega) (by omega) (by omega) ?_; intro v3 w3 ho3 hf3 he3; have hs3 : w2.heap.size ≤ w3.heap.size := hf3.out.size; have HR2' : Hid (w3.ownsRow (w.heap.size + 1) 9 1 (.slice e2 g f2) g ys) := row_kept HR2.out (fun b hb => (hf3.out.block b (by have := L2.out b hb; omega) (fun h => HT.out.dis b h hb)).trans (HB2.out.block b (L2.out b hb))); have HR4' : Hid (w3.ownsRow wr.heap.size 9 1 (.slice d2 m t2) m ys') := row_kept HR4.out (fun b hb => hf3.out.block b (HR4.out.lt b hb).2 (fun h => by have := (HR4.out.lt b hb).1; have := (HR1.out.lt b h).2; omega)); obtain ⟨p1, p2, rfl, _⟩ := row_shape ho3.out) | (at_builtin; refine wpList_append_row rfl (.tmp 41) (.tmp 42) 44 rfl (w.heap.size + 1) 9 i9 (.string ⟨#[]⟩) 1 16 Try.underlying44 hi9 hz90 hz91 hz92 rfl (by decide) (.slice e2 g f2) g ys rfl HR2'.out (.slice d2 m t2) m wr.heap.size ys' rfl HR4'.out (fun h => (HTW2.out.nil h).2) HQ4.out (by unfold maxLen; omega) (by omega) (by omega) ?_; intro v4 w4 ho4 hf4 he4; obtain ⟨p3, p4, rfl, _⟩ := row_shape ho4.out))
        have hTwo2 : Two w2 (w.heap.size + 1) g (.slice e1 g f1) (.slice e2 g f2) := ⟨⟨xs, ys, HR1'.out, row_kept HR2.out (fun b hb => HB2.out.block b (L2.out b hb)), HQ1.out, HQ2.out⟩, HT.out.dis, HT.out.nil⟩
        have hst := hTwo2.step (sb := 0) (s1 := .slice none 0 0) (s2 := .slice none 0 0) (by omega) hf3.out ho3.out hf4.out ho4.out (fun b hb => by have := L2.out b hb; omega) he3.out he4.out (fun u hu => (List.mem_append.1 hu).elim (HQ1.out u) (HQ3.out u)) (fun u hu => (List.mem_append.1 hu).elim (HQ2.out u) (HQ4.out u))
        have hold : ∀ b, b < w.heap.size + 1 → w4.heap[b]? = wr.heap[b]? := fun b hb => (hf4.out.block b (by omega) (fun h => by have := (HR2.out.lt b h).1; omega)).trans ((hf3.out.block b (by omega) (fun h => by have := (HR1.out.lt b h).1; omega)).trans (HB2.out.block b (by omega)))
        refine ⟨⟨i + 1, g + m, _, _, _, _, rfl, rfl, by push_cast; rfl, by omega, hgm, HG'.out, hst, (hold _ (by omega)).trans HXq.out, ⟨hf4.out.os.trans (hf3.out.os.trans (HB2.out.os.trans HBq.out.os)), hf4.out.tape.trans (hf3.out.tape.trans (HB2.out.tape.trans HBq.out.tape)), hf4.out.output.trans (hf3.out.output.trans (HB2.out.output.trans HBq.out.output)), by have := hf4.out.size; omega, fun b hb => (hold b (by omega)).trans (HBq.out.block b hb)⟩⟩, by simp [intOf]; omega⟩
      · have b1 : decide ((i : Int) < (s2 : Int)) = false := by simp; omega
        obtain rfl : i = s2 := by omega
        go_wp2
        go_ret2
        have hgg := HG.out
        rw [HL.out, List.take_length, hg0] at hgg
        (first | rw [← hgg] | (rw [Nat.zero_add] at hgg; rw [← hgg]))
        exact ⟨_, _, rfl, ⟨by obtain ⟨xs, ys, q1, q2, q3, q4⟩ := HT.out.ex; exact ⟨xs, ys, row_base q1 (by omega), row_base q2 (by omega), q3, q4⟩, HT.out.dis, HT.out.nil⟩, HBq.out⟩
end Go.Proofs.Ytilpkeipjlnogaa
