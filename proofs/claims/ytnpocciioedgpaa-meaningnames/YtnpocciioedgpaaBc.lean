/- HELPERS: a choice; the first of several. -/
import Derived.Test.YtnpocciioedgpaaBb
namespace Go.Proofs.Ytnpocciioedgpaa
open Go.RowKit
set_option linter.unusedVariables false
set_option linter.unusedSimpArgs false
theorem info84 : (Try.prog.info? 84).map (fun i => (i.zero, i.size, i.bytes)) = some (some .nilFunc, 1, 8) := by kernel_rfl
set_option maxRecDepth 100000 in
set_option maxHeartbeats 2000000 in
theorem choice97 (g K : Nat) (L : List Nat) (v1 v2 : Value) (W1 W2 : Way) (F1 F2 : List Nat) (w : World) (h1 : Rep g K L w v1 W1 F1) (h2 : Rep g K L w v2 W2 F2) :
    Calls Try.prog 97 #[.bool false, v1, v2] w fun e w' => ∃ v F, e = .returned v ∧ Rep g K L w' v (.inOrder [W1, W2]) F ∧ Below w.heap.size w w' ∧ ∀ k ∈ F, k ∈ F1 ++ F2 ∨ w.heap.size ≤ k := by
  obtain ⟨f1, fi1, ca1, rfl⟩ := h1.form
  obtain ⟨f2, fi2, ca2, rfl⟩ := h2.form
  have hb : Below w.heap.size w (w.alloc (.cells #[.func (.func f1) fi1 ca1, .func (.func f2) fi2 ca2] 84)) := Joins.below_alloc1 w _
  have hrow : (w.alloc (.cells #[.func (.func f1) fi1 ca1, .func (.func f2) fi2 ca2] 84)).ownsRow w.heap.size 84 1 (.slice (some ⟨w.heap.size, 0, none⟩) 2 2) 2 [.func (.func f1) fi1 ca1, .func (.func f2) fi2 ca2] := by
    have := World.ownsRow_lit (base := w.heap.size) (e := 84) (size := 1) w #[.func (.func f1) fi1 ca1, .func (.func f2) fi2 ca2] 2 (Nat.le_refl _) (by unfold maxLen; omega) rfl
    exact this
  have HC := inOrder94 g K w.heap.size 0 L _ [W1, W2] _ (F1 ++ (F2 ++ [])) _ hrow (.cons (h1.kept fun k hk => hb.block k (h1.low k hk)) (.cons (h2.kept fun k hk => hb.block k (h2.low k hk)) .nil))
  have HB := hid hb
  clear h1 h2 hb hrow
  go_enter Try.func97, Try.ntmps97
  go_wp2_with (go_at_call 94; (with_reducible refine HC.mono ?_); rintro e w1 ⟨v, F, rfl, hr, hb1, hn⟩; obtain ⟨f, fi, ca, rfl⟩ := hr.form; have HR := hid hr; have HB1 := hid hb1; have HN := hid hn; clear hr hb1 hn)
  go_ret
  refine ⟨_, F, rfl, HR.out, HB.out.trans (Joins.below_le HB1.out (by simp)), fun k hk => ?_⟩
  rcases HN.out k hk with h | h
  · simp [Value.ownBlock] at h
    rcases h with rfl | h | h
    · right; omega
    · left; simp [h]
    · left; simp [h]
  · right; simp at h; omega
/-- the nine cells of the i-th node of a row -/
def C9 (w : World) (sb i : Nat) (N : Nd) (k : Int) : Prop := w.cell? ⟨sb, i * 9, none⟩ = some (.int .i64 k) ∧ w.cell? ⟨sb, i * 9 + 1, none⟩ = some (.slice N.r1 N.r2 N.r3) ∧ w.cell? ⟨sb, i * 9 + 2, none⟩ = some (.int .i64 N.a2) ∧ w.cell? ⟨sb, i * 9 + 3, none⟩ = some (.slice N.s1 N.s2 N.s3) ∧
  w.cell? ⟨sb, i * 9 + 4, none⟩ = some (.int .i64 N.a4) ∧ w.cell? ⟨sb, i * 9 + 5, none⟩ = some (.int .i64 N.a5) ∧ w.cell? ⟨sb, i * 9 + 6, none⟩ = some (.bool N.a6) ∧ w.cell? ⟨sb, i * 9 + 7, none⟩ = some (.int .i64 N.a7) ∧ w.cell? ⟨sb, i * 9 + 8, none⟩ = some (.string N.a8)
theorem C9.kept {w w' : World} {sb i : Nat} {N : Nd} {k : Int} (h : C9 w sb i N k) (hk : w'.heap[sb]? = w.heap[sb]?) : C9 w' sb i N k := by
  obtain ⟨h0, h1, h2, h3, h4, h5, h6, h7, h8⟩ := h
  exact ⟨(cell_heap hk _).trans h0, (cell_heap hk _).trans h1, (cell_heap hk _).trans h2, (cell_heap hk _).trans h3, (cell_heap hk _).trans h4, (cell_heap hk _).trans h5, (cell_heap hk _).trans h6, (cell_heap hk _).trans h7, (cell_heap hk _).trans h8⟩
theorem Reps.snoc {g K : Nat} {L : List Nat} {w : World} {vs : List Value} {l : List Way} {F : List Nat} (h : Reps g K L w vs l F) {v : Value} {d : Way} {G : List Nat} (hv : Rep g K L w v d G) : Reps g K L w (vs ++ [v]) (l ++ [d]) (F ++ G) := by
  induction l generalizing vs F with
  | nil => cases h; simpa using Reps.cons hv .nil
  | cons e l ih => cases h with | cons h hs => rw [List.append_assoc]; exact .cons h (ih hs)
theorem one_new (w2 : World) (u : Value) (t : TypeId) : ∀ j y, [u][j]? = some y → (w2.alloc (.cells #[u] t)).cell? ((⟨w2.heap.size, 0, none⟩ : Addr).add j) = some y := by
  intro j y hj
  match j, hj with
  | 0, hj => simp at hj; subst hj; simp [Addr.add]
/-- the row of ways as it grows -/
structure Gr (g K : Nat) (L : List Nat) (w wq : World) (A : Six) (n : Int) (uv : Value) (i : Nat) (l : List Way) (FS : List Nat) (vs : List Value) (FR : List Nat) : Prop where
  row : wq.ownsRow w.heap.size 84 1 uv i vs
  reps : Reps g K L wq vs l FR
  ob : O7 wq g A n
  chg : Chg w wq [g] [g]
  new : ∀ k ∈ FR, k ∈ FS ∨ w.heap.size ≤ k
  out : ∀ k, uv.ownBlock = some k → k ∉ FR
theorem Gr.next {g K : Nat} {L : List Nat} {w wq w2 w3 : World} {A : Six} {n n2 : Int} {uv v v' : Value} {i : Nat} {l : List Way} {d : Way} {FS FR F : List Nat} {vs : List Value} (G : Gr g K L w wq A n uv i l FS vs FR) (o o2 : Obj) (M : Mk g K L (wq.alloc o) w2 A n2 v d FS F)
    (hgl : g < w.heap.size) (hgF : g ∉ FS) (hFl : ∀ k ∈ FS, k < w.heap.size) (ho : w3.ownsRow w.heap.size 84 1 v' (i + 1) (vs ++ [v])) (hm : Moved (w2.alloc o2) w3 uv v') : Gr g K L w w3 A n2 v' (i + 1) (l ++ [d]) FS (vs ++ [v]) (FR ++ F) := by
  have hub : ∀ k, uv.ownBlock = some k → w.heap.size ≤ k ∧ k < wq.heap.size := fun k hk => G.row.lt k hk
  have s1 := G.chg.size
  have s2 := M.chg.size
  simp at s2
  have hgR : g ∉ FR := fun hg => by rcases G.new g hg with h | h; exact hgF h; omega
  have hFR : ∀ k ∈ FR, k < wq.heap.size := G.reps.low
  have hF2 : ∀ k ∈ F, k < w2.heap.size := M.rep.low
  have e12 : ∀ k, k < wq.heap.size → k ≠ g → w2.heap[k]? = wq.heap[k]? := fun k hk hn => (M.chg.block k (by simp; omega) (by simpa using hn)).trans (heap_alloc_old wq o hk)
  have e3 : ∀ k, k < w2.heap.size → uv.ownBlock ≠ some k → w3.heap[k]? = w2.heap[k]? := fun k hk hn => by
    have e : (w2.alloc o2).heap[k]? = w2.heap[k]? := heap_alloc_old w2 o2 hk
    rcases hm with ⟨_, h⟩ | ⟨_, h⟩
    · exact (h.block k (by simp; omega) (fun h => hn h.symm)).trans e
    · exact (h.block k (by simp; omega) (by simp)).trans e
  have hs3 : w2.heap.size ≤ w3.heap.size := by rcases hm with ⟨_, h⟩ | ⟨_, h⟩ <;> (have := h.size; simp at this; omega)
  have hFu : ∀ k ∈ F, uv.ownBlock ≠ some k := fun k hk e => by
    have := hub k e
    rcases M.new k hk with h | h
    · have := hFl k h; omega
    · simp at h; omega
  refine ⟨ho, (G.reps.kept fun k hk => (e3 k (by have := hFR k hk; omega) (fun e => G.out k e hk)).trans (e12 k (hFR k hk) (fun e => hgR (e ▸ hk)))).snoc (M.rep.kept fun k hk => e3 k (hF2 k hk) (hFu k hk)), ?_, ?_, ?_, ?_⟩
  · exact (e3 g (by omega) (fun e => by have := hub g e; omega)).trans M.ob
  · refine ⟨?_, ?_, ?_, by omega, fun k hk hn => ?_, fun k hk => .inl hk⟩
    · rcases hm with ⟨_, h⟩ | ⟨_, h⟩ <;> exact h.os.trans (M.chg.os.trans G.chg.os)
    · rcases hm with ⟨_, h⟩ | ⟨_, h⟩ <;> exact h.tape.trans (M.chg.tape.trans G.chg.tape)
    · rcases hm with ⟨_, h⟩ | ⟨_, h⟩ <;> exact h.output.trans (M.chg.output.trans G.chg.output)
    · exact (e3 k (by omega) (fun e => by have := hub k e; omega)).trans ((e12 k (by omega) (by simpa using hn)).trans (G.chg.block k hk hn))
  · intro k hk
    rcases List.mem_append.1 hk with hk | hk
    · exact G.new k hk
    · rcases M.new k hk with h | h
      · exact .inl h
      · right; simp at h; omega
  · intro k hk hm2
    rcases hm with ⟨h0, _⟩ | ⟨h0, _⟩
    · rw [h0] at hk
      rcases List.mem_append.1 hm2 with h | h
      · exact G.out k hk h
      · exact hFu k h hk
    · rw [h0] at hk
      simp at hk
      rcases List.mem_append.1 hm2 with h | h
      · have := hFR k h; omega
      · have := hF2 k h; omega
set_option maxRecDepth 100000 in
set_option maxHeartbeats 4000000 in
theorem firstOf67 (g K m sb s3 : Nat) (L : List Nat) (A : Six) (ns : Nat → Int) (Ws : Nat → Way) (FS : List Nat) (ND : Nat → Nd) (KD : Nat → Int) (f : FuncId) (fi ca : Array Value) (w : World) (hO : O7 w g A (ns 0)) (hgF : g ∉ FS)
    (hFl : ∀ k ∈ FS, k < w.heap.size) (hsb : sb < w.heap.size) (hsg : sb ≠ g) (hm : m ≤ 1000000) (hcap : m ≤ s3) (hcells : Hid (∀ i, i < m → C9 w sb i (ND i) (KD i)))
    (HB : Hid (∀ i, i < m → ∀ w', Chg w w' [g] [g] → O7 w' g A (ns i) → Calls Try.prog 53 #[pt g, (ND i).v (KD i), .func (.func f) fi ca] w' fun e w'' => ∃ v F, e = .returned v ∧ Mk g K L w' w'' A (ns (i + 1)) v (Ws i) FS F)) :
    Calls Try.prog 67 #[pt g, .slice (some ⟨sb, 0, none⟩) m s3, .func (.func f) fi ca] w fun e w' => ∃ v F, e = .returned v ∧ Mk g K L w w' A (ns m) v (.inOrder ((List.range m).map Ws)) FS F := by
  have HO := hid hO
  have HGF := hid hgF
  have HFL := hid hFl
  have hgl := (Array.getElem?_eq_some_iff.1 hO).1
  obtain ⟨i0, hi0, hz0, hz1, hz2⟩ := info_parts info84
  clear hO hgF hFl
  go_enter Try.func67, Try.ntmps67
  go_wp2_with fail
  go_loopw [7, 12] (fun u x wq => ∃ (i : Nat) (u1 : Option Addr) (u3 : Nat), u = .slice u1 i u3 ∧ x = .int .i64 (i : Int) ∧ i ≤ m ∧ Hid (∃ vs FR, Gr g K L w wq A (ns i) (.slice u1 i u3) i ((List.range i).map Ws) FS vs FR)) (fun _ x _ => m - (intOf x).toNat)
  case atStart => exact ⟨0, none, 0, rfl, rfl, by omega, by exact ⟨[], [], World.ownsRow_nil _ _ _ _, .nil, HO.out, Chg.refl w [g], (fun k hk => by cases hk), (fun k hk hm => by cases hm)⟩⟩
  case round =>
    obtain ⟨i, u1, u3, rfl, rfl, hi, HI⟩ := hrel
    by_cases hil : i < m
    · have b1 : decide ((i : Int) < (m : Int)) = true := by simp; omega
      have b2 : (i : Int) < (m : Int) := by omega
      obtain ⟨vs, FR, G⟩ := HI.out
      obtain ⟨n0, n1, n2, n3, n4, n5, n6, n7, n8⟩ := (hcells.out i hil).kept (G.chg.block sb hsb (by simpa using hsg))
      have HC := HB.out i hil (wr.alloc ((ND i).o (KD i))) (G.chg.alloc _) ((heap_alloc_old wr _ (by have := G.chg.size; omega)).trans G.ob)
      obtain ⟨N, hN⟩ : ∃ N, N = ND i := ⟨_, rfl⟩
      obtain ⟨k, hk⟩ : ∃ k, k = KD i := ⟨_, rfl⟩
      rw [← hN] at HC n1 n2 n3 n4 n5 n6 n7 n8
      rw [← hk] at HC n0
      have HG := hid G
      have ad1 : IntKind.i64.wrap ((i : Int) + 1) = (i : Int) + 1 := by simp [IntKind.wrap, IntKind.bits, IntKind.signed]; omega
      clear G hN hk HI
      go_wp2_with (first | (go_at_call 53; (with_reducible refine HC.mono ?_); rintro e w2 ⟨v, F, rfl, M⟩; obtain ⟨f2, fi2, ca2, rfl⟩ := M.rep.form; have hrow2 : w2.ownsRow w.heap.size 84 1 (.slice u1 i u3) i vs := row_kept HG.out.row (fun b hb => (M.chg.block b (by have := (HG.out.row.lt b hb).2; simp; omega) (by have := (HG.out.row.lt b hb).1; simp; omega)).trans (heap_alloc_old wr _ (HG.out.row.lt b hb).2)); have HR2 := hid hrow2; have hs2 : w.heap.size ≤ w2.heap.size := (by have := M.chg.size; have := HG.out.chg.size; simp at *; omega); have HM := hid M; clear M hrow2 HC) | (at_builtin; refine wpList_append_move rfl (.tmp 16) (.tmp 21) 124 rfl w.heap.size 84 i0 .nilFunc 8 Try.underlying124 hi0 hz0 hz1 hz2 rfl (.slice u1 i u3) i vs rfl (HR2.out.alloc _) ⟨w2.heap.size, 0, none⟩ 1 1 [.func (.func f2) fi2 ca2] rfl rfl (by decide) (one_new w2 _ 84) (by intro u hu; simp at hu; subst hu; rfl) (by unfold maxLen; omega) (by omega) (by simp; omega) ?_; intro v' w3 ho3 hm3; obtain ⟨vb, vc, rfl⟩ := Joins.ownsRow_form ho3.out (by omega)))
      refine ⟨⟨i + 1, _, _, rfl, by push_cast; rfl, by omega, ?_⟩, ?_⟩
      · have h9 := HG.out.next _ _ HM.out hgl HGF.out HFL.out ho3.out hm3.out
        have e9 : (List.range (i + 1)).map Ws = (List.range i).map Ws ++ [Ws i] := by rw [List.range_succ, List.map_append]; rfl
        rw [← e9] at h9
        exact ⟨_, _, h9⟩
      · simp [intOf]
        omega
    · have b1 : decide ((i : Int) < (m : Int)) = false := by simp; omega
      obtain rfl : i = m := by omega
      obtain ⟨vs, FR, G⟩ := HI.out
      have HC := inOrder94 g K w.heap.size 0 L _ _ _ _ wr (by have := G.row; simpa using this) G.reps
      have HG := hid G
      clear G HI
      go_wp2_with (go_at_call 94; (with_reducible refine HC.mono ?_); rintro e w1 ⟨v, F, rfl, hr, hb1, hn⟩; obtain ⟨f1, fi1, ca1, rfl⟩ := hr.form; have HR := hid hr; have HB1 := hid hb1; have HN := hid hn; clear hr hb1 hn)
      go_ret
      refine ⟨_, F, rfl, HR.out, (HB1.out.block g (by have := HG.out.chg.size; omega)).trans HG.out.ob, HG.out.chg.trans (Chg.of_below HB1.out), fun k hk => ?_⟩
      rcases HN.out k hk with h | h
      · rcases List.mem_append.1 h with h | h
        · right
          exact (HG.out.row.lt k (by simpa using h)).1
        · exact HG.out.new k h
      · right; have := HG.out.chg.size; omega
end Go.Proofs.Ytnpocciioedgpaa
