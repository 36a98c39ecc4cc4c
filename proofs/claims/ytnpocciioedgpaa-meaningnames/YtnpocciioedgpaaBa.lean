/- HELPERS: ways are made: once, noted, of a class, in order. -/
import Derived.Test.YtnpocciioedgpaaWx
import Derived.Laws.EntriesVeiled
namespace Go.Proofs.Ytnpocciioedgpaa
open Go.RowKit
set_option linter.unusedVariables false
set_option linter.unusedSimpArgs false
/-- the cells of a walk's object, but how many things there are -/
structure Six where
  a0 : Value
  a1 : Value
  a2 : Value
  a4 : Value
  a5 : Value
  a6 : Value
abbrev O7 (w : World) (g : Nat) (A : Six) (n : Int) : Prop := w.heap[g]? = some (.cells #[A.a0, A.a1, A.a2, .int .i64 n, A.a4, A.a5, A.a6] 86 (0, 0))
/-- what is made: a way, its blocks, and how many things there are then -/
structure Mk (g K : Nat) (L : List Nat) (w w' : World) (A : Six) (n' : Int) (v : Value) (W : Way) (F0 F : List Nat) : Prop where
  rep : Rep g K L w' v W F
  ob : O7 w' g A n'
  chg : Chg w w' [g] [g]
  new : ∀ k ∈ F, k ∈ F0 ∨ w.heap.size ≤ k
theorem Rep.form {g K : Nat} {L : List Nat} {w : World} {v : Value} {d : Way} {F : List Nat} (h : Rep g K L w v d F) : ∃ f fi ca, v = .func (.func f) fi ca := by
  cases h <;> exact ⟨_, _, _, rfl⟩
theorem hmf : ∀ (fn : Fn) (first cap : Array Value) (w : World), (Instr.makeFunc fn first cap).run Try.prog w = .ok (.func fn first cap) w := fun _ _ _ _ => rfl
theorem Chg.alloc {w w' : World} {F F' : List Nat} (h : Chg w w' F F') (o : Obj) : Chg w (w'.alloc o) F F' :=
  ⟨h.os, h.tape, h.output, by have := h.size; simp; omega, fun k hk hn => (heap_alloc_old w' o (by have := h.size; omega)).trans (h.block k hk hn), h.new⟩
theorem three_new (w : World) (o o' o2 : Obj) : (((w.alloc o).alloc o').alloc o2).heap[w.heap.size]? = some o ∧ (((w.alloc o).alloc o').alloc o2).heap[w.heap.size + 1]? = some o' ∧ (((w.alloc o).alloc o').alloc o2).heap[w.heap.size + 1 + 1]? = some o2 ∧
    ∀ k, k < w.heap.size → (((w.alloc o).alloc o').alloc o2).heap[k]? = w.heap[k]? := by
  have s1 : (w.alloc o).heap.size = w.heap.size + 1 := by simp
  have s2 : ((w.alloc o).alloc o').heap.size = w.heap.size + 1 + 1 := by simp
  refine ⟨?_, ?_, ?_, fun k hk => ?_⟩
  · exact (heap_alloc_old _ _ (by omega)).trans ((heap_alloc_old _ _ (by omega)).trans (heap_alloc_new w o))
  · refine (heap_alloc_old _ _ (by omega)).trans ?_
    rw [← s1]; exact heap_alloc_new _ _
  · rw [← s2]; exact heap_alloc_new _ _
  · exact (heap_alloc_old _ _ (by omega)).trans ((heap_alloc_old _ _ (by omega)).trans (heap_alloc_old _ _ hk))
set_option maxRecDepth 100000 in
set_option maxHeartbeats 2000000 in
theorem once54 (g K : Nat) (L : List Nat) (A : Six) (n : Int) (vb : Value) (B : Way) (F0 : List Nat) (w : World) (hO : O7 w g A n) (hR : Rep g K L w vb B F0) (hgF : g ∉ F0) (hn : 0 ≤ n ∧ n < 1000000000) :
    Calls Try.prog 54 #[pt g, vb] w fun e w' => ∃ v F, e = .returned v ∧ Mk g K L w w' A (n + 1) v (.once (n + 1) B) F0 F := by
  obtain ⟨f, fi, ca, rfl⟩ := hR.form
  have hm := hmf
  have g3 : w.cell? ⟨g, 3, none⟩ = some (.int .i64 n) := Joins.cell_of_block hO 3
  have f3 := Joins.unfrozen_of_block hO 3
  have hgl := (Array.getElem?_eq_some_iff.1 hO).1
  have HO := hid hO
  have HR := hid hR
  clear hO hR
  go_enter Try.func54, Try.ntmps54
  go_wp2
  go_ret
  obtain ⟨h1, h2, h3, h4⟩ := three_new (w.setCell ⟨g, 3, none⟩ (.int .i64 (n + 1))) (.cells #[pt g] 60) (.cells #[.func (.func f) fi ca] 84) (.cells #[.int .i64 (n + 1)] 3)
  have hs : (w.setCell ⟨g, 3, none⟩ (.int .i64 (n + 1))).heap.size = w.heap.size := by simp [World.setCell]
  rw [hs] at h1 h2 h3 h4
  have hc : Chg w ((((w.setCell ⟨g, 3, none⟩ (.int .i64 (n + 1))).alloc (.cells #[pt g] 60)).alloc (.cells #[.func (.func f) fi ca] 84)).alloc (.cells #[.int .i64 (n + 1)] 3)) [g] [g] :=
    ((((Chg.refl w [g]).set (a := ⟨g, 3, none⟩) (.int .i64 (n + 1)) (by simp)).alloc _).alloc _).alloc _
  refine ⟨_, _, rfl, .once h3 h1 h2 ⟨by omega, by omega⟩ (HR.out.kept fun k hk => ?_), ?_, hc, ?_⟩
  · exact hc.block k (HR.out.low k hk) (by simp; intro e; exact hgF (e ▸ hk))
  · exact (h4 g hgl).trans (Joins.block_setCell (i := 3) HO.out _)
  · intro k hk
    simp only [List.mem_cons] at hk
    rcases hk with rfl | rfl | rfl | hk
    · right; omega
    · right; omega
    · right; omega
    · exact .inl hk
set_option maxRecDepth 100000 in
set_option maxHeartbeats 2000000 in
theorem noted68 (g K c : Nat) (L : List Nat) (A : Six) (n : Int) (vb : Value) (B : Way) (F0 : List Nat) (w : World) (hO : O7 w g A n) (hR : Rep g K L w vb B F0) (hgF : g ∉ F0) (hc : c < K) :
    Calls Try.prog 68 #[pt g, .int .i64 (c : Int), vb] w fun e w' => ∃ v F, e = .returned v ∧ Mk g K L w w' A n v (.noted c B) F0 F := by
  obtain ⟨f, fi, ca, rfl⟩ := hR.form
  have hm := hmf
  have hgl := (Array.getElem?_eq_some_iff.1 hO).1
  have HO := hid hO
  have HR := hid hR
  clear hO hR
  go_enter Try.func68, Try.ntmps68
  go_wp2
  go_ret
  obtain ⟨h1, h2, h3, h4⟩ := three_new w (.cells #[pt g] 60) (.cells #[.int .i64 (c : Int)] 3) (.cells #[.func (.func f) fi ca] 84)
  have hch : Chg w (((w.alloc (.cells #[pt g] 60)).alloc (.cells #[.int .i64 (c : Int)] 3)).alloc (.cells #[.func (.func f) fi ca] 84)) [g] [g] := (((Chg.refl w [g]).alloc _).alloc _).alloc _
  refine ⟨_, _, rfl, .noted h1 h2 h3 hc (HR.out.kept fun k hk => ?_), (h4 g hgl).trans HO.out, hch, ?_⟩
  · exact hch.block k (HR.out.low k hk) (by simp; intro e; exact hgF (e ▸ hk))
  · intro k hk
    simp only [List.mem_cons] at hk
    rcases hk with rfl | rfl | rfl | hk
    · right; omega
    · right; omega
    · right; omega
    · exact .inl hk
set_option maxRecDepth 100000 in
set_option maxHeartbeats 2000000 in
theorem runeOf64 (g K N0 : Nat) (L : List Nat) (A : Six) (n : Int) (vb rv : Value) (R : Rng) (B : Way) (F0 : List Nat) (w : World) (hO : O7 w g A n) (hR : Rep g K L w vb B F0) (hgF : g ∉ F0) (hr : w.ownsRow N0 70 2 rv R.length (fl R)) :
    Calls Try.prog 64 #[pt g, rv, vb] w fun e w' => ∃ v F, e = .returned v ∧ Mk g K L w w' A n v (.runeOf R B) (rv.ownBlock.toList ++ F0) F := by
  obtain ⟨f, fi, ca, rfl⟩ := hR.form
  obtain ⟨s1, s2, s3, rfl⟩ : ∃ s1 s2 s3, rv = .slice s1 s2 s3 := by
    rcases Joins.ownsRow_forms hr with ⟨rfl, h⟩ | ⟨b, cap, rfl⟩
    · exact ⟨none, 0, 0, rfl⟩
    · exact ⟨_, _, _, rfl⟩
  have hm := hmf
  have hgl := (Array.getElem?_eq_some_iff.1 hO).1
  have HO := hid hO
  have HR := hid hR
  have Hr := hid hr
  clear hO hR hr
  go_enter Try.func64, Try.ntmps64
  go_wp2
  go_ret
  obtain ⟨h1, h2, h3, h4⟩ := three_new w (.cells #[pt g] 60) (.cells #[.slice s1 s2 s3] 25) (.cells #[.func (.func f) fi ca] 84)
  have hch : Chg w (((w.alloc (.cells #[pt g] 60)).alloc (.cells #[.slice s1 s2 s3] 25)).alloc (.cells #[.func (.func f) fi ca] 84)) [g] [g] := (((Chg.refl w [g]).alloc _).alloc _).alloc _
  refine ⟨_, _, rfl, .runeOf h1 h2 h3 (row_kept Hr.out fun b hb => h4 b (Hr.out.lt b hb).2) (HR.out.kept fun k hk => ?_), (h4 g hgl).trans HO.out, hch, ?_⟩
  · exact hch.block k (HR.out.low k hk) (by simp; intro e; exact hgF (e ▸ hk))
  · intro k hk
    simp only [List.mem_cons, List.mem_append] at hk ⊢
    rcases hk with rfl | rfl | rfl | hk | hk
    · right; omega
    · right; omega
    · right; omega
    · exact .inl (.inl hk)
    · exact .inl (.inr hk)
set_option maxRecDepth 100000 in
set_option maxHeartbeats 2000000 in
theorem inOrder94 (g K N0 m : Nat) (L : List Nat) (sv : Value) (l : List Way) (vs : List Value) (F1 : List Nat) (w : World) (hs : w.ownsRow N0 84 1 sv l.length vs) (hR : Reps g K L w vs l F1) :
    Calls Try.prog 94 #[sv] w fun e w' => ∃ v F, e = .returned v ∧ Rep g K L w' v (.inOrder l) F ∧ Below w.heap.size w w' ∧ (∀ k ∈ F, k ∈ sv.ownBlock.toList ++ F1 ∨ w.heap.size ≤ k) := by
  obtain ⟨s1, s2, s3, rfl⟩ : ∃ s1 s2 s3, sv = .slice s1 s2 s3 := by
    rcases Joins.ownsRow_forms hs with ⟨rfl, h⟩ | ⟨b, cap, rfl⟩
    · exact ⟨none, 0, 0, rfl⟩
    · exact ⟨_, _, _, rfl⟩
  have hm := hmf
  have HS := hid hs
  have HR := hid hR
  clear hs hR
  go_enter Try.func94, Try.ntmps94
  go_wp2
  go_ret
  have hb : Below w.heap.size w (w.alloc (.cells #[.slice s1 s2 s3] 124)) := Joins.below_alloc1 w _
  refine ⟨_, _, rfl, .inOrder (heap_alloc_new w _) (row_kept HS.out fun b hb2 => hb.block b (HS.out.lt b hb2).2) (HR.out.kept fun k hk => hb.block k (HR.out.low k hk)), hb, ?_⟩
  intro k hk
  simp only [List.mem_cons, List.mem_append] at hk ⊢
  rcases hk with rfl | hk | hk
  · right; omega
  · exact .inl (.inl hk)
  · exact .inl (.inr hk)
end Go.Proofs.Ytnpocciioedgpaa
