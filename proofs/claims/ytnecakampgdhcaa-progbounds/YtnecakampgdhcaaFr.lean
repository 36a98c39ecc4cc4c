/- HELPERS: rows of nodes with a fixed length; rows that are copied; trees whose lists are their own. -/
import Derived.Test.YtnecakampgdhcaaUa
import Derived.Test.YtnecakampgdhcaaLb
import Derived.WalkLawsBesides
import Derived.Lib.LazyBuf
import Derived.Deep.Cut
import Derived.Laws.Rows
import Derived.Deep.MidRow
import Derived.Deep.OwnRows
namespace Go.Proofs.Ytnecakampgdhcaa
open Go.RowKit
set_option linter.unusedVariables false
set_option linter.unusedSimpArgs false
abbrev Z9 : Value := .agg #[.int .i64 0, .slice none 0 0, .int .i64 0, .slice none 0 0, .int .i64 0, .int .i64 0, .bool false, .int .i64 0, .string ⟨#[]⟩]
theorem info25 : (Try.prog.info? 39).map (fun i => (i.zero, i.size, i.bytes)) = some (some Z9, 9, 112) := by kernel_rfl
theorem info53 : (Try.prog.info? 49).map (fun i => (i.zero, i.size, i.bytes)) = some (some (.agg #[.int .i64 0, .int .i64 0]), 2, 16) := by kernel_rfl
theorem size25 : (Try.prog.info? 39).map (·.size) = some 9 := by kernel_rfl
theorem one9 (M : Nv) : ∀ u ∈ Nv.cs M, u.oneCell' = true := by
  intro u hu
  simp only [Nv.cs, List.mem_cons, List.not_mem_nil, or_false] at hu
  rcases hu with rfl | rfl | rfl | rfl | rfl | rfl | rfl | rfl | rfl <;> rfl
theorem one9a (M : Nv) : (#[.int .i64 M.k, .slice M.r1 M.r2 M.r3, .int .i64 M.a2, .slice M.s1 M.s2 M.s3, .int .i64 M.a4, .int .i64 M.a5, .bool M.a6, .int .i64 M.a7, .string M.a8] : Array Value).all (·.oneCell') = true := by simp [Value.oneCell']
/-- a row of nodes of fixed length -/
def FRn (w : World) (b n : Nat) (f : Nat → Nv) : Prop := (∃ arr : Array Value, w.heap[b]? = some (.cells arr 39 (0, 0)) ∧ arr.size = n * 9) ∧ ∀ i, i < n → N9 w b 0 i (f i)
theorem FRn.kept {w w' : World} {b n : Nat} {f : Nat → Nv} (h : FRn w b n f) (hk : w'.heap[b]? = w.heap[b]?) : FRn w' b n f := by
  obtain ⟨⟨arr, h1, h2⟩, h3⟩ := h
  exact ⟨⟨arr, hk.trans h1, h2⟩, fun i hi => (h3 i hi).kept hk⟩
theorem FRn.as {w : World} {b n : Nat} {f g : Nat → Nv} (h : FRn w b n f) (he : ∀ i, i < n → f i = g i) : FRn w b n g := ⟨h.1, fun i hi => by rw [← he i hi]; exact h.2 i hi⟩
theorem FRn.lt {w : World} {b n : Nat} {f : Nat → Nv} (h : FRn w b n f) : b < w.heap.size := by
  obtain ⟨⟨arr, h1, h2⟩, h3⟩ := h
  exact (Array.getElem?_eq_some_iff.1 h1).1
theorem FRn.there {w : World} {b n : Nat} {f : Nat → Nv} (h : FRn w b n f) {i : Nat} (hi : i < n) : w.there b (i * 9) 9 := fun j hj => by
  obtain ⟨⟨arr, h1, h2⟩, h3⟩ := h
  refine ⟨?_, Joins.unfrozen_of_block h1 _⟩
  rw [Joins.cell_of_block h1, Array.getElem?_eq_getElem (by omega)]
  rfl
theorem FRn.set {w : World} {b n : Nat} {f : Nat → Nv} (h : FRn w b n f) {i : Nat} (hi : i < n) (M : Nv) : FRn (w.setCells b (i * 9) (Nv.cs M)) b n (fun j => if j = i then M else f j) := by
  have ht := h.there hi
  obtain ⟨⟨arr, h1, h2⟩, h3⟩ := h
  refine ⟨?_, fun j hj => ?_⟩
  · obtain ⟨arr', g1, g2⟩ := block_setCells (Nv.cs M) (i * 9) w arr h1
    exact ⟨arr', g1, by omega⟩
  · by_cases e : j = i
    · subst e
      have hin := World.cell?_setCells_in b (Nv.cs M) (j * 9) w (fun k hk => (ht k (by simpa using hk)).1)
      simp only [if_pos]
      unfold N9
      simp only [Nat.zero_add]
      exact ⟨hin 0 (by simp), hin 1 (by simp), hin 2 (by simp), hin 3 (by simp), hin 4 (by simp), hin 5 (by simp), hin 6 (by simp), hin 7 (by simp), hin 8 (by simp)⟩
    · have hout : ∀ k, k < 9 → (w.setCells b (i * 9) (Nv.cs M)).cell? ⟨b, 0 + j * 9 + k, none⟩ = w.cell? ⟨b, 0 + j * 9 + k, none⟩ := fun k hk => World.cell?_setCells_out b (Nv.cs M) (i * 9) w _ (fun _ _ => by simp only [List.length_cons, List.length_nil]; omega)
      simp only [if_neg e]
      obtain ⟨n0, n1, n2, n3, n4, n5, n6, n7, n8⟩ := h3 j hj
      exact ⟨(hout 0 (by omega)).trans n0, (hout 1 (by omega)).trans n1, (hout 2 (by omega)).trans n2, (hout 3 (by omega)).trans n3, (hout 4 (by omega)).trans n4, (hout 5 (by omega)).trans n5, (hout 6 (by omega)).trans n6, (hout 7 (by omega)).trans n7, (hout 8 (by omega)).trans n8⟩
theorem make9 (c : Nat) (hc : c ≤ 1000000) (w : World) : (Instr.makeSlice 37 (.int .i64 (c : Int)) (.int .i64 (c : Int))).run Try.prog w = .ok (.slice (some ⟨w.heap.size, 0, none⟩) c c) (w.alloc (.cells (madeCells Z9.cells (c * 9)) 39)) := by
  obtain ⟨i0, hi0, hz0, hz1, hz2⟩ := info_parts info25
  have h := run_make (P := Try.prog) w 37 39 i0 Z9 Try.underlying37 hi0 hz0 .i64 .i64 c c (by omega) (Int.le_refl _) (by rw [hz2]; omega) (by omega)
  simp only [Int.toNat_natCast, hz1] at h
  exact h
theorem FRn.made (w : World) (c : Nat) : FRn (w.alloc (.cells (madeCells Z9.cells (c * 9)) 39)) w.heap.size c (fun _ => default) := by
  have hb := heap_alloc_new w (.cells (madeCells Z9.cells (c * 9)) 39)
  refine ⟨⟨_, hb, size_madeCells _ _⟩, fun i hi => ?_⟩
  have hc : ∀ k, k < 9 → (w.alloc (.cells (madeCells Z9.cells (c * 9)) 39)).cell? ⟨w.heap.size, 0 + i * 9 + k, none⟩ = some (Z9.cells[k]!) := fun k hk => by
    rw [Joins.cell_of_block hb]
    have h9 : Z9.cells.size = 9 := rfl
    simp only [madeCells, h9]
    rw [Array.getElem?_map, Array.getElem?_range, if_pos (by omega)]
    simp only [Option.map_some]
    rw [show (0 + i * 9 + k) % 9 = k by omega]
  exact ⟨hc 0 (by omega), hc 1 (by omega), hc 2 (by omega), hc 3 (by omega), hc 4 (by omega), hc 5 (by omega), hc 6 (by omega), hc 7 (by omega), hc 8 (by omega)⟩
theorem nine_cases {k : Nat} (hk : k < 9) : k = 0 ∨ k = 1 ∨ k = 2 ∨ k = 3 ∨ k = 4 ∨ k = 5 ∨ k = 6 ∨ k = 7 ∨ k = 8 := by omega
theorem FRn.owns {w : World} {b n : Nat} {f : Nat → Nv} (h : FRn w b n f) (hn : n ≤ maxLen) : w.ownsRow 0 39 9 (.slice (some ⟨b, 0, none⟩) n n) n (((List.range n).map f).flatMap Nv.cs) := by
  obtain ⟨⟨arr, h1, h2⟩, h3⟩ := h
  refine ⟨by rw [flat9_len]; simp, .inr ⟨b, n, arr, rfl, Nat.zero_le _, h1, Nat.le_refl _, hn, h2, ?_⟩⟩
  apply List.ext_getElem?
  intro j
  by_cases hj : j < n * 9
  · obtain ⟨i, r, hr, rfl⟩ : ∃ i r, r < 9 ∧ j = i * 9 + r := ⟨j / 9, j % 9, by omega, by omega⟩
    have hi : i < n := by omega
    rw [flat9 ((List.range n).map f) i r (by simpa using hi) hr, List.getElem?_take_of_lt hj]
    simp only [List.getElem_map, List.getElem_range]
    obtain ⟨n0, n1, n2, n3, n4, n5, n6, n7, n8⟩ := h3 i hi
    rw [Array.getElem?_toList, ← Joins.cell_of_block h1 (i * 9 + r)]
    simp only [Nat.zero_add] at n0 n1 n2 n3 n4 n5 n6 n7 n8
    rcases nine_cases hr with rfl | rfl | rfl | rfl | rfl | rfl | rfl | rfl | rfl
    · exact n0
    · exact n1
    · exact n2
    · exact n3
    · exact n4
    · exact n5
    · exact n6
    · exact n7
    · exact n8
  · rw [List.getElem?_eq_none (by simp; omega), List.getElem?_eq_none (by rw [flat9_len]; simp; omega)]
end Go.Proofs.Ytnecakampgdhcaa
