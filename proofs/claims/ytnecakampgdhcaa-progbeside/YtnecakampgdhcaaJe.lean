/- HELPERS: programs side by side. -/
import Derived.Test.YtnecakampgdhcaaJc
import Derived.Test.YtnecakampgdhcaaTu
namespace Go.Proofs.Ytnecakampgdhcaa
open Go.RowKit
set_option linter.unusedVariables false
set_option linter.unusedSimpArgs false
set_option maxRecDepth 100000 in
set_option maxHeartbeats 4000000 in
theorem newRow31n (n : Nat) (hn : n ≤ 20000) (w : World) : Calls Try.prog 31 #[.int .i64 (n : Int)] w fun e w' => ∃ z1 c, e = .returned (.agg #[.slice z1 0 c]) ∧ w'.ownsRow w.heap.size 51 5 (.slice z1 0 c) 0 [] ∧ Below w.heap.size w w' := by
  have hmk := make51 n (by omega) (w.alloc (.cells #[.slice none 0 0] 61))
  have hs0 : (w.alloc (.cells #[.slice none 0 0] 61)).heap.size = w.heap.size + 1 := by simp
  have hown0 := made_own51 n (by unfold maxLen; omega) w.heap.size (w.alloc (.cells #[.slice none 0 0] 61)) (by simp)
  rw [hs0] at hmk hown0
  clear hs0
  have hQ : ((w.alloc (.cells #[.slice none 0 0] 61)).alloc (.cells (madeCells Z5.cells (n * 5)) 51)).heap[w.heap.size]? = some (.cells #[.slice none 0 0] 61 (0, 0)) := (heap_alloc_old _ _ (by simp)).trans (heap_alloc_new w _)
  have hbV : Below w.heap.size w ((w.alloc (.cells #[.slice none 0 0] 61)).alloc (.cells (madeCells Z5.cells (n * 5)) 51)) := below_two' w _ _
  obtain ⟨V, hV⟩ : ∃ V, V = (w.alloc (.cells #[.slice none 0 0] 61)).alloc (.cells (madeCells Z5.cells (n * 5)) 51) := ⟨_, rfl⟩
  rw [← hV] at hmk hown0 hQ hbV
  have f0 := Joins.unfrozen_of_block hQ 0
  have k0 := Joins.cell_of_block hQ 0
  have HQ := hid hQ
  have HB := hid hbV
  have HO := hid hown0
  clear hV hown0 hQ hbV
  go_enter Try.func31, Try.ntmps31
  go_wp2_with fail
  refine bodyPost_ret (results_cell_row rfl _ _ w.heap.size 61 _ (0, 0) _ rfl (Joins.block_setCell (i := 0) HQ.out _) Try.underlying61 rfl (by kernel_rfl)) rfl ?_
  exact ⟨some ⟨w.heap.size + 1, 0, none⟩, n, rfl, own_setCell HO.out (fun e => by simp [Value.ownBlock] at e), HB.out.setCell (p := ⟨w.heap.size, 0, none⟩) (Nat.le_refl _) _⟩
/-- the OpAlts as they are first laid down -/
def altJ (L : List Pg) (i : Nat) : In := ⟨2, entry L i, (i : Int) + 1, 0, []⟩
theorem alts_last (L : List Pg) (n : Nat) (hn : L.length = n + 2) : ((List.range (n + 1)).map (altJ L)).set n ⟨2, entry L n, entry L (n + 1), 0, []⟩ = altsL L (n + 1) := by
  apply List.ext_getElem
  · simp [altsL]
  · intro j h1 h2
    simp [altsL] at h2
    by_cases e : n = j
    · subst e; simp [altsL, altI, hn]
    · rw [List.getElem_set_ne e]
      simp [altsL, altI, altJ, hn]
      intro h; omega
theorem flat5_setY : ∀ (MS : List Iv) (i : Nat) (y : Int) (hi : i < MS.length), (MS.flatMap Iv.cs).set (i * 5 + 2) (.int .i64 y) = (MS.set i { MS[i] with y := y }).flatMap Iv.cs
  | [], i, y, hi => by simp at hi
  | M :: MS, 0, y, hi => rfl
  | M :: MS, i + 1, y, hi => by
    have h := flat5_setY MS i y (by simpa using hi)
    rw [show (i + 1) * 5 + 2 = (i * 5 + 2) + 5 by omega]
    exact congrArg (Iv.cs M ++ ·) h
/-- one number of an instruction is written anew -/
theorem GR.setY {w : World} {base g n c : Nat} {MS : List Iv} {l : List In} (h : GR w base (.slice (some ⟨g, 0, none⟩) n c) MS l) (i : Nat) (hi : i < l.length) (y : Int) :
    ∃ MS', GR (w.setCell ⟨g, i * 5 + 2, none⟩ (.int .i64 y)) base (.slice (some ⟨g, 0, none⟩) n c) MS' (l.set i { l[i] with y := y }) := by
  obtain rfl : n = l.length := row_len h.row
  have hm := h.lms
  have him : i < MS.length := by omega
  obtain ⟨M, hM⟩ : ∃ M, M = MS[i] := ⟨_, rfl⟩
  have hk : ∀ b, b ≠ g → (w.setCell ⟨g, i * 5 + 2, none⟩ (.int .i64 y)).heap[b]? = w.heap[b]? := fun b hb => Below.heap_setCell _ _ _ _ hb
  have hset := row_setC h.row (i * 5 + 2) (.int .i64 y)
  have hfl : ((MS.flatMap Iv.cs).set (i * 5 + 2) (.int .i64 y)) = (MS.set i { MS[i] with y := y }).flatMap Iv.cs := by
    exact flat5_setY MS i y him
  rw [hfl] at hset
  have hget : ∀ j, (MS.set i { MS[i] with y := y }).getD j default = if j = i then { MS[i] with y := y } else MS.getD j default := fun j => by
    by_cases e : j = i
    · subst e; rw [if_pos rfl]; simp [List.getD_eq_getElem?_getD, him]
    · rw [if_neg e]; simp [List.getD_eq_getElem?_getD, List.getElem?_set_ne (fun e' => e e'.symm)]
  have hgi : MS.getD i default = MS[i] := by simp [List.getD_eq_getElem?_getD, List.getElem?_eq_getElem him]
  refine ⟨MS.set i { MS[i] with y := y }, by simpa using hm, by simpa using hset, fun j hj => ?_, fun j j' b hj hj' hne h1 h2 => ?_⟩
  · have hjl : j < l.length := by simpa using hj
    have hO := h.lo j hjl
    have hO2 := row_kept hO.rr (w' := w.setCell ⟨g, i * 5 + 2, none⟩ (.int .i64 y)) (fun b hb => hk b (fun e => hO.ne b hb (by rw [e]; rfl)))
    rw [hget]
    by_cases e : i = j
    · subst e
      rw [if_pos rfl, List.getElem_set_self]
      rw [hgi] at hO hO2
      exact ⟨hO.op, hO.x, rfl, hO.a, hO.len, hO.sm, hO2, hO.ne⟩
    · rw [if_neg (fun e' => e e'.symm), List.getElem_set_ne e]
      exact ⟨hO.op, hO.x, hO.y, hO.a, hO.len, hO.sm, hO2, hO.ne⟩
  · have hrv : ∀ q, ((MS.set i { MS[i] with y := y }).getD q default).rv = (MS.getD q default).rv := fun q => by
      rw [hget]
      by_cases e : q = i
      · rw [if_pos e, e, hgi]
      · rw [if_neg e]
    rw [hrv] at h1 h2
    exact h.pw j j' b (by simpa using hj) (by simpa using hj') hne h1 h2
end Go.Proofs.Ytnecakampgdhcaa
