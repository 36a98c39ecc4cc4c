/- HELPERS: the sort of a row of ranges that the call owns. -/
import Derived.Test.YtjglehklfdhgaaaDoorMerge
import Derived.Lib.OwnBridge
namespace Go.Proofs.YtjglehklfdhgaaaDoor
open Go.Shelf Go.RowKit Go.Lib Go.Sort Go.Mx
set_option linter.unusedVariables false
set_option linter.unusedSimpArgs false
theorem toArr_get (L : List (Int × Int)) (k : Nat) (h : k < L.length) : (L.toArray)[k]! = L.getD k (0, 0) := by
  simp [h]
theorem flat_get (L : List (Int × Int)) (k : Nat) (h : k < L.length) : (flatK encR 2 L.toArray)[k * 2]! = .int .i64 (L.getD k (0, 0)).1 ∧ (flatK encR 2 L.toArray)[k * 2 + 1]! = .int .i64 (L.getD k (0, 0)).2 := by
  have hs : L.toArray.size = L.length := by simp
  have h1 : k * 2 / 2 = k := by omega
  have h2 : (k * 2 + 1) / 2 = k := by omega
  have h3 : k * 2 % 2 = 0 := by omega
  have h4 : (k * 2 + 1) % 2 = 1 := by omega
  rw [get_flatK encR 2 L.toArray (k * 2) (by rw [hs]; omega), get_flatK encR 2 L.toArray (k * 2 + 1) (by rw [hs]; omega), h1, h2, h3, h4, toArr_get L k h]
  exact ⟨rfl, rfl⟩
theorem holdsK_own {w : World} {N g cap : Nat} {L : List (Int × Int)} (h : w.ownsRow N 57 2 (.slice (some ⟨g, 0, none⟩) L.length cap) L.length (fl L)) : HoldsK encR 2 w g 0 L.toArray := by
  intro j hj
  rw [size_flatK] at hj
  have hs : L.toArray.size = L.length := by simp
  rw [hs] at hj
  refine ⟨?_, by rw [Nat.zero_add]; exact h.frozenAt j⟩
  rw [Nat.zero_add, h.cellAt j hj]
  have hk : j / 2 < L.length := by omega
  have hf := fl_getD L (j / 2) hk
  have hg := flat_get L (j / 2) hk
  rcases (show j = j / 2 * 2 ∨ j = j / 2 * 2 + 1 by omega) with he | he
  · rw [he]
    rw [hf.1, hg.1]; rfl
  · rw [he]
    rw [hf.2, hg.2]; rfl
theorem below_grow {B : Nat} {w0 w : World} (h : Below B w0 w) (hB : B ≤ w.heap.size) (os : Array Obj) : Below B w0 (grow w os) :=
  ⟨h.os, h.tape, h.output, by rw [size_grow]; have := h.size; omega, fun k hk => by rw [heap_grow_old w os (by omega)]; exact h.block k hk⟩
/-- the sort of a row that the call owns: what its cells hold -/
theorem sort_row (N : Nat) (L : List (Int × Int)) (n g cap : Nat) (w : World) (hn : n = L.length) (hown : w.ownsRow N 57 2 (.slice (some ⟨g, 0, none⟩) n cap) n (fl L)) (hsz : n < 4611686018427387904) :
    Calls Tryd.prog 57 #[.slice (some ⟨g, 0, none⟩) n cap, .func (.func 58) #[] #[]] w fun e w' => e = .returned (.tuple #[]) ∧ ∃ D : List (Int × Int), D.Perm L ∧ D.Pairwise (fun x y => x.1 ≤ y.1) ∧
      (∀ k, k < n → w'.cell? ⟨g, 0 + k * 2, none⟩ = some (.int .i64 (D.getD k (0, 0)).1)) ∧ (∀ k, k < n → w'.cell? ⟨g, 0 + k * 2 + 1, none⟩ = some (.int .i64 (D.getD k (0, 0)).2)) ∧ g < w'.heap.size ∧ Below N w w' := by
  subst hn
  have hb : N ≤ g ∧ g < w.heap.size := hown.lt _ rfl
  have hH := holdsK_own hown
  have hs : L.toArray.size = L.length := by simp
  have hc := sort57 g 0 cap L.toArray w hH hb.2 (by rw [hs]; exact hsz)
  rw [hs] at hc
  refine hc.mono ?_
  rintro e w' ⟨rfl, d', m, os, hp, hso, rfl⟩
  obtain ⟨hp1, _, hp3⟩ := hp
  rw [hs] at hp1
  have hD : d'.toList.toArray = d' := by simp
  have hDl : d'.toList.length = L.length := by simpa using hp1
  refine ⟨rfl, d'.toList, ?_, ?_, ?_, ?_, ?_, ?_⟩
  · have e1 : d'.extract 0 L.length = d' := by rw [← hp1]; simp
    have e2 : (L.toArray).extract 0 L.length = L.toArray := by rw [← hs]; simp
    rw [e1, e2] at hp3
    simpa using hp3
  · rw [List.pairwise_iff_getElem]
    intro i j hi hj hij
    have := hso i j (Nat.zero_le _) hij (by omega)
    rw [ltLo] at this
    have gi : d'[i]! = d'.toList[i] := by simp at hi; simp [hi]
    have gj : d'[j]! = d'.toList[j] := by simp at hj; simp [hj]
    rw [gi, gj] at this
    simpa using this
  all_goals unfold sortWorldK putRowK
  · intro k hk
    rw [cell?_grow _ _ _ (by simpa using hb.2)]
    have h2 := cell?_putRow (id : Value → Value) (Sort.ahead w m) g 0 (flatK encR 2 L.toArray) (flatK encR 2 d') hH (by rw [size_flatK, size_flatK, hs, hp1]) (k * 2) (by rw [size_flatK, hp1]; omega)
    rw [h2, ← hD, (flat_get d'.toList k (by omega)).1, hD]; rfl
  · intro k hk
    rw [cell?_grow _ _ _ (by simpa using hb.2)]
    have h2 := cell?_putRow (id : Value → Value) (Sort.ahead w m) g 0 (flatK encR 2 L.toArray) (flatK encR 2 d') hH (by rw [size_flatK, size_flatK, hs, hp1]) (k * 2 + 1) (by rw [size_flatK, hp1]; omega)
    rw [show 0 + k * 2 + 1 = 0 + (k * 2 + 1) by omega, h2, ← hD, (flat_get d'.toList k (by omega)).2, hD]; rfl
  · simp; omega
  · exact below_grow (below_putRow (Below.refl _ _) hb.1) (by simp; omega) os
set_option maxHeartbeats 1000000 in
set_option maxRecDepth 1000000 in
theorem ins65 (ad : Option Addr) (cap : Nat) (f : Value) (w : World) : Calls Tryd.prog 65 #[.slice ad 0 cap, .int .i64 0, .int .i64 0, f] w fun e w' => e = .returned (.tuple #[]) ∧ w' = w := by
  go_enter Tryd.func65, Tryd.ntmps65
  go_wp2
  refine wp_loop_rounds 1 ?_
  rw [rounds_succ]
  go_wp2
  go_end0
  exact ⟨rfl, rfl⟩
set_option maxHeartbeats 1000000 in
set_option maxRecDepth 1000000 in
theorem pdq63 (ad : Option Addr) (cap : Nat) (l : Int) (f : Value) (w : World) : Calls Tryd.prog 63 #[.slice ad 0 cap, .int .i64 0, .int .i64 0, .int .i64 l, f] w fun e w' => e = .returned (.tuple #[]) ∧ w' = w := by
  go_enter Tryd.func63, Tryd.ntmps63
  go_wp2
  refine wp_loop_rounds 1 ?_
  rw [rounds_succ]
  go_wp2_with (go_at_call 65; refine (ins65 _ _ _ _).mono ?_; rintro e w' ⟨rfl, rfl⟩)
  refine bodyPost_ret (results_none rfl _ _ _) rfl ?_
  exact ⟨rfl, rfl⟩
set_option maxHeartbeats 1000000 in
set_option maxRecDepth 1000000 in
theorem sort_none (ad : Option Addr) (cap : Nat) (w : World) : Calls Tryd.prog 57 #[.slice ad 0 cap, .func (.func 58) #[] #[]] w fun e w' => e = .returned (.tuple #[]) ∧ w' = w := by
  have hl : ∀ W, Calls Tryd.prog 64 #[.int .u64 0] W fun e w' => e = .returned (.int .i64 (Lib.bitLen 0 : Nat)) ∧ w' = W := by
    intro W
    have h := Any.bits_Len (SlLaysF0.n15.bits (P := Tryd.prog) (ρ := Tryd.sortRng_ren) { Tryd.sortRng with }) 0 W (by omega) (by omega)
    exact h
  go_enter Tryd.func57, Tryd.ntmps57
  go_wp2_with (first | (go_at_call 64; refine (hl _).mono ?_; rintro e w' ⟨rfl, rfl⟩) | (go_at_call 63; refine (pdq63 _ _ _ _ _).mono ?_; rintro e w' ⟨rfl, rfl⟩))
  go_end0
  exact ⟨rfl, rfl⟩
end Go.Proofs.YtjglehklfdhgaaaDoor
