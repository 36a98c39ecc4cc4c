/- HELPERS: the contract of runes.gather. -/
import Derived.Test.YtjglehklfdhgaaaDoorSortB
namespace Go.Proofs.YtjglehklfdhgaaaDoor
open Go.Shelf Go.RowKit Go.Lib Go.Sort Go.Mx
set_option linter.unusedVariables false
set_option linter.unusedSimpArgs false
/-- a slice value whose cells hold ranges, in a block below N -/
def RowAt (N : Nat) (w : World) (v : Value) (L : List (Int × Int)) : Prop := ∃ ad cap, v = .slice ad L.length cap ∧ (L.length = 0 ∨ ∃ b off, ad = some ⟨b, off, none⟩ ∧ b < N ∧
  (∀ k, k < L.length → w.cell? ⟨b, off + k * 2, none⟩ = some (.int .i64 (L.getD k (0, 0)).1)) ∧ (∀ k, k < L.length → w.cell? ⟨b, off + k * 2 + 1, none⟩ = some (.int .i64 (L.getD k (0, 0)).2)))
theorem partsOf_len (g : Int × Int) : (partsOf g).length ≤ 2 := by unfold partsOf; split <;> split <;> simp
def allParts (L : List (Int × Int)) : List (Int × Int) := L.flatMap partsOf
theorem allParts_len (L : List (Int × Int)) : (allParts L).length ≤ 2 * L.length := by
  induction L with
  | nil => simp [allParts]
  | cons a t ih => have := partsOf_len a; simp only [allParts, List.flatMap_cons, List.length_append, List.length_cons] at *; omega
theorem allParts_append (A B : List (Int × Int)) : allParts (A ++ B) = allParts A ++ allParts B := by simp [allParts]
theorem allParts_bd (L : List (Int × Int)) (h : bdB L) : bdB (allParts L) := by
  intro g hg
  simp only [allParts, List.mem_flatMap] at hg
  obtain ⟨a, ha, hg⟩ := hg
  have := h a ha
  unfold partsOf at hg
  rw [List.mem_append] at hg
  rcases hg with hg | hg
  · split at hg
    · simp at hg; subst hg; simp only; omega
    · simp at hg
  · split at hg
    · simp at hg; subst hg; simp only; omega
    · simp at hg
theorem take_snoc' (L : List (Int × Int)) (k : Nat) (h : k < L.length) : L.take (k + 1) = L.take k ++ [L.getD k (0, 0)] := by
  rw [List.take_succ_eq_append_getElem h]; simp [h]
theorem flat_snoc (LL : List (List (Int × Int))) (j : Nat) (h : j < LL.length) : (LL.take (j + 1)).flatten = (LL.take j).flatten ++ LL.getD j [] := by
  rw [List.take_succ_eq_append_getElem h, List.flatten_append]; simp [h]
theorem flat_len (LL : List (List (Int × Int))) (j : Nat) : (LL.take j).flatten.length ≤ LL.flatten.length := by
  have h : LL.flatten = (LL.take j).flatten ++ (LL.drop j).flatten := by rw [← List.flatten_append, List.take_append_drop]
  rw [h, List.length_append]; omega
theorem mergeL_len (D : List (Int × Int)) : (mergeL D).length ≤ D.length := by
  have h : ∀ (L O : List (Int × Int)), (L.foldl mstep O).length ≤ O.length + L.length := by
    intro L
    induction L with
    | nil => intro O; simp
    | cons a t ih => intro O; have h1 := ih (mstep O a); have h2 := mstep_len O a; simp only [List.foldl_cons, List.length_cons] at *; omega
  have := h D []
  simpa [mergeL] using this
set_option maxHeartbeats 1000000 in
set_option maxRecDepth 1000000 in
theorem merge_none (ad : Option Addr) (cap : Nat) (w : World) : Calls Tryd.prog 59 #[.slice ad 0 cap] w fun e w' => e = .returned (.slice none 0 0) ∧ w' = w := by
  go_enter Tryd.func59, Tryd.ntmps59
  go_wp2
  refine wp_loop_rounds 1 ?_
  rw [rounds_succ]
  go_wp2
  go_ret
  exact ⟨rfl, rfl⟩
/-- the tail of gather -/
def GatherEnd (N : Nat) (w w' : World) (e : Ending) (P : List (Int × Int)) : Prop :=
  ∃ D : List (Int × Int), D.Perm P ∧ D.Pairwise (fun x y => x.1 ≤ y.1) ∧ Below N w w' ∧
    (if (mergeL D).length ≤ 5000 then ∃ v, e = .returned (.tuple #[v, .int .i64 0]) ∧ w'.ownsRow N 57 2 v (mergeL D).length (fl (mergeL D)) else e = .returned (.tuple #[.slice none 0 0, .int .i64 3]))
set_option maxHeartbeats 2000000 in
set_option maxRecDepth 1000000 in
theorem gather47 (LL : List (List (Int × Int))) (lb loff m lcap S : Nat) (w : World) (hm : Hid (m = LL.length)) (hS : Hid (LL.flatten.length ≤ S)) (hS2 : S ≤ 2199023255552) (hm2 : m ≤ 1000000)
    (hB : Hid (bdB LL.flatten)) (hlb : lb < w.heap.size)
    (hl : Hid (∀ j, j < m → ∃ v, w.cell? ⟨lb, loff + j, none⟩ = some v ∧ RowAt w.heap.size w v (LL.getD j []))) :
    Calls Tryd.prog 47 #[.slice (some ⟨lb, loff, none⟩) m lcap] w fun e w' => GatherEnd w.heap.size w w' e (allParts LL.flatten) := by
  go_enter Tryd.func47, Tryd.ntmps47
  go_wp2
  go_loopw [4, 12] (fun v i wr => ∃ (j : Nat) (n : Nat) (P : List (Int × Int)), j ≤ m ∧ n ≤ 2 * S ∧ i = .int .i64 j ∧ wr.ownsRow w.heap.size 57 2 v n (fl P) ∧ Below w.heap.size w wr ∧ Hid (P = allParts (LL.take j).flatten ∧ n = P.length))
    (fun _ i _ => m - (intOf i).toNat)
  case atStart => exact ⟨0, 0, [], by omega, by omega, rfl, World.ownsRow_nil _ _ _ _, Below.refl _ _, by exact ⟨by simp [allParts], rfl⟩⟩
  case round =>
    obtain ⟨j, n, P, hj, hn, rfl, hown, hbw, HR⟩ := hrel
    have hsz := hbw.size
    by_cases hlt : j < m
    · obtain ⟨v1, hv1, ad, cp, rfl, hrow⟩ := hl.out j hlt
      have hc := (hbw.cell (p := ⟨lb, loff + j, none⟩) hlb).trans hv1
      have hsn := flat_snoc LL j (by rw [← hm.out]; exact hlt)
      have hfl := flat_len LL (j + 1)
      rw [hsn, List.length_append] at hfl
      have hpl := allParts_len (LL.take j).flatten
      rw [← HR.out.1, ← HR.out.2] at hpl
      have hSo := hS.out
      generalize hL : LL.getD j [] = L at *
      have HL : Hid (LL.getD j [] = L) := hL
      have hq : Hid ((LL.take (j + 1)).flatten = (LL.take j).flatten ++ L) := hsn
      clear hL hsn hv1
      generalize hlen : L.length = len at *
      have HLEN : Hid (L.length = len) := hlen
      clear hlen
      generalize hfn : (LL.take j).flatten.length = fn at *
      generalize hft : LL.flatten.length = ft at *
      clear hfn hft
      go_wp2
      go_loopw [4, 18] (fun v i wr => ∃ (k : Nat) (n : Nat) (P : List (Int × Int)), k ≤ len ∧ n ≤ 2 * fn + 2 * k ∧ i = .int .i64 k ∧ wr.ownsRow w.heap.size 57 2 v n (fl P) ∧ Below w.heap.size w wr ∧ Hid (P = allParts ((LL.take j).flatten ++ L.take k) ∧ n = P.length))
        (fun _ i _ => len - (intOf i).toNat)
      case atStart => exact ⟨0, n, P, by omega, by omega, rfl, hown, hbw, by exact ⟨by rw [HR.out.1]; simp, HR.out.2⟩⟩
      case round =>
        clear hown hbw HR hsz
        obtain ⟨k, n, P, hk, hn, rfl, hown, hbw, HR⟩ := hrel
        have hsz := hbw.size
        by_cases hlt2 : k < len
        · obtain ⟨b, off, rfl, hbN, hc0, hc1⟩ := hrow.resolve_left (by omega)
          have d0 := (hbw.cell (p := ⟨b, off + k * 2, none⟩) hbN).trans (hc0 k (by omega))
          have d1 := (hbw.cell (p := ⟨b, off + k * 2 + 1, none⟩) hbN).trans (hc1 k (by omega))
          have hts := take_snoc' L k (by rw [HLEN.out]; exact hlt2)
          generalize L.getD k (0, 0) = g at d0 d1 hts
          obtain ⟨lo, hi⟩ := g
          simp only at d0 d1
          have HTS : Hid (L.take (k + 1) = L.take k ++ [(lo, hi)]) := hts
          have hpl2 := partsOf_len (lo, hi)
          clear hts hc0 hc1 hrow
          have hcall := parts56 w.heap.size P n (lo := lo) (hi := hi) (w := wr.alloc (.cells #[.int .i64 lo, .int .i64 hi] 57)) _ (hown.alloc _) (by simp; omega) (by omega)
          go_wp2_with (go_at_call 56; refine hcall.mono ?_; rintro e w' ⟨v', rfl, ho, hb2⟩)
          have hb3 : Below w.heap.size w w' := (hbw.alloc hsz _).trans hb2
          go_roundw
          case rel =>
            refine ⟨k + 1, n + (partsOf (lo, hi)).length, P ++ partsOf (lo, hi), by omega, by omega, by go_num, ho, hb3, ?_⟩
            exact ⟨by rw [HTS.out, ← List.append_assoc, allParts_append, ← HR.out.1]; simp [allParts], by rw [List.length_append, ← HR.out.2]⟩
          case measure => simp [intOf]; omega
        · obtain rfl : k = len := by omega
          go_wp2
          go_roundw
          case rel =>
            refine ⟨j + 1, n, P, by omega, by omega, by go_num, hown, hbw, ?_⟩
            refine ⟨?_, HR.out.2⟩
            rw [hq.out, HR.out.1, ← HLEN.out, List.take_length]
          case measure => simp [intOf]; omega
    · obtain rfl : j = m := by omega
      have hP : P = allParts LL.flatten := by rw [HR.out.1, List.take_of_length_le (by rw [← hm.out]; exact Nat.le_refl _)]
      have HP : Hid (P = allParts LL.flatten) := hP
      have HPn : Hid (n = P.length) := HR.out.2
      have hPB : Hid (bdB P) := by rw [hP]; exact allParts_bd _ hB.out
      clear hP HR
      rcases Joins.ownsRow_forms hown with ⟨rfl, h0⟩ | ⟨g, cp, rfl⟩
      · have hP0 : P = [] := List.eq_nil_of_length_eq_zero (by rw [← HPn.out]; exact h0)
        have hEnd : ∀ e W, e = Ending.returned (.tuple #[.slice none 0 0, .int .i64 0]) → W = wr → GatherEnd w.heap.size w W e (allParts LL.flatten) := by
          intro e W he hW
          subst hW
          rw [← HP.out, hP0]
          exact ⟨[], List.Perm.refl _, List.Pairwise.nil, hbw, by rw [if_pos (by simp [mergeL])]; exact ⟨_, he, World.ownsRow_nil _ _ _ _⟩⟩
        clear hP0
        go_wp2_with (first | (go_at_call 57; refine (sort_none _ _ _).mono ?_; rintro e w' ⟨rfl, rfl⟩) | (go_at_call 59; refine (merge_none _ _ _).mono ?_; rintro e w' ⟨rfl, rfl⟩))
        go_ret2
        exact hEnd _ _ rfl rfl
      · by_cases h0 : n = 0
        · have hP0 : P = [] := List.eq_nil_of_length_eq_zero (by rw [← HPn.out]; exact h0)
          have hEnd : ∀ e W, e = Ending.returned (.tuple #[.slice none 0 0, .int .i64 0]) → W = wr → GatherEnd w.heap.size w W e (allParts LL.flatten) := by
            intro e W he hW
            subst hW
            rw [← HP.out, hP0]
            exact ⟨[], List.Perm.refl _, List.Pairwise.nil, hbw, by rw [if_pos (by simp [mergeL])]; exact ⟨_, he, World.ownsRow_nil _ _ _ _⟩⟩
          clear hP0
          subst h0
          go_wp2_with (first | (go_at_call 57; refine (sort_none _ _ _).mono ?_; rintro e w' ⟨rfl, rfl⟩) | (go_at_call 59; refine (merge_none _ _ _).mono ?_; rintro e w' ⟨rfl, rfl⟩))
          go_ret2
          exact hEnd _ _ rfl rfl
        · have hsort := sort_row w.heap.size P n g cp wr HPn.out hown (by omega)
          go_wp2_with (go_at_call 57; refine hsort.mono ?_; rintro e w1 ⟨rfl, D, hp, hso, hc0, hc1, hg1, hb1⟩)
          have hDn : Hid (n = D.length) := by rw [HPn.out]; exact hp.length_eq.symm
          have hDB : Hid (bdB D) := fun x hx => hPB.out x (hp.mem_iff.1 hx)
          have hbw1 := hbw.trans hb1
          have hsz1 := hbw1.size
          refine (merge59 D g 0 n cp w1 hDn (by omega) hDB hc0 hc1 hg1).mono ?_
          rintro e w2 ⟨v2, rfl, ho2, hb2⟩
          have hbw2 := hbw1.trans (hb2.mono hsz1)
          have ho3 := Joins.ownsRow_le ho2 hsz1
          have hD2 : D.Perm (allParts LL.flatten) := by rw [← HP.out]; exact hp
          have hEnd : ∀ e, (if (mergeL D).length ≤ 5000 then ∃ v, e = Ending.returned (.tuple #[v, .int .i64 0]) ∧ w2.ownsRow w.heap.size 57 2 v (mergeL D).length (fl (mergeL D)) else e = .returned (.tuple #[.slice none 0 0, .int .i64 3])) → GatherEnd w.heap.size w w2 e (allParts LL.flatten) :=
            fun e h => ⟨D, hD2, hso, hbw2, h⟩
          have hql : (mergeL D).length ≤ 1000000000000000 := by have := mergeL_len D; rw [← hDn.out] at this; omega
          clear hc0 hc1 hb1 hb2 ho2 hsort hown hbw
          generalize hq : (mergeL D).length = q at hEnd ho3 hql
          have Hq : Hid ((mergeL D).length = q) := hq
          clear hq
          by_cases h5 : q ≤ 5000
          · rcases Joins.ownsRow_forms ho3 with ⟨rfl, h6⟩ | ⟨g2, cp2, rfl⟩
            · have hE := hEnd (Ending.returned (.tuple #[.slice none 0 0, .int .i64 0])) (by rw [if_pos h5]; exact ⟨_, rfl, ho3⟩)
              have HE : Hid (GatherEnd w.heap.size w w2 (Ending.returned (.tuple #[.slice none 0 0, .int .i64 0])) (allParts LL.flatten)) := hE
              clear hE hEnd
              go_wp2
              go_ret2
              exact HE.out
            · have hE := hEnd (Ending.returned (.tuple #[.slice (some ⟨g2, 0, none⟩) q cp2, .int .i64 0])) (by rw [if_pos h5]; exact ⟨_, rfl, ho3⟩)
              have HE : Hid (GatherEnd w.heap.size w w2 (Ending.returned (.tuple #[.slice (some ⟨g2, 0, none⟩) q cp2, .int .i64 0])) (allParts LL.flatten)) := hE
              clear hE hEnd
              go_wp2
              go_ret2
              exact HE.out
          · have hE := hEnd (Ending.returned (.tuple #[.slice none 0 0, .int .i64 3])) (by rw [if_neg h5])
            have HE : Hid (GatherEnd w.heap.size w w2 (Ending.returned (.tuple #[.slice none 0 0, .int .i64 3])) (allParts LL.flatten)) := hE
            clear hE hEnd
            rcases Joins.ownsRow_forms ho3 with ⟨rfl, h6⟩ | ⟨g2, cp2, rfl⟩
            · omega
            · go_wp2
              go_ret2
              exact HE.out
end Go.Proofs.YtjglehklfdhgaaaDoor
