/- HELPERS: the contract of awake, the examples at the head of each law. -/
import Derived.Test.YtjglehklfdhgaaaDoorNorm
namespace Go.Proofs.YtjglehklfdhgaaaDoor
open Go.Shelf Go.RowKit Go.Lib Go.Sort Go.Mx
set_option linter.unusedVariables false
set_option linter.unusedSimpArgs false
theorem bytes_new (W0 : World) (g : Nat) (hg : g = W0.heap.size) (l : List Int) : Bytes (W0.alloc (.cells (l.map (Value.int .u8)).toArray 5)) g 0 l := by
  intro k hk
  rw [Nat.zero_add, World.cell?_alloc_at _ _ _ _ hg]
  simp [hk]
theorem tabs_alloc {W0 : World} (h : Tabs W0) (h2 : 2 ≤ W0.heap.size) (o : Obj) : Tabs (W0.alloc o) := h.below ((Below.refl W0.heap.size W0).alloc (Nat.le_refl _) o) h2
theorem tabs_drewN {W0 : World} (h : Tabs W0) (n : Nat) : Tabs (W0.drewN n) := h
theorem decode_new (W0 : World) (g n : Nat) (l : List Int) (cs : Array Value) (hcs : cs = (l.map (Value.int .u8)).toArray) (hg : g = W0.heap.size) (hn : n = l.length) (hne : l ≠ []) (hl : ByteL l) (hs : n ≤ 1000) (hT : Tabs W0) (h2 : 2 ≤ W0.heap.size) :
    Calls Tryd.prog 12 #[.slice (some ⟨g, 0, none⟩) n n] (W0.alloc (.cells cs 5)) fun e w' => e = .returned (.tuple #[.int .i64 (dec l).1, .int .i64 (dec l).2]) ∧ ∃ q, w' = (W0.alloc (.cells cs 5)).drewN q := by
  subst hcs
  exact decode_any l hne g 0 n n _ hn (by omega) (by omega) (by omega) (tabs_alloc hT h2 _) (bytes_new W0 g hg l) hl
theorem cut_new (W0 : World) (g n : Nat) (l : List Int) (cs : Array Value) (hcs : cs = (l.map (Value.int .u8)).toArray) (hg : g = W0.heap.size) (hn : n = l.length) (hl : ByteL l) (hs : n ≤ 1000) (hT : Tabs W0) (h2 : 2 ≤ W0.heap.size) :
    Calls Tryd.prog 13 #[.slice (some ⟨g, 0, none⟩) n n] (W0.alloc (.cells cs 5)) fun e w' => ∃ g2, W0.heap.size + 1 < g2 ∧
     e = .returned (.tuple #[.slice (some ⟨W0.heap.size + 1, 0, none⟩) (cut l).length n, .slice (some ⟨g2, 0, none⟩) ((cut l).length + 1) (n + 1)]) ∧
     w'.ownsRow (W0.heap.size + 1) 3 1 (.slice (some ⟨W0.heap.size + 1, 0, none⟩) (cut l).length n) (cut l).length (I64 (runesOf (cut l))) ∧
     w'.ownsRow (W0.heap.size + 1) 3 1 (.slice (some ⟨g2, 0, none⟩) ((cut l).length + 1) (n + 1)) ((cut l).length + 1) (I64 (placesOf (cut l) ++ [(n : Int)])) ∧
     Below (W0.heap.size + 1) (W0.alloc (.cells cs 5)) w' := by
  subst hcs
  have h := cut_any l g 0 n n (W0.alloc (.cells (l.map (Value.int .u8)).toArray 5)) hn (by omega) (by omega) (by omega) (tabs_alloc hT h2 _) (bytes_new W0 g hg l) hl (by simp; omega) (by simp; omega)
  simpa using h
theorem byteL_of (l : List Int) (h : l.all (fun x => decide (0 ≤ x ∧ x < 256)) = true) : ByteL l := by
  intro k
  by_cases hk : k < l.length
  · have : l.getD k 0 ∈ l := by simp [hk]
    simpa using (List.all_eq_true.1 h) _ this
  · simp [List.getD_eq_getElem?_getD, List.getElem?_eq_none (by omega : l.length ≤ k)]
theorem ex_dec1 : dec [195, 169, 97] = (233, 2) := by decide
theorem ex_dec2 : dec [128] = (65533, 1) := by decide
theorem ex_cut : cut [97, 226, 130, 98] = [(97, 0), (65533, 1), (65533, 2), (98, 3)] := by decide
theorem sorted_two {D : List (Int × Int)} (hp : D.Perm [(97, 99), (48, 48)]) (hs : D.Pairwise (fun x y => x.1 ≤ y.1)) : D = [(48, 48), (97, 99)] := by
  have hl := hp.length_eq
  match D, hl with
  | [a, b], _ =>
    have ha := hp.mem_iff (a := a)
    have hb := hp.mem_iff (a := b)
    have h1 := (hp.mem_iff (a := (97, 99))).2 (by simp)
    have h2 := (hp.mem_iff (a := (48, 48))).2 (by simp)
    simp at ha hb h1 h2 hs
    rcases ha with rfl | rfl <;> rcases hb with rfl | rfl <;> simp_all
theorem norm_two {N : Nat} {w w' : World} {e : Ending} (h : NormEnd N w w' e [(97, 99), (48, 48)]) : ∃ v, e = .returned (.tuple #[v, .int .i64 0]) ∧ w'.ownsRow N 57 2 v 2 (fl [(48, 48), (97, 99)]) ∧ Below N w w' := by
  unfold NormEnd at h
  rw [if_pos (by decide)] at h
  obtain ⟨D, h1, h2, h3, h4⟩ := h
  have hA : allParts [(97, 99), (48, 48)] = [(97, 99), (48, 48)] := by decide
  rw [hA] at h1
  have hD := sorted_two h1 h2
  subst hD
  have hm : mergeL [(48, 48), (97, 99)] = [(48, 48), (97, 99)] := by decide
  rw [hm, if_pos (by decide)] at h4
  obtain ⟨v, hv, ho⟩ := h4
  exact ⟨v, hv, ho, h3⟩
set_option maxHeartbeats 1000000 in
set_option maxRecDepth 1000000 in
theorem awake9 (w : World) (hT : Hid (Tabs w)) (h2 : 2 ≤ w.heap.size) : Calls Tryd.prog 9 #[] w fun e w' => e = .returned (.bool true) ∧ Below w.heap.size w w' := by
  go_enter Tryd.func9, Tryd.ntmps9
  go_wp2_with fail
  refine (decode_new w _ 3 [195, 169, 97] _ rfl rfl rfl (by simp) (byteL_of _ (by decide)) (by omega) hT.out h2).mono ?_
  rintro e w1 ⟨rfl, q1, rfl⟩
  rw [ex_dec1]
  go_wp2_with fail
  have hT1 := tabs_drewN (tabs_alloc hT.out h2 (.cells #[Value.int .u8 195, Value.int .u8 169, Value.int .u8 97] 5)) q1
  refine (decode_new _ _ 1 [128] _ rfl (by simp) rfl (by simp) (byteL_of _ (by decide)) (by omega) hT1 (by simp; omega)).mono ?_
  rintro e w1 ⟨rfl, q2, rfl⟩
  rw [ex_dec2]
  have hT2 := tabs_drewN (tabs_alloc hT1 (by simp; omega) (.cells #[Value.int .u8 128] 5)) q2
  have hb2 : Below w.heap.size w ((((w.alloc (.cells #[Value.int .u8 195, Value.int .u8 169, Value.int .u8 97] 5)).drewN q1).alloc (.cells #[Value.int .u8 128] 5)).drewN q2) := below_drewN ((below_drewN ((Below.refl _ _).alloc (Nat.le_refl _) _) q1).alloc (by simp) _) q2
  go_wp2_with fail
  have hsz2 : ((((w.alloc (.cells #[Value.int .u8 195, Value.int .u8 169, Value.int .u8 97] 5)).drewN q1).alloc (.cells #[Value.int .u8 128] 5)).drewN q2).heap.size = w.heap.size + 2 := by simp
  generalize ((((w.alloc (.cells #[Value.int .u8 195, Value.int .u8 169, Value.int .u8 97] 5)).drewN q1).alloc (.cells #[Value.int .u8 128] 5)).drewN q2) = W2 at hT2 hb2 hsz2 ⊢
  refine (cut_new W2 (w.heap.size + 2) 4 [97, 226, 130, 98] _ rfl hsz2.symm rfl (byteL_of _ (by decide)) (by omega) hT2 (by omega)).mono ?_
  rintro e w3 ⟨g2, hg2, rfl, ho1, ho2, hb3⟩
  rw [ex_cut] at ho1 ho2 ⊢
  have hb4 : Below w.heap.size w w3 := (hb2.alloc (by omega) _).trans (hb3.mono (by omega))
  have hs3 : w.heap.size + 3 ≤ w3.heap.size := by have := hb3.size; simp at this; omega
  have c1 := ho1.cellAt 1 (by decide)
  have c3 := ho2.cellAt 3 (by decide)
  have l2 := (ho2.lt _ rfl).2
  have l2' : g2 < w3.heap.size := l2
  rw [hsz2] at ho1 ho2 c1 hg2 ⊢
  clear hsz2 ho1 ho2 hb3 hb2 hT2 hT1 l2
  have c1' : w3.cell? ⟨w.heap.size + 2 + 1, 1, none⟩ = some (.int .i64 65533) := c1
  have c3' : w3.cell? ⟨g2, 3, none⟩ = some (.int .i64 3) := c3
  clear c1 c3
  go_wp2_with fail
  have hrow : RowAt (w3.alloc (.cells #[Value.int .i64 97, Value.int .i64 99, Value.int .i64 48, Value.int .i64 48] 57)).heap.size (w3.alloc (.cells #[Value.int .i64 97, Value.int .i64 99, Value.int .i64 48, Value.int .i64 48] 57)) (.slice (some ⟨w3.heap.size, 0, none⟩) 2 2) [(97, 99), (48, 48)] := by
    refine ⟨_, 2, rfl, .inr ⟨w3.heap.size, 0, rfl, by simp, ?_, ?_⟩⟩
    · intro k hk
      rw [World.cell?_alloc_at _ _ _ _ rfl]
      match k, hk with
      | 0, _ => rfl
      | 1, _ => rfl
    · intro k hk
      rw [World.cell?_alloc_at _ _ _ _ rfl]
      match k, hk with
      | 0, _ => rfl
      | 1, _ => rfl
  refine (norm26 [(97, 99), (48, 48)] (some ⟨w3.heap.size, 0, none⟩) 2 2 _ rfl (by omega) hrow).mono ?_
  intro e w4 hE
  obtain ⟨v, rfl, ho, hb5⟩ := norm_two hE
  obtain ⟨g3, cp, rfl⟩ := Joins.ownsRow_form ho (by omega)
  have c4 : w4.cell? ⟨g3, 0, none⟩ = some (.int .i64 48) := ho.cellAt 0 (by decide)
  have d1 : w4.cell? ⟨w.heap.size + 2 + 1, 1, none⟩ = some (.int .i64 65533) := (hb5.cell (p := ⟨w.heap.size + 2 + 1, 1, none⟩) (by simp; omega)).trans ((World.cell?_alloc_past _ _ _ (by omega)).trans c1')
  have d3 : w4.cell? ⟨g2, 3, none⟩ = some (.int .i64 3) := (hb5.cell (p := ⟨g2, 3, none⟩) (by simp; omega)).trans ((World.cell?_alloc_past _ _ _ (by omega)).trans c3')
  have hb6 : Below w.heap.size w w4 := (hb4.alloc (by omega) _).trans (hb5.mono (by simp; omega))
  clear hrow hE ho hb5 c1' c3' hb4
  go_wp2
  go_ret
  exact ⟨rfl, hb6⟩
end Go.Proofs.YtjglehklfdhgaaaDoor
