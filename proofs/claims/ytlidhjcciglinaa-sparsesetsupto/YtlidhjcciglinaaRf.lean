/- HELPERS: the document's set: the contracts of its methods. -/
import Derived.Test.YtlidhjcciglinaaPj
import Derived.Test.YtlidhjcciglinaaOn
namespace Go.Proofs.Ytlidhjcciglinaa
open Go.RowKit
set_option linter.unusedVariables false
set_option linter.unusedSimpArgs false
/-- the document's set: its block, the row of those that came -/
def RefS (N : Nat) (w : World) (g : Nat) (F : List Nat) (n : Nat) (l : List Int) : Prop :=
  ∃ lv, w.heap[g]? = some (.cells #[.int .i64 (n : Int), lv] 67 (0, 0)) ∧ N ≤ g ∧ n ≤ 1048576 ∧ w.ownsRow N 3 1 lv l.length (I64 l) ∧ l.length ≤ 1048576 ∧ F = g :: lv.ownBlock.toList
theorem RefS.low {N : Nat} {w : World} {g : Nat} {F : List Nat} {n : Nat} {l : List Int} (h : RefS N w g F n l) : ∀ k ∈ F, N ≤ k ∧ k < w.heap.size := by
  obtain ⟨lv, h1, h2, _, h4, _, rfl⟩ := h
  intro k hk
  simp only [List.mem_cons, Option.mem_toList] at hk
  rcases hk with rfl | hk
  · exact ⟨h2, (Array.getElem?_eq_some_iff.1 h1).1⟩
  · exact h4.lt k hk
theorem RefS.kept {N : Nat} {w w' : World} {g : Nat} {F : List Nat} {n : Nat} {l : List Int} (h : RefS N w g F n l) (hk : ∀ k ∈ F, w'.heap[k]? = w.heap[k]?) : RefS N w' g F n l := by
  obtain ⟨lv, h1, h2, hn, h4, h5, rfl⟩ := h
  exact ⟨lv, (hk g (by simp)).trans h1, h2, hn, row_kept h4 (fun k hk' => hk k (by simp [hk'])), h5, rfl⟩
theorem RefS.mono {N N' : Nat} {w : World} {g : Nat} {F : List Nat} {n : Nat} {l : List Int} (h : RefS N' w g F n l) (hN : N ≤ N') : RefS N w g F n l := by
  obtain ⟨lv, h1, h2, hn, h4, h5, rfl⟩ := h
  exact ⟨lv, h1, by omega, hn, Joins.ownsRow_le h4 hN, h5, rfl⟩
set_option maxHeartbeats 1000000 in
theorem new9 (n : Int) (w : World) :
    Calls Try.prog 9 #[.int .i64 n] w fun e w' => ∃ g F, e = .returned (.pointer (some ⟨g, 0, none⟩)) ∧ RefS w.heap.size w' g F (lim n) [] ∧ Below w.heap.size w w' := by
  have hlim := lim_eq n
  have hle := lim_le n
  generalize lim n = k at hlim hle
  go_enter Try.func9, Try.ntmps9
  go_wp2
  go_ret
  exact ⟨w.heap.size, _, rfl, ⟨.slice none 0 0, heap_alloc_new w _, Nat.le_refl _, hle, World.ownsRow_nil _ _ _ _, by simp, rfl⟩, (Below.refl _ _).alloc (Nat.le_refl _) _⟩
theorem mem_take_step {l : List Int} {k : Nat} (hk : k < l.length) {i : Int} (h : i ∉ l.take k) (hx : l.getD k 0 ≠ i) : i ∉ l.take (k + 1) := by
  rw [take_snocI l k hk]
  simp only [List.mem_append, List.mem_singleton, not_or]
  exact ⟨h, fun e => hx e.symm⟩
set_option maxHeartbeats 1000000 in
theorem has13 (N g : Nat) (F : List Nat) (n : Nat) (l : List Int) (i : Int) (w : World) (hS : Hid (RefS N w g F n l)) :
    Calls Try.prog 13 #[.pointer (some ⟨g, 0, none⟩), .int .i64 i] w fun e w' => e = .returned (.bool (decide (i ∈ l))) ∧ w' = w := by
  obtain ⟨lv, hg, hNg, hn, ho, hl, rfl⟩ := hS.out
  obtain ⟨ad, cap, rfl, hF⟩ : ∃ ad cap, lv = .slice ad l.length cap ∧ (0 < l.length → ∃ b, ad = some ⟨b, 0, none⟩) := by
    rcases Joins.ownsRow_forms ho with ⟨rfl, h⟩ | ⟨b, cap, rfl⟩
    · exact ⟨none, 0, by rw [h], fun hp => by omega⟩
    · exact ⟨_, _, rfl, fun _ => ⟨b, rfl⟩⟩
  have c1 := (Joins.cell_of_block hg 1)
  simp at c1
  have HO : Hid (w.ownsRow N 3 1 (.slice ad l.length cap) l.length (I64 l)) := ho
  have HF : Hid (0 < l.length → ∃ b, ad = some ⟨b, 0, none⟩) := hF
  clear ho hg hS hF
  go_enter Try.func13, Try.ntmps13
  go_wp2
  go_loopw [5] (fun ix wr => ∃ k : Nat, k ≤ l.length ∧ ix = .int .i64 k ∧ wr = w ∧ Hid (i ∉ l.take k)) (fun ix _ => l.length - (intOf ix).toNat)
  case atStart => exact ⟨0, by omega, rfl, rfl, by show _ ∉ _; simp⟩
  case round =>
    obtain ⟨k, hk, rfl, rfl, HK⟩ := hrel
    by_cases hlt : k < l.length
    · obtain ⟨b, rfl⟩ := HF.out (by omega)
      have d0 : wr.cell? ⟨b, k, none⟩ = some (.int .i64 (l.getD k 0)) := by
        rw [HO.out.cellAt k (by omega)]
        simp [List.getD, hlt]
      by_cases hx : l.getD k 0 = i
      · have hin : Hid (i ∈ l) := by
          show i ∈ l
          rw [← hx]
          simp [List.getD, hlt]
        rw [hx] at d0
        clear HK hx
        go_wp2
        go_ret
        exact ⟨ret_bool (by simp [hin.out]), rfl⟩
      · have HN : Hid (i ∉ l.take (k + 1)) := mem_take_step hlt HK.out hx
        generalize l.getD k 0 = x at d0 hx
        clear HK
        go_wp2
        go_roundw
        case rel => exact ⟨k + 1, by omega, by go_num, trivial, HN⟩
        case measure => simp [intOf]; omega
    · obtain rfl : k = l.length := by omega
      have hin : Hid (i ∉ l) := by
        have := HK.out
        rw [List.take_length] at this
        exact this
      clear HK
      go_wp2
      go_ret
      exact ⟨ret_bool (by simp [hin.out]), rfl⟩
set_option maxHeartbeats 1000000 in
theorem len15 (N g : Nat) (F : List Nat) (n : Nat) (l : List Int) (w : World) (hS : Hid (RefS N w g F n l)) :
    Calls Try.prog 15 #[.pointer (some ⟨g, 0, none⟩)] w fun e w' => e = .returned (.int .i64 (l.length : Int)) ∧ w' = w := by
  obtain ⟨lv, hg, hNg, hn, ho, hl, rfl⟩ := hS.out
  obtain ⟨ad, cap, rfl, _⟩ := row_form_any ho
  have c1 := (Joins.cell_of_block hg 1)
  simp at c1
  clear ho hg hS
  go_enter Try.func15, Try.ntmps15
  go_wp2
  go_ret
  exact ⟨rfl, rfl⟩
set_option maxHeartbeats 1000000 in
theorem clear17 (N g : Nat) (F : List Nat) (n : Nat) (l : List Int) (w : World) (hS : Hid (RefS N w g F n l)) :
    Calls Try.prog 17 #[.pointer (some ⟨g, 0, none⟩)] w fun e w' => e = .returned (.tuple #[]) ∧ ∃ F', RefS N w' g F' n [] ∧ Chg w w' F F' := by
  obtain ⟨lv, hg, hNg, hn, ho, hl, rfl⟩ := hS.out
  have c1 := (Joins.cell_of_block hg 1)
  have f1 := Joins.unfrozen_of_block hg 1
  simp at c1
  have HG : Hid (w.heap[g]? = some (.cells #[.int .i64 (n : Int), lv] 67 (0, 0))) := hg
  clear ho hg hS
  go_enter Try.func17, Try.ntmps17
  go_wp2
  go_end0
  have b1 := Joins.block_setCell (i := 1) HG.out (.slice none 0 0)
  have hc := (Chg.refl w (g :: lv.ownBlock.toList)).set (a := ⟨g, 1, none⟩) (.slice none 0 0) (by simp)
  exact ⟨rfl, [g], ⟨_, b1, hNg, hn, World.ownsRow_nil _ _ _ _, by simp, rfl⟩, ⟨hc.os, hc.tape, hc.output, hc.size, hc.block, fun k hk => by simp at hk; subst hk; exact .inl (by simp)⟩⟩
set_option maxHeartbeats 1000000 in
theorem list19 (N g : Nat) (F : List Nat) (n : Nat) (l : List Int) (w : World) (hS : Hid (RefS N w g F n l)) :
    Calls Try.prog 19 #[.pointer (some ⟨g, 0, none⟩)] w fun e w' => Cloned w w' e l := by
  obtain ⟨lv, hg, hNg, hn, ho, hl, rfl⟩ := hS.out
  have c1 := (Joins.cell_of_block hg 1)
  simp at c1
  obtain ⟨i0, hi, hz0, hz1, hz2⟩ := info_parts info3
  have HN : Hid (w.ownsRow w.heap.size 3 1 (.slice none 0 0) 0 []) := World.ownsRow_nil _ _ _ _
  rcases Joins.ownsRow_forms ho with ⟨rfl, h0⟩ | ⟨b, cap, rfl⟩
  · obtain rfl : l = [] := List.eq_nil_of_length_eq_zero h0
    clear ho hg hS
    go_enter Try.func19, Try.ntmps19
    go_wp2_with (at_builtin; refine wpList_append_own_none rfl (.tmp 4) (.tmp 8) 35 rfl w.heap.size 3 i0 1 Try.underlying35 hi (.slice none 0 0) 0 [] rfl HN.out rfl ?_)
    go_wp2
    go_ret
    exact ⟨_, rfl, World.ownsRow_nil _ _ _ _, Below.refl _ _⟩
  · have HC : Hid (∀ j u, (I64 l)[j]? = some u → w.cell? ((⟨b, 0, none⟩ : Addr).add j) = some u) := ho.cells (g := b) rfl
    clear ho hg hS
    go_enter Try.func19, Try.ntmps19
    go_wp2_with (at_builtin; refine wpList_append_own _ rfl (.tmp 4) (.tmp 8) 35 rfl w.heap.size 3 i0 (.int .i64 0) 1 8 Try.underlying35 hi hz0 hz1 hz2 rfl (by decide) _ 0 [] rfl HN.out ⟨b, 0, none⟩ l.length cap (I64 l) rfl (by simp) HC.out (one_cell_ints l) (by unfold maxLen; omega) (by omega) (Nat.le_refl _) ?_)
    intro v' w1 ho1 hg1 _
    go_wp2
    go_ret
    refine ⟨_, rfl, by simpa using ho1, ?_⟩
    exact (Below.refl _ _).grown hg1 (Nat.le_refl _) (fun k hk => by simp [Value.ownBlock] at hk)
set_option maxHeartbeats 2000000 in
theorem add11_no (N g : Nat) (F : List Nat) (n : Nat) (l : List Int) (i : Int) (w : World) (hS : Hid (RefS N w g F n l)) (hi : ¬ fresh n l i) :
    Calls Try.prog 11 #[.pointer (some ⟨g, 0, none⟩), .int .i64 i] w fun e w' => e = .returned (.bool false) ∧ w' = w := by
  have hh := has13 N g F n l i w hS
  obtain ⟨lv, hg, hNg, hn, ho, hl, rfl⟩ := hS.out
  have c0 := (Joins.cell_of_block hg 0)
  simp at c0
  clear hg ho hS
  by_cases h0 : i < 0
  · generalize decide (i ∈ l) = t at hh
    clear hi
    go_enter Try.func11, Try.ntmps11
    go_wp2_with (go_at_call 13; refine hh.mono ?_; rintro e w' ⟨rfl, rfl⟩)
    go_ret
    exact ⟨rfl, rfl⟩
  · by_cases h1 : (n : Int) ≤ i
    · generalize decide (i ∈ l) = t at hh
      clear hi
      go_enter Try.func11, Try.ntmps11
      go_wp2_with (go_at_call 13; refine hh.mono ?_; rintro e w' ⟨rfl, rfl⟩)
      go_ret
      exact ⟨rfl, rfl⟩
    · have h2 : decide (i ∈ l) = true := by
        simp
        exact Classical.byContradiction fun h => hi ⟨by omega, by omega, h⟩
      rw [h2] at hh
      clear hi h2
      go_enter Try.func11, Try.ntmps11
      go_wp2_with (go_at_call 13; refine hh.mono ?_; rintro e w' ⟨rfl, rfl⟩)
      go_ret
      exact ⟨rfl, rfl⟩
set_option maxHeartbeats 2000000 in
theorem add11 (N g : Nat) (F : List Nat) (n : Nat) (l : List Int) (i : Int) (w : World) (hS : Hid (RefS N w g F n l)) (hi : fresh n l i) (hN : N ≤ w.heap.size) (hl2 : l.length < 1048576) :
    Calls Try.prog 11 #[.pointer (some ⟨g, 0, none⟩), .int .i64 i] w fun e w' => e = .returned (.bool true) ∧ ∃ F', RefS N w' g F' n (l ++ [i]) ∧ Chg w w' F F' := by
  have hh := has13 N g F n l i w hS
  obtain ⟨h0, h1, h2⟩ := hi
  rw [show decide (i ∈ l) = false by simpa using h2] at hh
  obtain ⟨lv, hg, hNg, hn, ho, hl, rfl⟩ := hS.out
  have hgl := (Array.getElem?_eq_some_iff.1 hg).1
  have hne := own_ne ho hg (by decide)
  have c0 := (Joins.cell_of_block hg 0)
  have c1 := (Joins.cell_of_block hg 1)
  have f1 := Joins.unfrozen_of_block hg 1
  simp at c0 c1
  have HO : Hid (w.ownsRow N 3 1 lv l.length (I64 l)) := ho
  have HG : Hid (w.heap[g]? = some (.cells #[.int .i64 (n : Int), lv] 67 (0, 0))) := hg
  have HN : Hid (lv.ownBlock ≠ some g) := hne
  clear ho hg hne hS h2
  go_enter Try.func11, Try.ntmps11
  go_wp2_with fail
  refine hh.mono ?_
  rintro e w0 ⟨rfl, rfl⟩
  clear hh
  go_wp2_with (at_builtin; refine wpList_append_one rfl (.tmp 26) (.tmp 28) 35 rfl N 3 (.int .i64 0) 8 Try.underlying35 info3 rfl lv (.int .i64 i) l.length 1 (I64 l) rfl HO.out _ rfl rfl rfl (by unfold maxLen; omega) (by omega) hN ?_)
  intro v' w1 ho1 hm1
  have hblk : w1.heap[g]? = some (.cells #[.int .i64 (n : Int), lv] 67 (0, 0)) := ((chg_moved hm1.out []).block g hgl (by simpa using HN.out)).trans HG.out
  have d1 := (Joins.cell_of_block hblk 1)
  have e1 := Joins.unfrozen_of_block hblk 1
  simp at d1
  obtain ⟨b', cap', rfl⟩ := Joins.ownsRow_form ho1.out (by omega)
  have HB : Hid (w1.heap[g]? = some (.cells #[.int .i64 (n : Int), lv] 67 (0, 0))) := hblk
  clear hblk c0 c1 f1
  go_wp2
  go_ret
  have hne' := own_ne ho1.out HB.out (by decide)
  have b1 := Joins.block_setCell (i := 1) HB.out (.slice (some ⟨b', 0, none⟩) (l.length + 1) cap')
  have hc := (chg_moved hm1.out [g]).set (a := ⟨g, 1, none⟩) (.slice (some ⟨b', 0, none⟩) (l.length + 1) cap') (by simp)
  refine ⟨rfl, _, ⟨_, b1, hNg, hn, ?_, by simp; omega, rfl⟩, hc⟩
  rw [show I64 (l ++ [i]) = I64 l ++ [.int .i64 i] by simp, List.length_append]
  exact own_setCell ho1.out hne'
end Go.Proofs.Ytlidhjcciglinaa
