/- HELPERS: the contracts of the methods of a set. -/
import Derived.Test.YtodpmmlfdkdemaaSe
import Derived.WalkLawsBesides
namespace Go.Proofs.Ytodpmmlfdkdemaa
open Go.RowKit
set_option linter.unusedVariables false
set_option linter.unusedSimpArgs false
theorem SetS.mem {N : Nat} {w : World} {g : Nat} {F : List Nat} {n : Nat} {l : List Int} (h : SetS N w g F n l) : ∀ x ∈ l, 0 ≤ x ∧ x < n := by
  obtain ⟨b, c, ov, M, h1, h2, hn, h3, h4, h5, h6, rfl⟩ := h
  exact h5.rng
set_option maxHeartbeats 2000000 in
theorem has12_out (N g : Nat) (F : List Nat) (n : Nat) (l : List Int) (i : Int) (w : World) (hS : Hid (SetS N w g F n l)) (hi : ¬ (0 ≤ i ∧ i < n)) :
    Calls Try.prog 84 #[.pointer (some ⟨g, 0, none⟩), .int .i64 i] w fun e w' => e = .returned (.bool false) ∧ ∃ k, w' = w.drewN k := by
  have hf : ∀ k : Nat, Calls Try.prog 83 #[.pointer (some ⟨g, 0, none⟩), .int .i64 i] (w.drewN k) fun e w' => e = .returned (.bool false) ∧ w' = w.drewN k := by
    intro k
    have := isFor41 N g F n l i (w.drewN k) hS
    rw [show decide (0 ≤ i ∧ i < n) = false by simpa using hi] at this
    exact this
  have hf0 := hf 0
  go_enter Try.func84, Try.ntmps84
  go_wp2_with fail
  go_quiet (first | (go_at_call 83; exact Calls.quiet_of_same (hf _)) | fail)
  go_wp2
  go_ret
  exact ⟨rfl, _, rfl⟩
set_option maxHeartbeats 2000000 in
theorem has12_in (N g : Nat) (F : List Nat) (n : Nat) (l : List Int) (i : Nat) (w : World) (hS : Hid (SetS N w g F n l)) (hi : i < n) :
    Calls Try.prog 84 #[.pointer (some ⟨g, 0, none⟩), .int .i64 (i : Int)] w fun e w' => e = .returned (.bool (decide ((i : Int) ∈ l))) ∧ ∃ k, w' = w.drewN k := by
  have hf : ∀ k : Nat, Calls Try.prog 83 #[.pointer (some ⟨g, 0, none⟩), .int .i64 (i : Int)] (w.drewN k) fun e w' => e = .returned (.bool true) ∧ w' = w.drewN k := by
    intro k
    have := isFor41 N g F n l i (w.drewN k) hS
    rw [show decide (0 ≤ (i : Int) ∧ (i : Int) < n) = true by simp; omega] at this
    exact this
  obtain ⟨b, c, ov, M, hg, _, hn, hM, _, hm, _⟩ := hS.out
  have hmk : ∀ k : Nat, Calls Try.prog 85 #[.int .i64 (i : Int)] (w.drewN k) fun e w' => e = .returned (.int .u64 ((2 ^ (i % 64) : Nat) : Int)) ∧ w' = w.drewN k := fun k => mark42 i _ (by omega)
  have c1 := (Joins.cell_of_block hg 1)
  simp at c1
  have hq : i / 64 < (n + 63) / 64 := by omega
  have hlen : M.length = (n + 63) / 64 := hm.len
  have d0 : w.cell? ⟨b, i / 64, none⟩ = some (.int .u64 ((M.getD (i / 64) 0 : Nat) : Int)) := by
    rw [hM.cellAt (i / 64) (by omega)]
    simp [List.getD, show i / 64 < M.length by omega]
  have he := hm.has hi
  generalize M.getD (i / 64) 0 = x at d0 he
  generalize 2 ^ (i % 64) = y at hmk he
  generalize (n + 63) / 64 = W at c1 hq
  have HE : Hid ((bits .and .u64 (x : Int) (y : Int) != 0) = decide ((i : Int) ∈ l)) := he
  clear he hlen hm hM hg
  go_enter Try.func84, Try.ntmps84
  go_wp2_with fail
  go_quiet (first | (go_at_call 83; exact Calls.quiet_of_same (hf _)) | (go_at_call 85; exact Calls.quiet_of_same (hmk _)) | fail)
  go_wp2
  go_ret
  exact ⟨ret_bool HE.out, _, rfl⟩
theorem SetS.drew {N : Nat} {w : World} {g : Nat} {F : List Nat} {n : Nat} {l : List Int} (h : SetS N w g F n l) (k : Nat) : SetS N (w.drewN k) g F n l := h
theorem Chg.drewN {w w' : World} {F F' : List Nat} (h : Chg w w' F F') (k : Nat) : Chg w (w'.drewN k) F F' := ⟨h.os, h.tape, h.output, h.size, h.block, h.new⟩
set_option maxHeartbeats 2000000 in
theorem add10_no (N g : Nat) (F : List Nat) (n : Nat) (l : List Int) (i : Int) (w : World) (hS : Hid (SetS N w g F n l)) (hi : ¬ (0 ≤ i ∧ i < n ∧ i ∉ l)) :
    Calls Try.prog 59 #[.pointer (some ⟨g, 0, none⟩), .int .i64 i] w fun e w' => e = .returned (.bool false) ∧ SetS N w' g F n l ∧ Chg w w' F F := by
  by_cases hr : 0 ≤ i ∧ i < n
  · obtain ⟨h0, h1⟩ := hr
    have hf := isFor41 N g F n l i w hS
    rw [show decide (0 ≤ i ∧ i < n) = true by simp; omega] at hf
    have hh := has12_in N g F n l i.toNat w hS (by omega)
    rw [show ((i.toNat : Nat) : Int) = i by omega, show decide (i ∈ l) = true by simp; exact Classical.byContradiction fun h => hi ⟨h0, h1, h⟩] at hh
    clear hi h0 h1
    go_enter Try.func59, Try.ntmps59
    go_wp2_with (first | (go_at_call 83; refine hf.mono ?_; rintro e w' ⟨rfl, rfl⟩) | (go_at_call 84; refine hh.mono ?_; rintro e w' ⟨rfl, k, rfl⟩))
    go_ret
    exact ⟨rfl, hS, (Chg.refl _ _).drewN _⟩
  · have hf := isFor41 N g F n l i w hS
    rw [show decide (0 ≤ i ∧ i < n) = false by simpa using hr] at hf
    clear hi hr
    go_enter Try.func59, Try.ntmps59
    go_wp2_with (go_at_call 83; refine hf.mono ?_; rintro e w' ⟨rfl, rfl⟩)
    go_ret
    exact ⟨rfl, hS, Chg.refl _ _⟩
set_option maxHeartbeats 4000000 in
theorem add10_yes (N g : Nat) (F : List Nat) (n : Nat) (l : List Int) (i : Nat) (w : World) (hS : Hid (SetS N w g F n l)) (hi : i < n) (hni : (i : Int) ∉ l) (hl : l.length ≤ 1048576) (hN : N ≤ w.heap.size) :
    Calls Try.prog 59 #[.pointer (some ⟨g, 0, none⟩), .int .i64 (i : Int)] w fun e w' => e = .returned (.bool true) ∧ ∃ F', SetS N w' g F' n (l ++ [(i : Int)]) ∧ Chg w w' F F' := by
  have hf := isFor41 N g F n l i w hS
  rw [show decide (0 ≤ (i : Int) ∧ (i : Int) < n) = true by simp; omega] at hf
  have hh := has12_in N g F n l i w hS hi
  rw [show decide ((i : Int) ∈ l) = false by simpa using hni] at hh
  obtain ⟨b, c, ov, M, hg, hNg, hn, hM, ho, hm, hnd, rfl⟩ := hS.out
  have hmk : ∀ w, Calls Try.prog 85 #[.int .i64 (i : Int)] w fun e w' => e = .returned (.int .u64 ((2 ^ (i % 64) : Nat) : Int)) ∧ w' = w := fun w => mark42 i _ (by omega)
  have hgl := (Array.getElem?_eq_some_iff.1 hg).1
  have hne := own_ne ho hg (by decide)
  have hne2 := own_ne hM hg (by decide)
  have hbg : b ≠ g := fun h => hne2 (by simp [Value.ownBlock, h])
  have hgb : g ≠ b := fun h => hbg h.symm
  have hob : ov.ownBlock ≠ some b := by
    rcases hM.2 with ⟨h, _⟩ | ⟨b', cap', cur, he, _, hgg, _⟩
    · cases h
    · simp only [Value.slice.injEq, Option.some.injEq, Addr.mk.injEq] at he
      obtain ⟨⟨rfl, _⟩, _, rfl⟩ := he
      exact own_ne ho hgg (by decide)
  have c1 := (Joins.cell_of_block hg 1)
  have c2 := (Joins.cell_of_block hg 2)
  have f2 := Joins.unfrozen_of_block hg 2
  simp at c1 c2
  have hq : i / 64 < (n + 63) / 64 := by omega
  have hlen : M.length = (n + 63) / 64 := hm.len
  have d0 : w.cell? ⟨b, i / 64, none⟩ = some (.int .u64 ((M.getD (i / 64) 0 : Nat) : Int)) := by
    rw [hM.cellAt (i / 64) (by omega)]
    simp [List.getD, show i / 64 < M.length by omega]
  have fd : w.frozen? ⟨b, i / 64, none⟩ = false := hM.frozenAt _
  have hor := (bits_nat .u64 64 (by decide) u64_in' _ _ (hm.get (i / 64)) (pow_lt i)).2
  have hstored := hM.stored (i / 64) (.int .u64 ((M.getD (i / 64) 0 ||| 2 ^ (i % 64) : Nat) : Int))
  have hmadd := hm.add hi
  have HG : Hid (w.heap[g]? = some (.cells #[.int .i64 (n : Int), .slice (some ⟨b, 0, none⟩) ((n + 63) / 64) c, ov] 107 (0, 0))) := hg
  have HO : Hid (w.ownsRow N 3 1 ov l.length (I64 l)) := ho
  have HN : Hid (ov.ownBlock ≠ some g) := hne
  have HN2 : Hid (ov.ownBlock ≠ some b) := hob
  have HM : Hid (w.ownsRow N 119 1 (.slice (some ⟨b, 0, none⟩) ((n + 63) / 64) c) ((n + 63) / 64) (U64 M)) := hM
  have HS : Hid ((w.setCell ⟨b, i / 64, none⟩ (.int .u64 ((M.getD (i / 64) 0 ||| 2 ^ (i % 64) : Nat) : Int))).ownsRow N 119 1 (.slice (some ⟨b, 0, none⟩) ((n + 63) / 64) c) ((n + 63) / 64) (U64 (M.set (i / 64) (M.getD (i / 64) 0 ||| 2 ^ (i % 64))))) := by
    rw [show U64 (M.set (i / 64) (M.getD (i / 64) 0 ||| 2 ^ (i % 64))) = (U64 M).set (i / 64) (.int .u64 ((M.getD (i / 64) 0 ||| 2 ^ (i % 64) : Nat) : Int)) by simp [U64, List.map_set]]
    exact hstored.1
  have HA : Hid (Marks n (M.set (i / 64) (M.getD (i / 64) 0 ||| 2 ^ (i % 64))) (l ++ [(i : Int)])) := hmadd
  have HL : Hid (M.length = (n + 63) / 64) := hlen
  clear hg ho hne hob hM hm hstored hmadd hlen hS hne2
  generalize hx : M.getD (i / 64) 0 = x at *
  generalize hy : 2 ^ (i % 64) = y at *
  generalize hz : x ||| y = z at *
  generalize hW : (n + 63) / 64 = W at *
  have HW : Hid ((n + 63) / 64 = W) := hW
  have hwr : IntKind.i64.wrap ((i : Int) / 64) = (i : Int) / 64 := IntWalk.i64_in _ ⟨by omega, by omega⟩
  have hq0 : 0 ≤ (i : Int) / 64 := by omega
  have hq1 : (i : Int) / 64 < (W : Int) := by omega
  have hq2 : ((i : Int) / 64).toNat = i / 64 := by omega
  clear hx hy hz hW hbg
  go_enter Try.func59, Try.ntmps59
  go_wp2_with (first | (go_at_call 83; refine hf.mono ?_; rintro e w' ⟨rfl, rfl⟩) | (go_at_call 84; refine hh.mono ?_; rintro e w' ⟨rfl, k, rfl⟩))
  go_region_with (go_at_call 85; refine (hmk _).mono ?_; rintro e w' ⟨rfl, rfl⟩)
  all_goals go_wp2_with (at_builtin; refine wpList_append_one rfl (.tmp 30) (.tmp 32) 25 rfl N 3 (.int .i64 0) 8 Try.underlying25 info3 rfl ov (.int .i64 (i : Int)) l.length 1 (I64 l) rfl (own_setCell (show (World.drewN _ _).ownsRow N 3 1 ov l.length (I64 l) from HO.out) HN2.out) _ (by simp [World.setCell]) rfl rfl (by unfold maxLen; omega) (by omega) (by simpa [World.setCell] using hN) ?_)
  all_goals
    intro v' w1 ho1 hm1
    have hblk : w1.heap[g]? = some (.cells #[.int .i64 (n : Int), .slice (some ⟨b, 0, none⟩) W c, ov] 107 (0, 0)) := by
      have e2 : (World.setCell (w'.drewN (k + 1)) ⟨b, i / 64, none⟩ (.int .u64 (z : Int))).heap[g]? = _ := (Below.heap_setCell _ _ _ _ hgb).trans HG.out
      have e := (heap_alloc_old (World.setCell (w'.drewN (k + 1)) ⟨b, i / 64, none⟩ (.int .u64 (z : Int))) (.cells #[.int .i64 (i : Int)] 3) (by simpa [World.setCell] using hgl)).trans e2
      rcases hm1.out with ⟨_, h⟩ | ⟨_, h⟩
      · exact (h.block g (by simp [World.setCell]; omega) (fun h => HN.out h.symm)).trans e
      · exact (h.block g (by simp [World.setCell]; omega) (by simp)).trans e
    have hrow : w1.ownsRow N 119 1 (.slice (some ⟨b, 0, none⟩) W c) W (U64 (M.set (i / 64) z)) := by
      have e := (show (World.setCell (w'.drewN (k + 1)) ⟨b, i / 64, none⟩ (.int .u64 (z : Int))).ownsRow N 119 1 (.slice (some ⟨b, 0, none⟩) W c) W (U64 (M.set (i / 64) z)) from HS.out).alloc (.cells #[.int .i64 (i : Int)] 3)
      rcases hm1.out with ⟨_, h⟩ | ⟨_, h⟩
      · exact e.kept h (.inr (fun h => HN2.out (h.symm.trans rfl)))
      · exact e.kept h (.inr (by simp [Value.ownBlock]))
    have d2 := Joins.cell_of_block hblk 2
    have e2 := Joins.unfrozen_of_block hblk 2
    simp at d2
    obtain ⟨b', cap', rfl⟩ := Joins.ownsRow_form ho1.out (by omega)
    have HB : Hid (w1.heap[g]? = some (.cells #[.int .i64 (n : Int), .slice (some ⟨b, 0, none⟩) W c, ov] 107 (0, 0))) := hblk
    have HR : Hid (w1.ownsRow N 119 1 (.slice (some ⟨b, 0, none⟩) W c) W (U64 (M.set (i / 64) z))) := hrow
    clear hblk hrow c1 c2 f2 fd d0 hf hh hmk
    go_wp2
    go_ret
    have hne' := own_ne ho1.out HB.out (by decide)
    have b1 := Joins.block_setCell (i := 2) HB.out (.slice (some ⟨b', 0, none⟩) (l.length + 1) cap')
    have hcA := chg_moved hm1.out [g, b]
    have hc : Chg (World.setCell (w'.drewN (k + 1)) ⟨b, i / 64, none⟩ (.int .u64 (z : Int))) (w1.setCell ⟨g, 2, none⟩ (.slice (some ⟨b', 0, none⟩) (l.length + 1) cap')) _ _ := hcA.set (a := ⟨g, 2, none⟩) (.slice (some ⟨b', 0, none⟩) (l.length + 1) cap') (by simp)
    refine ⟨rfl, g :: b :: (Value.slice (some ⟨b', 0, none⟩) (l.length + 1) cap').ownBlock.toList, ⟨b, c, .slice (some ⟨b', 0, none⟩) (l.length + 1) cap', M.set (i / 64) z, ?_, hNg, hn, ?_, ?_, HA.out, ?_, rfl⟩, ?_⟩
    · rw [HW.out]; exact b1
    · rw [HW.out]; exact own_setCell HR.out (by simp [Value.ownBlock]; exact fun h => hgb h.symm)
    · rw [show I64 (l ++ [(i : Int)]) = I64 l ++ [.int .i64 (i : Int)] by simp, List.length_append]
      exact own_setCell ho1.out hne'
    · rw [List.nodup_append]
      exact ⟨hnd, by simp, fun a ha b hb => by simp at hb; subst hb; exact fun h => hni (h ▸ ha)⟩
    · exact ⟨hc.os, hc.tape, hc.output, by have := hc.size; simpa [World.setCell] using this, fun k hk hk2 => (hc.block k (by simpa [World.setCell] using hk) hk2).trans (Below.heap_setCell _ _ _ _ (fun h => hk2 (by simp [show k = b from h]))), fun k hk => by have := hc.new k hk; simpa [World.setCell] using this⟩
set_option maxHeartbeats 1000000 in
theorem len14 (N g : Nat) (F : List Nat) (n : Nat) (l : List Int) (w : World) (hS : Hid (SetS N w g F n l)) :
    Calls Try.prog 37 #[.pointer (some ⟨g, 0, none⟩)] w fun e w' => e = .returned (.int .i64 (l.length : Int)) ∧ w' = w := by
  obtain ⟨b, c, ov, M, hg, hNg, hn, hM, ho, hm, hnd, rfl⟩ := hS.out
  obtain ⟨ad, cap, rfl⟩ : ∃ ad cap, ov = .slice ad l.length cap := by
    rcases Joins.ownsRow_forms ho with ⟨rfl, h⟩ | ⟨b, cap, rfl⟩
    · exact ⟨none, 0, by rw [h]⟩
    · exact ⟨_, _, rfl⟩
  have c2 := (Joins.cell_of_block hg 2)
  simp at c2
  clear ho hg hM hm hS
  go_enter Try.func37, Try.ntmps37
  go_wp2
  go_ret
  exact ⟨rfl, rfl⟩
end Go.Proofs.Ytodpmmlfdkdemaa
