/- HELPERS: the contracts of the methods of stacks: of numbers, of texts, of lists, and of the document's. Made by tools/genstk.py. -/
import Derived.Test.YtlidhjcciglinaaPa
namespace Go.Proofs.Ytlidhjcciglinaa
open Go.RowKit
set_option linter.unusedVariables false
set_option linter.unusedSimpArgs false
theorem info9 : (Try.prog.info? 9).map (fun i => (i.zero, i.size, i.bytes)) = some (some (.string ⟨#[]⟩), 1, 16) := by kernel_rfl
theorem info35 : (Try.prog.info? 35).map (fun i => (i.zero, i.size, i.bytes)) = some (some (.slice none 0 0), 1, 24) := by kernel_rfl
theorem zero3 (w : World) : (zeroValue 3).run Try.prog w = .ok (.int .i64 0) w := by kernel_rfl
theorem zero9 (w : World) : (zeroValue 9).run Try.prog w = .ok (.string ⟨#[]⟩) w := by kernel_rfl
theorem zero35 (w : World) : (zeroValue 35).run Try.prog w = .ok (.slice none 0 0) w := by kernel_rfl
set_option maxHeartbeats 2000000 in
theorem pushI (N g o : Nat) (v : Value) (xs : List Value) (m : Nat) (a : Int) (w : World) (hS : Hid (Stk N w 3 g o v xs m)) (hN : N ≤ w.heap.size) (hl : xs.length < 5864062014805) :
    Calls Try.prog 22 #[.pointer (some ⟨g, o, none⟩), (.int .i64 a)] w fun e w' => e = .returned (.tuple #[]) ∧ ∃ v', Stk N w' 3 g o v' (xs ++ [(.int .i64 a)]) (max m (xs.length + 1)) ∧ Eff w w' g o v.ownBlock.toList v'.ownBlock.toList := by
  have hgl := hS.out.lt
  have c0 := hS.out.c0
  have c1 := hS.out.c1
  have f0 := hS.out.f0
  have f1 := hS.out.f1
  have HO : Hid (w.ownsRow N 3 1 v xs.length xs) := hS.out.row
  have HN : Hid (v.ownBlock ≠ some g) := hS.out.ne
  go_enter Try.func22, Try.ntmps22
  go_wp2_with (at_builtin; refine wpList_append_one rfl (.tmp 8) (.tmp 10) 35 rfl N 3 (.int .i64 0) 8 Try.underlying35 info3 rfl v (.int .i64 a) xs.length 1 xs rfl HO.out _ rfl rfl rfl (by unfold maxLen; omega) (by omega) hN ?_)
  intro v' w1 ho1 hm1
  have hE := Eff.moved (o := o) hm1.out hgl HN.out
  have hblk : w1.heap[g]? = w.heap[g]? := by
    have hc := chg_moved hm1.out []
    exact hc.block g hgl (by simpa using HN.out)
  have hne' : v'.ownBlock ≠ some g := by
    intro h
    rcases hE.new g (by simp [h]) with h2 | h2
    · exact HN.out (by simpa using h2)
    · omega
  have d0 : w1.cell? ⟨g, o, none⟩ = some v := (World.cell?_of_block (a := ⟨g, o, none⟩) hblk).trans c0
  have d1 : w1.cell? ⟨g, o + 1, none⟩ = some (.int .i64 (m : Int)) := (World.cell?_of_block (a := ⟨g, o + 1, none⟩) hblk).trans c1
  have e0 : w1.frozen? ⟨g, o, none⟩ = false := (World.frozen?_of_block (a := ⟨g, o, none⟩) hblk).trans f0
  have e1 : w1.frozen? ⟨g, o + 1, none⟩ = false := (World.frozen?_of_block (a := ⟨g, o + 1, none⟩) hblk).trans f1
  obtain ⟨b', cap', rfl⟩ := Joins.ownsRow_form ho1.out (by omega)
  have HE : Hid (Eff w w1 g o v.ownBlock.toList (Value.slice (some ⟨b', 0, none⟩) (xs.length + 1) cap').ownBlock.toList) := hE
  have HB : Hid (w1.heap[g]? = w.heap[g]?) := hblk
  have HN' : Hid ((Value.slice (some ⟨b', 0, none⟩) (xs.length + 1) cap').ownBlock ≠ some g) := hne'
  clear hblk hE hne' c0 c1 f0 f1
  go_wp2
  go_region
  all_goals go_wp2
  all_goals go_end0
  have em : ((max m (xs.length + 1) : Nat) : Int) = max (m : Int) ((xs.length : Int) + 1) := by omega
  have hst := Stk.after (w' := w1) (v' := .slice (some ⟨b', 0, none⟩) (xs.length + 1) cap') (ys := xs ++ [(.int .i64 a)]) (max m (xs.length + 1)) hS.out (fun j => by rw [World.cell?_of_block (a := ⟨g, j, none⟩) HB.out]) (fun j => World.frozen?_of_block (a := ⟨g, j, none⟩) HB.out) (by rw [List.length_append]; exact ho1.out) HN'.out
  rw [em] at hst
  exact ⟨rfl, _, hst.drew, ((HE.out.set0 _).set1 _).drew⟩
set_option maxHeartbeats 1000000 in
theorem popI_none (N g o : Nat) (v : Value) (m : Nat) (w : World) (hS : Hid (Stk N w 3 g o v [] m)) :
    Calls Try.prog 27 #[.pointer (some ⟨g, o, none⟩)] w fun e w' => e = .returned (.tuple #[(.int .i64 0), .bool false]) ∧ w' = w := by
  have c0 := hS.out.c0
  obtain ⟨ad, cap, rfl, _⟩ := row_form_any hS.out.row
  simp only [List.length_nil] at c0
  go_enter Try.func27, Try.ntmps27
  go_wp2
  go_ret2
  exact ⟨rfl, rfl⟩
set_option maxHeartbeats 2000000 in
theorem popI (N g o : Nat) (v : Value) (xs : List Value) (m : Nat) (a : Int) (w : World) (hS : Hid (Stk N w 3 g o v (xs ++ [(.int .i64 a)]) m)) :
    Calls Try.prog 27 #[.pointer (some ⟨g, o, none⟩)] w fun e w' => e = .returned (.tuple #[(.int .i64 a), .bool true]) ∧ ∃ v', Stk N w' 3 g o v' xs m ∧ Eff w w' g o v.ownBlock.toList v'.ownBlock.toList := by
  have ho := hS.out.row
  have hne := hS.out.ne
  rw [List.length_append, List.length_singleton] at ho
  obtain ⟨b, cap, rfl⟩ := Joins.ownsRow_form ho (by omega)
  have hcap := row_cap ho
  have c0 := hS.out.c0
  have f0 := hS.out.f0
  have d0 : w.cell? ⟨b, xs.length, none⟩ = some (.int .i64 a) := by
    rw [ho.cellAt xs.length (by omega)]
    simp
  have fd : w.frozen? ⟨b, xs.length, none⟩ = false := ho.frozenAt _
  have hbg : b ≠ g := fun h => hne (by simp [Value.ownBlock, h])
  have hgb : g ≠ b := fun h => hbg h.symm
  have HO : Hid (w.ownsRow N 3 1 (.slice (some ⟨b, 0, none⟩) (xs.length + 1) cap) (xs.length + 1) (xs ++ [(.int .i64 a)])) := ho
  clear ho hne
  go_enter Try.func27, Try.ntmps27
  go_wp2
  go_ret2
  refine ⟨rfl, _, Stk.after0 (w' := w.setCell ⟨b, xs.length, none⟩ (.int .i64 0)) (v' := .slice (some ⟨b, 0, none⟩) xs.length cap) hS.out (fun j => World.cell?_of_block (a := ⟨g, j, none⟩) (Below.heap_setCell _ _ _ _ hgb)) (fun j => World.frozen?_setCell _ _ _ _) (row_blanked (row_dropped HO.out) _ (Nat.le_refl _) (by omega)) (by simpa [Value.ownBlock] using hbg), ?_⟩
  exact ((Eff.refl _ _ _ _).setRow b xs.length _ (by simp [Value.ownBlock]) hbg).set0 _
set_option maxHeartbeats 1000000 in
theorem lenI (N g o : Nat) (v : Value) (xs : List Value) (m : Nat) (w : World) (hS : Hid (Stk N w 3 g o v xs m)) :
    Calls Try.prog 31 #[.pointer (some ⟨g, o, none⟩)] w fun e w' => e = .returned (.int .i64 (xs.length : Int)) ∧ w' = w := by
  have c0 := hS.out.c0
  obtain ⟨ad, cap, rfl, _⟩ := row_form_any hS.out.row
  go_enter Try.func31, Try.ntmps31
  go_wp2
  go_ret
  exact ⟨rfl, rfl⟩
set_option maxHeartbeats 1000000 in
theorem mostI (N g o : Nat) (v : Value) (xs : List Value) (m : Nat) (w : World) (hS : Hid (Stk N w 3 g o v xs m)) :
    Calls Try.prog 37 #[.pointer (some ⟨g, o, none⟩)] w fun e w' => e = .returned (.int .i64 (m : Int)) ∧ w' = w := by
  have c1 := hS.out.c1
  go_enter Try.func37, Try.ntmps37
  go_wp2
  go_ret
  exact ⟨rfl, rfl⟩
set_option maxHeartbeats 2000000 in
theorem clearI (N g o : Nat) (v : Value) (xs : List Value) (m : Nat) (w : World) (hS : Hid (Stk N w 3 g o v xs m)) :
    Calls Try.prog 33 #[.pointer (some ⟨g, o, none⟩)] w fun e w' => e = .returned (.tuple #[]) ∧ ∃ v', Stk N w' 3 g o v' [] 0 ∧ Eff w w' g o v.ownBlock.toList v'.ownBlock.toList := by
  have c0 := hS.out.c0
  have c1 := hS.out.c1
  have f0 := hS.out.f0
  have f1 := hS.out.f1
  have ho := hS.out.row
  have hne := hS.out.ne
  obtain ⟨ad, cap, rfl, hk1, hk2⟩ := row_form_any ho
  have hcl : ∃ w1, (∀ ty, (Builtin.clear_ #[35] ty #[.slice ad xs.length cap]).run Try.prog w = .ok (.tuple #[]) w1) ∧ w1.ownsRow N 3 1 (.slice ad 0 cap) 0 [] ∧ Eff w w1 g o (Value.slice ad xs.length cap).ownBlock.toList (Value.slice ad xs.length cap).ownBlock.toList ∧ (∀ j, w1.cell? ⟨g, j, none⟩ = w.cell? ⟨g, j, none⟩) := by
    by_cases h0 : xs.length = 0
    · refine ⟨w, fun ty => ?_, any_emptied ho, Eff.refl _ _ _ _, fun _ => rfl⟩
      rw [h0]
      cases ad <;> simp [Builtin.clear_, run_underlying Try.underlying35]
    · obtain ⟨b, cap', he⟩ := Joins.ownsRow_form ho (by omega)
      simp only [Value.slice.injEq] at he
      obtain ⟨rfl, _, rfl⟩ := he
      have hbg : b ≠ g := fun h => hne (by simp [Value.ownBlock, h])
      refine ⟨w.setCells b 0 (List.replicate xs.length (.int .i64 0)), fun ty => Lib.run_clear_slice w 35 3 ty (.int .i64 0) Try.underlying35 zero3 rfl rfl b 0 xs.length cap (by omega) (fun j hj => ?_) (fun j hj => ?_), ?_, Eff.setCells b (by simp [Value.ownBlock]) hbg _ _ _ (Eff.refl _ _ _ _), fun j => World.cell?_of_block (a := ⟨g, j, none⟩) (setCells_other b _ _ _ _ (fun h => hbg h.symm))⟩
      · rw [show 0 + j = j by omega, ho.cellAt j (by omega)]
        simp [hj]
      · rw [show 0 + j = j by omega]; exact ho.frozenAt j
      · exact row_emptied (row_stores (List.replicate xs.length (.int .i64 0)) 0 w _ ho (by simp))
  obtain ⟨w1, hcl, ho1, hE, hcs⟩ := hcl
  have d0 := (hcs o).trans c0
  have d1 := (hcs (o + 1)).trans c1
  have e0 := (hE.frozen o).trans f0
  have e1 := (hE.frozen (o + 1)).trans f1
  have HO : Hid (w1.ownsRow N 3 1 (.slice ad 0 cap) 0 []) := ho1
  have HE : Hid (Eff w w1 g o (Value.slice ad xs.length cap).ownBlock.toList (Value.slice ad xs.length cap).ownBlock.toList) := hE
  have HC : Hid (∀ j, w1.cell? ⟨g, j, none⟩ = w.cell? ⟨g, j, none⟩) := hcs
  have HN : Hid ((Value.slice ad xs.length cap).ownBlock ≠ some g) := hne
  clear ho ho1 hE hcs hne
  go_enter Try.func33, Try.ntmps33
  go_wp2_with (simp only [hcl])
  go_end0
  have hst := Stk.after (w' := w1) (v' := .slice ad 0 cap) (ys := []) 0 hS.out (fun j => by rw [HC.out j]) (fun j => HE.out.frozen j) HO.out (by rw [slice_block (ad := ad) (n := 0) (n' := xs.length) (cap := cap)]; exact HN.out)
  refine ⟨rfl, _, hst, ?_⟩
  rw [slice_block (ad := ad) (n := 0) (n' := xs.length) (cap := cap)]
  exact (HE.out.set0 _).set1 _
set_option maxHeartbeats 2000000 in
theorem pushR (N g o : Nat) (v : Value) (xs : List Value) (m : Nat) (a : Int) (w : World) (hS : Hid (Stk N w 3 g o v xs m)) (hN : N ≤ w.heap.size) (hl : xs.length < 5864062014805) :
    Calls Try.prog 23 #[.pointer (some ⟨g, o, none⟩), (.int .i64 a)] w fun e w' => e = .returned (.tuple #[]) ∧ ∃ v', Stk N w' 3 g o v' (xs ++ [(.int .i64 a)]) (max m (xs.length + 1)) ∧ Eff w w' g o v.ownBlock.toList v'.ownBlock.toList := by
  have hgl := hS.out.lt
  have c0 := hS.out.c0
  have c1 := hS.out.c1
  have f0 := hS.out.f0
  have f1 := hS.out.f1
  have HO : Hid (w.ownsRow N 3 1 v xs.length xs) := hS.out.row
  have HN : Hid (v.ownBlock ≠ some g) := hS.out.ne
  go_enter Try.func23, Try.ntmps23
  go_wp2_with (at_builtin; refine wpList_append_one rfl (.tmp 8) (.tmp 10) 35 rfl N 3 (.int .i64 0) 8 Try.underlying35 info3 rfl v (.int .i64 a) xs.length 1 xs rfl HO.out _ rfl rfl rfl (by unfold maxLen; omega) (by omega) hN ?_)
  intro v' w1 ho1 hm1
  have hE := Eff.moved (o := o) hm1.out hgl HN.out
  have hblk : w1.heap[g]? = w.heap[g]? := by
    have hc := chg_moved hm1.out []
    exact hc.block g hgl (by simpa using HN.out)
  have hne' : v'.ownBlock ≠ some g := by
    intro h
    rcases hE.new g (by simp [h]) with h2 | h2
    · exact HN.out (by simpa using h2)
    · omega
  have d0 : w1.cell? ⟨g, o, none⟩ = some v := (World.cell?_of_block (a := ⟨g, o, none⟩) hblk).trans c0
  have d1 : w1.cell? ⟨g, o + 1, none⟩ = some (.int .i64 (m : Int)) := (World.cell?_of_block (a := ⟨g, o + 1, none⟩) hblk).trans c1
  have e0 : w1.frozen? ⟨g, o, none⟩ = false := (World.frozen?_of_block (a := ⟨g, o, none⟩) hblk).trans f0
  have e1 : w1.frozen? ⟨g, o + 1, none⟩ = false := (World.frozen?_of_block (a := ⟨g, o + 1, none⟩) hblk).trans f1
  obtain ⟨b', cap', rfl⟩ := Joins.ownsRow_form ho1.out (by omega)
  have HE : Hid (Eff w w1 g o v.ownBlock.toList (Value.slice (some ⟨b', 0, none⟩) (xs.length + 1) cap').ownBlock.toList) := hE
  have HB : Hid (w1.heap[g]? = w.heap[g]?) := hblk
  have HN' : Hid ((Value.slice (some ⟨b', 0, none⟩) (xs.length + 1) cap').ownBlock ≠ some g) := hne'
  clear hblk hE hne' c0 c1 f0 f1
  go_wp2
  go_region
  all_goals go_wp2
  all_goals go_end0
  have em : ((max m (xs.length + 1) : Nat) : Int) = max (m : Int) ((xs.length : Int) + 1) := by omega
  have hst := Stk.after (w' := w1) (v' := .slice (some ⟨b', 0, none⟩) (xs.length + 1) cap') (ys := xs ++ [(.int .i64 a)]) (max m (xs.length + 1)) hS.out (fun j => by rw [World.cell?_of_block (a := ⟨g, j, none⟩) HB.out]) (fun j => World.frozen?_of_block (a := ⟨g, j, none⟩) HB.out) (by rw [List.length_append]; exact ho1.out) HN'.out
  rw [em] at hst
  exact ⟨rfl, _, hst.drew, ((HE.out.set0 _).set1 _).drew⟩
set_option maxHeartbeats 1000000 in
theorem popR_none (N g o : Nat) (v : Value) (m : Nat) (w : World) (hS : Hid (Stk N w 3 g o v [] m)) :
    Calls Try.prog 28 #[.pointer (some ⟨g, o, none⟩)] w fun e w' => e = .returned (.tuple #[(.int .i64 0), .bool false]) ∧ w' = w := by
  have c0 := hS.out.c0
  obtain ⟨ad, cap, rfl, _⟩ := row_form_any hS.out.row
  simp only [List.length_nil] at c0
  go_enter Try.func28, Try.ntmps28
  go_wp2
  go_ret2
  exact ⟨rfl, rfl⟩
set_option maxHeartbeats 2000000 in
theorem popR (N g o : Nat) (v : Value) (xs : List Value) (m : Nat) (a : Int) (w : World) (hS : Hid (Stk N w 3 g o v (xs ++ [(.int .i64 a)]) m)) :
    Calls Try.prog 28 #[.pointer (some ⟨g, o, none⟩)] w fun e w' => e = .returned (.tuple #[(.int .i64 a), .bool true]) ∧ ∃ v', Stk N w' 3 g o v' xs m ∧ Eff w w' g o v.ownBlock.toList v'.ownBlock.toList := by
  have ho := hS.out.row
  have hne := hS.out.ne
  rw [List.length_append, List.length_singleton] at ho
  obtain ⟨b, cap, rfl⟩ := Joins.ownsRow_form ho (by omega)
  have hcap := row_cap ho
  have c0 := hS.out.c0
  have f0 := hS.out.f0
  have d0 : w.cell? ⟨b, xs.length, none⟩ = some (.int .i64 a) := by
    rw [ho.cellAt xs.length (by omega)]
    simp
  have fd : w.frozen? ⟨b, xs.length, none⟩ = false := ho.frozenAt _
  have hbg : b ≠ g := fun h => hne (by simp [Value.ownBlock, h])
  have hgb : g ≠ b := fun h => hbg h.symm
  have HO : Hid (w.ownsRow N 3 1 (.slice (some ⟨b, 0, none⟩) (xs.length + 1) cap) (xs.length + 1) (xs ++ [(.int .i64 a)])) := ho
  clear ho hne
  go_enter Try.func28, Try.ntmps28
  go_wp2
  go_ret2
  refine ⟨rfl, _, Stk.after0 (w' := w) (v' := .slice (some ⟨b, 0, none⟩) xs.length cap) hS.out (fun j => rfl) (fun j => rfl) (row_dropped HO.out) (by simpa [Value.ownBlock] using hbg), ?_⟩
  exact (Eff.refl _ _ _ _).set0 _
set_option maxHeartbeats 1000000 in
theorem lenR (N g o : Nat) (v : Value) (xs : List Value) (m : Nat) (w : World) (hS : Hid (Stk N w 3 g o v xs m)) :
    Calls Try.prog 32 #[.pointer (some ⟨g, o, none⟩)] w fun e w' => e = .returned (.int .i64 (xs.length : Int)) ∧ w' = w := by
  have c0 := hS.out.c0
  obtain ⟨ad, cap, rfl, _⟩ := row_form_any hS.out.row
  go_enter Try.func32, Try.ntmps32
  go_wp2
  go_ret
  exact ⟨rfl, rfl⟩
set_option maxHeartbeats 1000000 in
theorem mostR (N g o : Nat) (v : Value) (xs : List Value) (m : Nat) (w : World) (hS : Hid (Stk N w 3 g o v xs m)) :
    Calls Try.prog 38 #[.pointer (some ⟨g, o, none⟩)] w fun e w' => e = .returned (.int .i64 (m : Int)) ∧ w' = w := by
  have c1 := hS.out.c1
  go_enter Try.func38, Try.ntmps38
  go_wp2
  go_ret
  exact ⟨rfl, rfl⟩
set_option maxHeartbeats 2000000 in
theorem clearR (N g o : Nat) (v : Value) (xs : List Value) (m : Nat) (w : World) (hS : Hid (Stk N w 3 g o v xs m)) :
    Calls Try.prog 34 #[.pointer (some ⟨g, o, none⟩)] w fun e w' => e = .returned (.tuple #[]) ∧ ∃ v', Stk N w' 3 g o v' [] 0 ∧ Eff w w' g o v.ownBlock.toList v'.ownBlock.toList := by
  have c0 := hS.out.c0
  have c1 := hS.out.c1
  have f0 := hS.out.f0
  have f1 := hS.out.f1
  go_enter Try.func34, Try.ntmps34
  go_wp2
  go_end0
  have hst := Stk.after (w' := w) (v' := .slice none 0 0) (ys := []) 0 hS.out (fun j => rfl) (fun j => rfl) (World.ownsRow_nil _ _ _ _) (by simp [Value.ownBlock])
  refine ⟨rfl, _, hst, ?_⟩
  have := (((Eff.refl w g o v.ownBlock.toList).set0 (.slice none 0 0)).set1 (.int .i64 0))
  exact ⟨this.os, this.tape, this.output, this.size, this.block, this.cell, this.frozen, fun k hk => by simp [Value.ownBlock] at hk⟩
set_option maxHeartbeats 2000000 in
theorem pushT (N g o : Nat) (v : Value) (xs : List Value) (m : Nat) (a : ByteArray) (w : World) (hS : Hid (Stk N w 9 g o v xs m)) (hN : N ≤ w.heap.size) (hl : xs.length < 5864062014805) :
    Calls Try.prog 24 #[.pointer (some ⟨g, o, none⟩), (.string a)] w fun e w' => e = .returned (.tuple #[]) ∧ ∃ v', Stk N w' 9 g o v' (xs ++ [(.string a)]) (max m (xs.length + 1)) ∧ Eff w w' g o v.ownBlock.toList v'.ownBlock.toList := by
  have hgl := hS.out.lt
  have c0 := hS.out.c0
  have c1 := hS.out.c1
  have f0 := hS.out.f0
  have f1 := hS.out.f1
  have HO : Hid (w.ownsRow N 9 1 v xs.length xs) := hS.out.row
  have HN : Hid (v.ownBlock ≠ some g) := hS.out.ne
  go_enter Try.func24, Try.ntmps24
  go_wp2_with (at_builtin; refine wpList_append_one rfl (.tmp 8) (.tmp 10) 46 rfl N 9 (.string ⟨#[]⟩) 16 Try.underlying46 info9 rfl v (.string a) xs.length 1 xs rfl HO.out _ rfl rfl rfl (by unfold maxLen; omega) (by omega) hN ?_)
  intro v' w1 ho1 hm1
  have hE := Eff.moved (o := o) hm1.out hgl HN.out
  have hblk : w1.heap[g]? = w.heap[g]? := by
    have hc := chg_moved hm1.out []
    exact hc.block g hgl (by simpa using HN.out)
  have hne' : v'.ownBlock ≠ some g := by
    intro h
    rcases hE.new g (by simp [h]) with h2 | h2
    · exact HN.out (by simpa using h2)
    · omega
  have d0 : w1.cell? ⟨g, o, none⟩ = some v := (World.cell?_of_block (a := ⟨g, o, none⟩) hblk).trans c0
  have d1 : w1.cell? ⟨g, o + 1, none⟩ = some (.int .i64 (m : Int)) := (World.cell?_of_block (a := ⟨g, o + 1, none⟩) hblk).trans c1
  have e0 : w1.frozen? ⟨g, o, none⟩ = false := (World.frozen?_of_block (a := ⟨g, o, none⟩) hblk).trans f0
  have e1 : w1.frozen? ⟨g, o + 1, none⟩ = false := (World.frozen?_of_block (a := ⟨g, o + 1, none⟩) hblk).trans f1
  obtain ⟨b', cap', rfl⟩ := Joins.ownsRow_form ho1.out (by omega)
  have HE : Hid (Eff w w1 g o v.ownBlock.toList (Value.slice (some ⟨b', 0, none⟩) (xs.length + 1) cap').ownBlock.toList) := hE
  have HB : Hid (w1.heap[g]? = w.heap[g]?) := hblk
  have HN' : Hid ((Value.slice (some ⟨b', 0, none⟩) (xs.length + 1) cap').ownBlock ≠ some g) := hne'
  clear hblk hE hne' c0 c1 f0 f1
  go_wp2
  go_region
  all_goals go_wp2
  all_goals go_end0
  have em : ((max m (xs.length + 1) : Nat) : Int) = max (m : Int) ((xs.length : Int) + 1) := by omega
  have hst := Stk.after (w' := w1) (v' := .slice (some ⟨b', 0, none⟩) (xs.length + 1) cap') (ys := xs ++ [(.string a)]) (max m (xs.length + 1)) hS.out (fun j => by rw [World.cell?_of_block (a := ⟨g, j, none⟩) HB.out]) (fun j => World.frozen?_of_block (a := ⟨g, j, none⟩) HB.out) (by rw [List.length_append]; exact ho1.out) HN'.out
  rw [em] at hst
  exact ⟨rfl, _, hst.drew, ((HE.out.set0 _).set1 _).drew⟩
set_option maxHeartbeats 1000000 in
theorem popT_none (N g o : Nat) (v : Value) (m : Nat) (w : World) (hS : Hid (Stk N w 9 g o v [] m)) :
    Calls Try.prog 29 #[.pointer (some ⟨g, o, none⟩)] w fun e w' => e = .returned (.tuple #[(.string ⟨#[]⟩), .bool false]) ∧ w' = w := by
  have c0 := hS.out.c0
  obtain ⟨ad, cap, rfl, _⟩ := row_form_any hS.out.row
  simp only [List.length_nil] at c0
  go_enter Try.func29, Try.ntmps29
  go_wp2
  go_ret2
  exact ⟨rfl, rfl⟩
set_option maxHeartbeats 2000000 in
theorem popT (N g o : Nat) (v : Value) (xs : List Value) (m : Nat) (a : ByteArray) (w : World) (hS : Hid (Stk N w 9 g o v (xs ++ [(.string a)]) m)) :
    Calls Try.prog 29 #[.pointer (some ⟨g, o, none⟩)] w fun e w' => e = .returned (.tuple #[(.string a), .bool true]) ∧ ∃ v', Stk N w' 9 g o v' xs m ∧ Eff w w' g o v.ownBlock.toList v'.ownBlock.toList := by
  have ho := hS.out.row
  have hne := hS.out.ne
  rw [List.length_append, List.length_singleton] at ho
  obtain ⟨b, cap, rfl⟩ := Joins.ownsRow_form ho (by omega)
  have hcap := row_cap ho
  have c0 := hS.out.c0
  have f0 := hS.out.f0
  have d0 : w.cell? ⟨b, xs.length, none⟩ = some (.string a) := by
    rw [ho.cellAt xs.length (by omega)]
    simp
  have fd : w.frozen? ⟨b, xs.length, none⟩ = false := ho.frozenAt _
  have hbg : b ≠ g := fun h => hne (by simp [Value.ownBlock, h])
  have hgb : g ≠ b := fun h => hbg h.symm
  have HO : Hid (w.ownsRow N 9 1 (.slice (some ⟨b, 0, none⟩) (xs.length + 1) cap) (xs.length + 1) (xs ++ [(.string a)])) := ho
  clear ho hne
  go_enter Try.func29, Try.ntmps29
  go_wp2
  go_ret2
  refine ⟨rfl, _, Stk.after0 (w' := w.setCell ⟨b, xs.length, none⟩ (.string ⟨#[]⟩)) (v' := .slice (some ⟨b, 0, none⟩) xs.length cap) hS.out (fun j => World.cell?_of_block (a := ⟨g, j, none⟩) (Below.heap_setCell _ _ _ _ hgb)) (fun j => World.frozen?_setCell _ _ _ _) (row_blanked (row_dropped HO.out) _ (Nat.le_refl _) (by omega)) (by simpa [Value.ownBlock] using hbg), ?_⟩
  exact ((Eff.refl _ _ _ _).setRow b xs.length _ (by simp [Value.ownBlock]) hbg).set0 _
set_option maxHeartbeats 1000000 in
theorem mostT (N g o : Nat) (v : Value) (xs : List Value) (m : Nat) (w : World) (hS : Hid (Stk N w 9 g o v xs m)) :
    Calls Try.prog 39 #[.pointer (some ⟨g, o, none⟩)] w fun e w' => e = .returned (.int .i64 (m : Int)) ∧ w' = w := by
  have c1 := hS.out.c1
  go_enter Try.func39, Try.ntmps39
  go_wp2
  go_ret
  exact ⟨rfl, rfl⟩
set_option maxHeartbeats 2000000 in
theorem clearT (N g o : Nat) (v : Value) (xs : List Value) (m : Nat) (w : World) (hS : Hid (Stk N w 9 g o v xs m)) :
    Calls Try.prog 35 #[.pointer (some ⟨g, o, none⟩)] w fun e w' => e = .returned (.tuple #[]) ∧ ∃ v', Stk N w' 9 g o v' [] 0 ∧ Eff w w' g o v.ownBlock.toList v'.ownBlock.toList := by
  have c0 := hS.out.c0
  have c1 := hS.out.c1
  have f0 := hS.out.f0
  have f1 := hS.out.f1
  have ho := hS.out.row
  have hne := hS.out.ne
  obtain ⟨ad, cap, rfl, hk1, hk2⟩ := row_form_any ho
  have hcl : ∃ w1, (∀ ty, (Builtin.clear_ #[46] ty #[.slice ad xs.length cap]).run Try.prog w = .ok (.tuple #[]) w1) ∧ w1.ownsRow N 9 1 (.slice ad 0 cap) 0 [] ∧ Eff w w1 g o (Value.slice ad xs.length cap).ownBlock.toList (Value.slice ad xs.length cap).ownBlock.toList ∧ (∀ j, w1.cell? ⟨g, j, none⟩ = w.cell? ⟨g, j, none⟩) := by
    by_cases h0 : xs.length = 0
    · refine ⟨w, fun ty => ?_, any_emptied ho, Eff.refl _ _ _ _, fun _ => rfl⟩
      rw [h0]
      cases ad <;> simp [Builtin.clear_, run_underlying Try.underlying46]
    · obtain ⟨b, cap', he⟩ := Joins.ownsRow_form ho (by omega)
      simp only [Value.slice.injEq] at he
      obtain ⟨rfl, _, rfl⟩ := he
      have hbg : b ≠ g := fun h => hne (by simp [Value.ownBlock, h])
      refine ⟨w.setCells b 0 (List.replicate xs.length (.string ⟨#[]⟩)), fun ty => Lib.run_clear_slice w 46 9 ty (.string ⟨#[]⟩) Try.underlying46 zero9 rfl rfl b 0 xs.length cap (by omega) (fun j hj => ?_) (fun j hj => ?_), ?_, Eff.setCells b (by simp [Value.ownBlock]) hbg _ _ _ (Eff.refl _ _ _ _), fun j => World.cell?_of_block (a := ⟨g, j, none⟩) (setCells_other b _ _ _ _ (fun h => hbg h.symm))⟩
      · rw [show 0 + j = j by omega, ho.cellAt j (by omega)]
        simp [hj]
      · rw [show 0 + j = j by omega]; exact ho.frozenAt j
      · exact row_emptied (row_stores (List.replicate xs.length (.string ⟨#[]⟩)) 0 w _ ho (by simp))
  obtain ⟨w1, hcl, ho1, hE, hcs⟩ := hcl
  have d0 := (hcs o).trans c0
  have d1 := (hcs (o + 1)).trans c1
  have e0 := (hE.frozen o).trans f0
  have e1 := (hE.frozen (o + 1)).trans f1
  have HO : Hid (w1.ownsRow N 9 1 (.slice ad 0 cap) 0 []) := ho1
  have HE : Hid (Eff w w1 g o (Value.slice ad xs.length cap).ownBlock.toList (Value.slice ad xs.length cap).ownBlock.toList) := hE
  have HC : Hid (∀ j, w1.cell? ⟨g, j, none⟩ = w.cell? ⟨g, j, none⟩) := hcs
  have HN : Hid ((Value.slice ad xs.length cap).ownBlock ≠ some g) := hne
  clear ho ho1 hE hcs hne
  go_enter Try.func35, Try.ntmps35
  go_wp2_with (simp only [hcl])
  go_end0
  have hst := Stk.after (w' := w1) (v' := .slice ad 0 cap) (ys := []) 0 hS.out (fun j => by rw [HC.out j]) (fun j => HE.out.frozen j) HO.out (by rw [slice_block (ad := ad) (n := 0) (n' := xs.length) (cap := cap)]; exact HN.out)
  refine ⟨rfl, _, hst, ?_⟩
  rw [slice_block (ad := ad) (n := 0) (n' := xs.length) (cap := cap)]
  exact (HE.out.set0 _).set1 _
set_option maxHeartbeats 2000000 in
theorem pushL (N g o : Nat) (v : Value) (xs : List Value) (m : Nat) (a : Option Addr) (k c : Nat) (w : World) (hS : Hid (Stk N w 35 g o v xs m)) (hN : N ≤ w.heap.size) (hl : xs.length < 5864062014805) :
    Calls Try.prog 26 #[.pointer (some ⟨g, o, none⟩), (.slice a k c)] w fun e w' => e = .returned (.tuple #[]) ∧ ∃ v', Stk N w' 35 g o v' (xs ++ [(.slice a k c)]) (max m (xs.length + 1)) ∧ Eff w w' g o v.ownBlock.toList v'.ownBlock.toList := by
  have hgl := hS.out.lt
  have c0 := hS.out.c0
  have c1 := hS.out.c1
  have f0 := hS.out.f0
  have f1 := hS.out.f1
  have HO : Hid (w.ownsRow N 35 1 v xs.length xs) := hS.out.row
  have HN : Hid (v.ownBlock ≠ some g) := hS.out.ne
  go_enter Try.func26, Try.ntmps26
  go_wp2_with (at_builtin; refine wpList_append_one rfl (.tmp 8) (.tmp 10) 30 rfl N 35 (.slice none 0 0) 24 Try.underlying30 info35 rfl v (.slice a k c) xs.length 1 xs rfl HO.out _ rfl rfl rfl (by unfold maxLen; omega) (by omega) hN ?_)
  intro v' w1 ho1 hm1
  have hE := Eff.moved (o := o) hm1.out hgl HN.out
  have hblk : w1.heap[g]? = w.heap[g]? := by
    have hc := chg_moved hm1.out []
    exact hc.block g hgl (by simpa using HN.out)
  have hne' : v'.ownBlock ≠ some g := by
    intro h
    rcases hE.new g (by simp [h]) with h2 | h2
    · exact HN.out (by simpa using h2)
    · omega
  have d0 : w1.cell? ⟨g, o, none⟩ = some v := (World.cell?_of_block (a := ⟨g, o, none⟩) hblk).trans c0
  have d1 : w1.cell? ⟨g, o + 1, none⟩ = some (.int .i64 (m : Int)) := (World.cell?_of_block (a := ⟨g, o + 1, none⟩) hblk).trans c1
  have e0 : w1.frozen? ⟨g, o, none⟩ = false := (World.frozen?_of_block (a := ⟨g, o, none⟩) hblk).trans f0
  have e1 : w1.frozen? ⟨g, o + 1, none⟩ = false := (World.frozen?_of_block (a := ⟨g, o + 1, none⟩) hblk).trans f1
  obtain ⟨b', cap', rfl⟩ := Joins.ownsRow_form ho1.out (by omega)
  have HE : Hid (Eff w w1 g o v.ownBlock.toList (Value.slice (some ⟨b', 0, none⟩) (xs.length + 1) cap').ownBlock.toList) := hE
  have HB : Hid (w1.heap[g]? = w.heap[g]?) := hblk
  have HN' : Hid ((Value.slice (some ⟨b', 0, none⟩) (xs.length + 1) cap').ownBlock ≠ some g) := hne'
  clear hblk hE hne' c0 c1 f0 f1
  go_wp2
  go_region
  all_goals go_wp2
  all_goals go_end0
  have em : ((max m (xs.length + 1) : Nat) : Int) = max (m : Int) ((xs.length : Int) + 1) := by omega
  have hst := Stk.after (w' := w1) (v' := .slice (some ⟨b', 0, none⟩) (xs.length + 1) cap') (ys := xs ++ [(.slice a k c)]) (max m (xs.length + 1)) hS.out (fun j => by rw [World.cell?_of_block (a := ⟨g, j, none⟩) HB.out]) (fun j => World.frozen?_of_block (a := ⟨g, j, none⟩) HB.out) (by rw [List.length_append]; exact ho1.out) HN'.out
  rw [em] at hst
  exact ⟨rfl, _, hst.drew, ((HE.out.set0 _).set1 _).drew⟩
set_option maxHeartbeats 1000000 in
theorem popL_none (N g o : Nat) (v : Value) (m : Nat) (w : World) (hS : Hid (Stk N w 35 g o v [] m)) :
    Calls Try.prog 30 #[.pointer (some ⟨g, o, none⟩)] w fun e w' => e = .returned (.tuple #[(.slice none 0 0), .bool false]) ∧ w' = w := by
  have c0 := hS.out.c0
  obtain ⟨ad, cap, rfl, _⟩ := row_form_any hS.out.row
  simp only [List.length_nil] at c0
  go_enter Try.func30, Try.ntmps30
  go_wp2
  go_ret2
  exact ⟨rfl, rfl⟩
set_option maxHeartbeats 2000000 in
theorem popL (N g o : Nat) (v : Value) (xs : List Value) (m : Nat) (a : Option Addr) (k c : Nat) (w : World) (hS : Hid (Stk N w 35 g o v (xs ++ [(.slice a k c)]) m)) :
    Calls Try.prog 30 #[.pointer (some ⟨g, o, none⟩)] w fun e w' => e = .returned (.tuple #[(.slice a k c), .bool true]) ∧ ∃ v', Stk N w' 35 g o v' xs m ∧ Eff w w' g o v.ownBlock.toList v'.ownBlock.toList := by
  have ho := hS.out.row
  have hne := hS.out.ne
  rw [List.length_append, List.length_singleton] at ho
  obtain ⟨b, cap, rfl⟩ := Joins.ownsRow_form ho (by omega)
  have hcap := row_cap ho
  have c0 := hS.out.c0
  have f0 := hS.out.f0
  have d0 : w.cell? ⟨b, xs.length, none⟩ = some (.slice a k c) := by
    rw [ho.cellAt xs.length (by omega)]
    simp
  have fd : w.frozen? ⟨b, xs.length, none⟩ = false := ho.frozenAt _
  have hbg : b ≠ g := fun h => hne (by simp [Value.ownBlock, h])
  have hgb : g ≠ b := fun h => hbg h.symm
  have HO : Hid (w.ownsRow N 35 1 (.slice (some ⟨b, 0, none⟩) (xs.length + 1) cap) (xs.length + 1) (xs ++ [(.slice a k c)])) := ho
  clear ho hne
  go_enter Try.func30, Try.ntmps30
  go_wp2
  go_ret2
  refine ⟨rfl, _, Stk.after0 (w' := w.setCell ⟨b, xs.length, none⟩ (.slice none 0 0)) (v' := .slice (some ⟨b, 0, none⟩) xs.length cap) hS.out (fun j => World.cell?_of_block (a := ⟨g, j, none⟩) (Below.heap_setCell _ _ _ _ hgb)) (fun j => World.frozen?_setCell _ _ _ _) (row_blanked (row_dropped HO.out) _ (Nat.le_refl _) (by omega)) (by simpa [Value.ownBlock] using hbg), ?_⟩
  exact ((Eff.refl _ _ _ _).setRow b xs.length _ (by simp [Value.ownBlock]) hbg).set0 _
set_option maxHeartbeats 1000000 in
theorem lenL (N g o : Nat) (v : Value) (xs : List Value) (m : Nat) (w : World) (hS : Hid (Stk N w 35 g o v xs m)) :
    Calls Try.prog 40 #[.pointer (some ⟨g, o, none⟩)] w fun e w' => e = .returned (.int .i64 (xs.length : Int)) ∧ w' = w := by
  have c0 := hS.out.c0
  obtain ⟨ad, cap, rfl, _⟩ := row_form_any hS.out.row
  go_enter Try.func40, Try.ntmps40
  go_wp2
  go_ret
  exact ⟨rfl, rfl⟩
set_option maxHeartbeats 2000000 in
theorem clearL (N g o : Nat) (v : Value) (xs : List Value) (m : Nat) (w : World) (hS : Hid (Stk N w 35 g o v xs m)) :
    Calls Try.prog 36 #[.pointer (some ⟨g, o, none⟩)] w fun e w' => e = .returned (.tuple #[]) ∧ ∃ v', Stk N w' 35 g o v' [] 0 ∧ Eff w w' g o v.ownBlock.toList v'.ownBlock.toList := by
  have c0 := hS.out.c0
  have c1 := hS.out.c1
  have f0 := hS.out.f0
  have f1 := hS.out.f1
  have ho := hS.out.row
  have hne := hS.out.ne
  obtain ⟨ad, cap, rfl, hk1, hk2⟩ := row_form_any ho
  have hcl : ∃ w1, (∀ ty, (Builtin.clear_ #[30] ty #[.slice ad xs.length cap]).run Try.prog w = .ok (.tuple #[]) w1) ∧ w1.ownsRow N 35 1 (.slice ad 0 cap) 0 [] ∧ Eff w w1 g o (Value.slice ad xs.length cap).ownBlock.toList (Value.slice ad xs.length cap).ownBlock.toList ∧ (∀ j, w1.cell? ⟨g, j, none⟩ = w.cell? ⟨g, j, none⟩) := by
    by_cases h0 : xs.length = 0
    · refine ⟨w, fun ty => ?_, any_emptied ho, Eff.refl _ _ _ _, fun _ => rfl⟩
      rw [h0]
      cases ad <;> simp [Builtin.clear_, run_underlying Try.underlying30]
    · obtain ⟨b, cap', he⟩ := Joins.ownsRow_form ho (by omega)
      simp only [Value.slice.injEq] at he
      obtain ⟨rfl, _, rfl⟩ := he
      have hbg : b ≠ g := fun h => hne (by simp [Value.ownBlock, h])
      refine ⟨w.setCells b 0 (List.replicate xs.length (.slice none 0 0)), fun ty => Lib.run_clear_slice w 30 35 ty (.slice none 0 0) Try.underlying30 zero35 rfl rfl b 0 xs.length cap (by omega) (fun j hj => ?_) (fun j hj => ?_), ?_, Eff.setCells b (by simp [Value.ownBlock]) hbg _ _ _ (Eff.refl _ _ _ _), fun j => World.cell?_of_block (a := ⟨g, j, none⟩) (setCells_other b _ _ _ _ (fun h => hbg h.symm))⟩
      · rw [show 0 + j = j by omega, ho.cellAt j (by omega)]
        simp [hj]
      · rw [show 0 + j = j by omega]; exact ho.frozenAt j
      · exact row_emptied (row_stores (List.replicate xs.length (.slice none 0 0)) 0 w _ ho (by simp))
  obtain ⟨w1, hcl, ho1, hE, hcs⟩ := hcl
  have d0 := (hcs o).trans c0
  have d1 := (hcs (o + 1)).trans c1
  have e0 := (hE.frozen o).trans f0
  have e1 := (hE.frozen (o + 1)).trans f1
  have HO : Hid (w1.ownsRow N 35 1 (.slice ad 0 cap) 0 []) := ho1
  have HE : Hid (Eff w w1 g o (Value.slice ad xs.length cap).ownBlock.toList (Value.slice ad xs.length cap).ownBlock.toList) := hE
  have HC : Hid (∀ j, w1.cell? ⟨g, j, none⟩ = w.cell? ⟨g, j, none⟩) := hcs
  have HN : Hid ((Value.slice ad xs.length cap).ownBlock ≠ some g) := hne
  clear ho ho1 hE hcs hne
  go_enter Try.func36, Try.ntmps36
  go_wp2_with (simp only [hcl])
  go_end0
  have hst := Stk.after (w' := w1) (v' := .slice ad 0 cap) (ys := []) 0 hS.out (fun j => by rw [HC.out j]) (fun j => HE.out.frozen j) HO.out (by rw [slice_block (ad := ad) (n := 0) (n' := xs.length) (cap := cap)]; exact HN.out)
  refine ⟨rfl, _, hst, ?_⟩
  rw [slice_block (ad := ad) (n := 0) (n' := xs.length) (cap := cap)]
  exact (HE.out.set0 _).set1 _
end Go.Proofs.Ytlidhjcciglinaa
