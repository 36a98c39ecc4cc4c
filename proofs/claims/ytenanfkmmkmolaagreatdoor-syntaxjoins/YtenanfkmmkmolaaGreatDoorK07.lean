/- HELPERS: Tl, Lx, Ly, Aw, Ad, Nr, Lo, Lp, Lq, Lr, Ls, Lt, Lu, Rx, Ry, Rz. -/
import Derived.Test.YtenanfkmmkmolaaGreatDoorK06
import Derived.Laws.IdiomStrings
import Derived.Laws.AppendOwn
import Derived.Carry
import Derived.Maps.OwnSet
import Derived.StringKeys
/- HELPERS: the node of a level. -/
namespace Go.Proofs.YtenanfkmmkmolaaGreatDoor
open Go.RowKit Go.Mx
set_option linter.unusedVariables false
set_option linter.unusedSimpArgs false
abbrev altA (v : Value) : Array Value := #[.int .i64 5, .slice none 0 0, .int .i64 0, v, .int .i64 0, .int .i64 0, .bool false, .int .i64 0, .string ⟨#[]⟩]
abbrev grpA (ix : Int) (nm : ByteArray) (nb : Nat) : Array Value := #[.int .i64 7, .slice none 0 0, .int .i64 0, .slice (some ⟨nb, 0, none⟩) 1 1, .int .i64 0, .int .i64 0, .bool false, .int .i64 ix, .string nm]
theorem fin_tree {w1 : World} {b : Nat} {Z C D : Array Value} (hb : w1.heap[b]? = some (.cells Z 26 (0, 0))) :
    ((((w1.setRow b D).alloc (.cells C 26)).alloc (.cells C 26)).drew).heap[b]? = some (.cells D 26 (0, 0)) ∧ Mo w1 ((((w1.setRow b D).alloc (.cells C 26)).alloc (.cells C 26)).drew) b ∧ ((((w1.setRow b D).alloc (.cells C 26)).alloc (.cells C 26)).drew).heap[w1.heap.size + 1]? = some (.cells C 26 (0, 0)) := by
  have lb := (Array.getElem?_eq_some_iff.1 hb).1
  have hz : (w1.setRow b D).heap.size = w1.heap.size := by simp
  refine ⟨?_, ⟨rfl, rfl, rfl, ?_, fun k hk hn => ?_⟩, ?_⟩
  · exact (heap_alloc_old _ _ (by simp; omega)).trans ((heap_alloc_old _ _ (by simp; omega)).trans (setRow_heap _ _ _ _ _ _ hb))
  · show w1.heap.size ≤ (((w1.setRow b D).alloc (.cells C 26)).alloc (.cells C 26)).heap.size
    simp
    omega
  · exact (heap_alloc_old _ _ (by simp; omega)).trans ((heap_alloc_old _ _ (by simp; omega)).trans (setRow_other _ _ _ _ hn))
  · have := heap_alloc_new ((w1.setRow b D).alloc (.cells C 26)) (.cells C 26)
    have hz2 : ((w1.setRow b D).alloc (.cells C 26)).heap.size = w1.heap.size + 1 := by simp
    rw [hz2] at this
    exact this
/-- what stands in memory behind endCat: the level's cells, its row of cats, the box of the result -/
def TreeAt (w w1 : World) (ob n l : Nat) (ix : Int) (nm : ByteArray) (cb cap : Nat) (cs : List Value) : Prop :=
  ∃ cur curc, w1.heap[ob]? = some (.cells cur 85 (0, 0)) ∧ cur[n * 6]? = some (.slice (some ⟨cb, 0, none⟩) l cap) ∧ cur[n * 6 + 4]? = some (.int .i64 ix) ∧ cur[n * 6 + 5]? = some (.string nm) ∧ w1.heap[cb]? = some (.cells curc 26 (0, 0)) ∧ curc.toList.take 9 = cs ∧ w1.heap[w.heap.size]? = some (.cells Z9 26 (0, 0)) ∧ ¬ w.heap.size = ob ∧ ¬ w.heap.size = cb ∧
    ∃ (a0 a2 a4 a5 a7 : Int) (a6 : Bool) (a8 : ByteArray) (r1 s1 : Option Addr) (r2 r3 s2 s3 : Nat), cs = [.int .i64 a0, .slice r1 r2 r3, .int .i64 a2, .slice s1 s2 s3, .int .i64 a4, .int .i64 a5, .bool a6, .int .i64 a7, .string a8]
set_option maxHeartbeats 2000000 in
theorem tree48_a {w : World} {ob n l : Nat} {nm : ByteArray} {ix : Int} {R : World → Nat → Nat → List Value → Prop}
    (HC : Calls Tryz.prog 42 #[.pointer (some ⟨ob, n * 6, none⟩)] (w.alloc (.cells Z9 26)) fun e w1 => e = .returned (.tuple #[]) ∧ ∃ cb cap cs, R w1 cb cap cs) (HR : ∀ w1 cb cap cs, R w1 cb cap cs → TreeAt w w1 ob n 1 0 nm cb cap cs) (hn : n ≤ 65600) :
    Calls Tryz.prog 48 #[.pointer (some ⟨ob, n * 6, none⟩)] w fun e w' => ∃ w1 cb cap cs, R w1 cb cap cs ∧ e = .returned (.agg (cs.toArray)) ∧ Mo w1 w' w.heap.size := by
  go_enter Tryz.func48, Tryz.ntmps48
  go_wp2_with (go_at_call 42; (with_reducible refine HC.mono ?_); rintro e w1 ⟨rfl, cb, cap, cs, hR⟩; obtain ⟨cur, curc, hob, hcv, hix, hnm, hcb, hrc, hbx, hbo, hbc, a0, a2, a4, a5, a7, a6, a8, r1, s1, r2, r3, s2, s3, rfl⟩ := HR w1 cb cap cs hR; have HRR := hid hR; clear hR; obtain ⟨x0, x1, x2, x3, x4, x5, x6, x7, x8⟩ := cells9 hcb hrc; have k0 := (Joins.cell_of_block hob (n * 6)).trans hcv; have k4 := (Joins.cell_of_block hob (n * 6 + 4)).trans hix; have k5 := (Joins.cell_of_block hob (n * 6 + 5)).trans hnm; have lob := (Array.getElem?_eq_some_iff.1 hob).1; have lcb := (Array.getElem?_eq_some_iff.1 hcb).1; have Hbx := hid hbx; obtain ⟨o0, o1, o2, o3, o4, o5, o6, o7, o8⟩ := blk9 Hbx.out; obtain ⟨z0, z1, z2, z3, z4, z5, z6, z7, z8⟩ := frz9 Hbx.out; have lbx := (Array.getElem?_eq_some_iff.1 Hbx.out).1; have nob : ¬ ob = w.heap.size := fun e => hbo e.symm; clear hob hcv hix hnm hcb hrc hbx)
  rw [set9_eq Hbx.out]
  refine bodyPost_ret (results_node rfl _ _ w.heap.size _ rfl ((heap_alloc_old _ _ (by simp; exact lbx)).trans (setRow_heap _ _ _ _ _ _ Hbx.out)) rfl) rfl ?_
  exact ⟨w1, cb, cap, _, HRR.out, rfl, rfl, rfl, rfl, by simp, fun k hk hn => (heap_alloc_old _ _ (by simp; exact hk)).trans (setRow_other _ _ _ _ hn)⟩
set_option maxHeartbeats 2000000 in
theorem tree48_b {w : World} {ob n l : Nat} {nm : ByteArray} {ix : Int} {R : World → Nat → Nat → List Value → Prop} (hl : 2 ≤ l)
    (HC : Calls Tryz.prog 42 #[.pointer (some ⟨ob, n * 6, none⟩)] (w.alloc (.cells Z9 26)) fun e w1 => e = .returned (.tuple #[]) ∧ ∃ cb cap cs, R w1 cb cap cs) (HR : ∀ w1 cb cap cs, R w1 cb cap cs → TreeAt w w1 ob n l 0 nm cb cap cs) (hn : n ≤ 65600) :
    Calls Tryz.prog 48 #[.pointer (some ⟨ob, n * 6, none⟩)] w fun e w' => ∃ w1 cb cap cs, R w1 cb cap cs ∧ e = .returned (.agg (altA (.slice (some ⟨cb, 0, none⟩) l cap))) ∧ Mo w1 w' w.heap.size := by
  have b1 : decide ((1 : Int) < (l : Int)) = true := by simp; omega
  have b2 : (0 : Int) < (l : Int) := by omega
  have b3 : 0 < l := by omega
  go_enter Tryz.func48, Tryz.ntmps48
  go_wp2_with (go_at_call 42; (with_reducible refine HC.mono ?_); rintro e w1 ⟨rfl, cb, cap, cs, hR⟩; obtain ⟨cur, curc, hob, hcv, hix, hnm, hcb, hrc, hbx, hbo, hbc, a0, a2, a4, a5, a7, a6, a8, r1, s1, r2, r3, s2, s3, rfl⟩ := HR w1 cb cap cs hR; have HRR := hid hR; clear hR; obtain ⟨x0, x1, x2, x3, x4, x5, x6, x7, x8⟩ := cells9 hcb hrc; have k0 := (Joins.cell_of_block hob (n * 6)).trans hcv; have k4 := (Joins.cell_of_block hob (n * 6 + 4)).trans hix; have k5 := (Joins.cell_of_block hob (n * 6 + 5)).trans hnm; have lob := (Array.getElem?_eq_some_iff.1 hob).1; have lcb := (Array.getElem?_eq_some_iff.1 hcb).1; have Hbx := hid hbx; obtain ⟨o0, o1, o2, o3, o4, o5, o6, o7, o8⟩ := blk9 Hbx.out; obtain ⟨z0, z1, z2, z3, z4, z5, z6, z7, z8⟩ := frz9 Hbx.out; have lbx := (Array.getElem?_eq_some_iff.1 Hbx.out).1; have nob : ¬ ob = w.heap.size := fun e => hbo e.symm; clear hob hcv hix hnm hcb hrc hbx)
  rw [set9_eq Hbx.out]
  refine bodyPost_ret (results_node rfl _ _ w.heap.size _ rfl ((heap_alloc_old _ _ (by simp; exact lbx)).trans (setRow_heap _ _ _ _ _ _ Hbx.out)) rfl) rfl ?_
  exact ⟨w1, cb, cap, _, HRR.out, rfl, rfl, rfl, rfl, by simp, fun k hk hn => (heap_alloc_old _ _ (by simp; exact hk)).trans (setRow_other _ _ _ _ hn)⟩
set_option maxHeartbeats 2000000 in
theorem tree48_c {w : World} {ob n l : Nat} {nm : ByteArray} {ix : Int} {R : World → Nat → Nat → List Value → Prop} (hx : ¬ ix = 0)
    (HC : Calls Tryz.prog 42 #[.pointer (some ⟨ob, n * 6, none⟩)] (w.alloc (.cells Z9 26)) fun e w1 => e = .returned (.tuple #[]) ∧ ∃ cb cap cs, R w1 cb cap cs) (HR : ∀ w1 cb cap cs, R w1 cb cap cs → TreeAt w w1 ob n 1 ix nm cb cap cs) (hn : n ≤ 65600) :
    Calls Tryz.prog 48 #[.pointer (some ⟨ob, n * 6, none⟩)] w fun e w' => ∃ w1 cb cap cs, R w1 cb cap cs ∧ ∃ nb, e = .returned (.agg (grpA ix nm nb)) ∧ Mo w1 w' w.heap.size ∧ w1.heap.size ≤ nb ∧ w'.heap[nb]? = some (.cells (cs.toArray) 26 (0, 0)) := by
  have b4 : (ix == 0) = false := by simpa using hx
  go_enter Tryz.func48, Tryz.ntmps48
  go_wp2_with (go_at_call 42; (with_reducible refine HC.mono ?_); rintro e w1 ⟨rfl, cb, cap, cs, hR⟩; obtain ⟨cur, curc, hob, hcv, hix, hnm, hcb, hrc, hbx, hbo, hbc, a0, a2, a4, a5, a7, a6, a8, r1, s1, r2, r3, s2, s3, rfl⟩ := HR w1 cb cap cs hR; have HRR := hid hR; clear hR; obtain ⟨x0, x1, x2, x3, x4, x5, x6, x7, x8⟩ := cells9 hcb hrc; have k0 := (Joins.cell_of_block hob (n * 6)).trans hcv; have k4 := (Joins.cell_of_block hob (n * 6 + 4)).trans hix; have k5 := (Joins.cell_of_block hob (n * 6 + 5)).trans hnm; have lob := (Array.getElem?_eq_some_iff.1 hob).1; have lcb := (Array.getElem?_eq_some_iff.1 hcb).1; have Hbx := hid hbx; obtain ⟨o0, o1, o2, o3, o4, o5, o6, o7, o8⟩ := blk9 Hbx.out; obtain ⟨z0, z1, z2, z3, z4, z5, z6, z7, z8⟩ := frz9 Hbx.out; have lbx := (Array.getElem?_eq_some_iff.1 Hbx.out).1; have nob : ¬ ob = w.heap.size := fun e => hbo e.symm; clear hob hcv hix hnm hcb hrc hbx)
  go_region
  all_goals go_wp2
  all_goals rw [set9_eq Hbx.out]
  all_goals
    (obtain ⟨e1, e2, e3⟩ := fin_tree (D := grpA ix nm (w1.heap.size + 1)) (C := #[.int .i64 a0, .slice r1 r2 r3, .int .i64 a2, .slice s1 s2 s3, .int .i64 a4, .int .i64 a5, .bool a6, .int .i64 a7, .string a8]) Hbx.out
     refine bodyPost_ret (results_node rfl _ _ w.heap.size (grpA ix nm (w1.heap.size + 1)).toList rfl e1 rfl) rfl ?_
     exact ⟨w1, cb, cap, _, HRR.out, w1.heap.size + 1, rfl, e2, by omega, e3⟩)
set_option maxHeartbeats 2000000 in
theorem tree48_d {w : World} {ob n l : Nat} {nm : ByteArray} {ix : Int} {R : World → Nat → Nat → List Value → Prop} (hl : 2 ≤ l) (hx : ¬ ix = 0)
    (HC : Calls Tryz.prog 42 #[.pointer (some ⟨ob, n * 6, none⟩)] (w.alloc (.cells Z9 26)) fun e w1 => e = .returned (.tuple #[]) ∧ ∃ cb cap cs, R w1 cb cap cs) (HR : ∀ w1 cb cap cs, R w1 cb cap cs → TreeAt w w1 ob n l ix nm cb cap cs) (hn : n ≤ 65600) :
    Calls Tryz.prog 48 #[.pointer (some ⟨ob, n * 6, none⟩)] w fun e w' => ∃ w1 cb cap cs, R w1 cb cap cs ∧ ∃ nb, e = .returned (.agg (grpA ix nm nb)) ∧ Mo w1 w' w.heap.size ∧ w1.heap.size ≤ nb ∧ w'.heap[nb]? = some (.cells (altA (.slice (some ⟨cb, 0, none⟩) l cap)) 26 (0, 0)) := by
  have b1 : decide ((1 : Int) < (l : Int)) = true := by simp; omega
  have b2 : (0 : Int) < (l : Int) := by omega
  have b3 : 0 < l := by omega
  have b4 : (ix == 0) = false := by simpa using hx
  go_enter Tryz.func48, Tryz.ntmps48
  go_wp2_with (go_at_call 42; (with_reducible refine HC.mono ?_); rintro e w1 ⟨rfl, cb, cap, cs, hR⟩; obtain ⟨cur, curc, hob, hcv, hix, hnm, hcb, hrc, hbx, hbo, hbc, a0, a2, a4, a5, a7, a6, a8, r1, s1, r2, r3, s2, s3, rfl⟩ := HR w1 cb cap cs hR; have HRR := hid hR; clear hR; obtain ⟨x0, x1, x2, x3, x4, x5, x6, x7, x8⟩ := cells9 hcb hrc; have k0 := (Joins.cell_of_block hob (n * 6)).trans hcv; have k4 := (Joins.cell_of_block hob (n * 6 + 4)).trans hix; have k5 := (Joins.cell_of_block hob (n * 6 + 5)).trans hnm; have lob := (Array.getElem?_eq_some_iff.1 hob).1; have lcb := (Array.getElem?_eq_some_iff.1 hcb).1; have Hbx := hid hbx; obtain ⟨o0, o1, o2, o3, o4, o5, o6, o7, o8⟩ := blk9 Hbx.out; obtain ⟨z0, z1, z2, z3, z4, z5, z6, z7, z8⟩ := frz9 Hbx.out; have lbx := (Array.getElem?_eq_some_iff.1 Hbx.out).1; have nob : ¬ ob = w.heap.size := fun e => hbo e.symm; clear hob hcv hix hnm hcb hrc hbx)
  go_region
  all_goals go_wp2
  all_goals rw [set9_eq Hbx.out]
  all_goals
    (obtain ⟨e1, e2, e3⟩ := fin_tree (D := grpA ix nm (w1.heap.size + 1)) (C := altA (.slice (some ⟨cb, 0, none⟩) l cap)) Hbx.out
     refine bodyPost_ret (results_node rfl _ _ w.heap.size (grpA ix nm (w1.heap.size + 1)).toList rfl e1 rfl) rfl ?_
     exact ⟨w1, cb, cap, _, HRR.out, w1.heap.size + 1, rfl, e2, by omega, e3⟩)
end Go.Proofs.YtenanfkmmkmolaaGreatDoor
/- HELPERS: a level in its row: a cat is over; the node of a level. -/
namespace Go.Proofs.YtenanfkmmkmolaaGreatDoor
open Go.RowKit Go.Mx
set_option linter.unusedVariables false
set_option linter.unusedSimpArgs false
/-- no block twice, by counting -/
theorem nd_gen {L L' : List Nat} (h : L.Nodup) (hi : ∀ a, a ∈ L → L'.count a ≤ L.count a) (hn : ∀ a, a ∉ L → L'.count a ≤ 1) : L'.Nodup := by
  rw [List.nodup_iff_count]
  intro a
  by_cases ha : a ∈ L
  · exact Nat.le_trans (hi a ha) (List.nodup_iff_count.1 h a)
  · exact hn a ha
theorem take_set_row {cur : Array Value} {m i : Nat} {v : Value} {xs : List Value} (h : cur.toList.take m = xs) : (cur.setIfInBounds i v).toList.take m = xs.set i v := by
  rw [Array.toList_setIfInBounds, ← h, List.take_set]
/-- a row that has a block: what is in it -/
theorem row_blk {w : World} {N e s ob cap n : Nat} {cur : Array Value} {xs : List Value} (h : w.ownsRow N e s (.slice (some ⟨ob, 0, none⟩) n cap) n xs) (hc : w.heap[ob]? = some (.cells cur e (0, 0))) : N ≤ ob ∧ n ≤ cap ∧ cap ≤ maxLen ∧ cur.size = cap * s ∧ cur.toList.take (n * s) = xs := by
  rcases h.2 with ⟨h, _⟩ | ⟨g, cap', cur', he, h1, h2, h3, h4, h5, h6⟩
  · cases h
  · simp only [Value.slice.injEq, Option.some.injEq, Addr.mk.injEq] at he
    obtain ⟨⟨rfl, _⟩, _, rfl⟩ := he
    rw [hc] at h2
    simp only [Option.some.injEq, Obj.cells.injEq] at h2
    obtain ⟨rfl, _⟩ := h2
    exact ⟨h1, h3, h4, h5, h6⟩
theorem row_some {w : World} {N e s ob cap n : Nat} {xs : List Value} (h : w.ownsRow N e s (.slice (some ⟨ob, 0, none⟩) n cap) n xs) : ∃ cur, w.heap[ob]? = some (.cells cur e (0, 0)) := by
  rcases h.2 with ⟨h, _⟩ | ⟨g, cap', cur', he, h1, h2, h3, h4, h5, h6⟩
  · cases h
  · simp only [Value.slice.injEq, Option.some.injEq, Addr.mk.injEq] at he
    obtain ⟨⟨rfl, _⟩, _, rfl⟩ := he
    exact ⟨cur', h2⟩
theorem row_put {w w' : World} {N e s ob cap n i : Nat} {cur : Array Value} {v : Value} {xs : List Value} (h : w.ownsRow N e s (.slice (some ⟨ob, 0, none⟩) n cap) n xs) (hc : w.heap[ob]? = some (.cells cur e (0, 0))) (hb : w'.heap[ob]? = some (.cells (cur.setIfInBounds i v) e (0, 0))) : w'.ownsRow N e s (.slice (some ⟨ob, 0, none⟩) n cap) n (xs.set i v) := by
  obtain ⟨h1, h3, h4, h5, h6⟩ := row_blk h hc
  exact ⟨by rw [List.length_set]; exact h.1, .inr ⟨ob, cap, _, rfl, h1, hb, h3, h4, by simpa using h5, take_set_row h6⟩⟩
theorem row_at {w : World} {N e s ob cap n : Nat} {cur : Array Value} {xs : List Value} (h : w.ownsRow N e s (.slice (some ⟨ob, 0, none⟩) n cap) n xs) (hc : w.heap[ob]? = some (.cells cur e (0, 0))) (i : Nat) (hi : i < n * s) : cur[i]? = xs[i]? := by
  obtain ⟨h1, h3, h4, h5, h6⟩ := row_blk h hc
  rw [← h6, List.getElem?_take, if_pos hi]
  simp
/-- a shorter row in the same block -/
theorem row_less {w : World} {N e s ob cap n m : Nat} {xs ys : List Value} (h : w.ownsRow N e s (.slice (some ⟨ob, 0, none⟩) n cap) n (xs ++ ys)) (hm : m ≤ n) (hx : xs.length = m * s) : w.ownsRow N e s (.slice (some ⟨ob, 0, none⟩) m cap) m xs := by
  obtain ⟨cur, hc⟩ := row_some h
  obtain ⟨h1, h3, h4, h5, h6⟩ := row_blk h hc
  refine ⟨hx, .inr ⟨ob, cap, cur, rfl, h1, hc, by omega, h4, h5, ?_⟩⟩
  have : (cur.toList.take (n * s)).take (m * s) = xs := by rw [h6, ← hx, List.take_left']; rfl
  rw [List.take_take, Nat.min_eq_left (Nat.mul_le_mul_right s hm)] at this
  exact this
theorem Fr.refl (w : World) (F : List Nat) : Fr w w F := ⟨rfl, rfl, rfl, Nat.le_refl _, fun _ _ _ => rfl⟩
theorem Fr.trans {w w1 w2 : World} {F : List Nat} (h1 : Fr w w1 F) (h2 : Fr w1 w2 F) : Fr w w2 F :=
  ⟨h2.os.trans h1.os, h2.tape.trans h1.tape, h2.output.trans h1.output, Nat.le_trans h1.size h2.size, fun k hk hn => (h2.block k (Nat.lt_of_lt_of_le hk h1.size) hn).trans (h1.block k hk hn)⟩
theorem Fr.le {w w' : World} {F G : List Nat} (h : Fr w w' F) (hs : ∀ k ∈ F, k ∈ G) : Fr w w' G := ⟨h.os, h.tape, h.output, h.size, fun k hk hn => h.block k hk fun hm => hn (hs k hm)⟩
theorem Fr.of_mo {w w' : World} {g : Nat} {F : List Nat} (h : Mo w w' g) (hg : g ∈ F) : Fr w w' F := ⟨h.os, h.tape, h.output, h.size, fun k hk hn => h.block k hk fun e => hn (e ▸ hg)⟩
theorem Fr.alloc (w : World) (o : Obj) (F : List Nat) : Fr w (w.alloc o) F := ⟨rfl, rfl, rfl, by simp, fun k hk _ => heap_alloc_old w o hk⟩
theorem Fr.set (w : World) (b i : Nat) (v : Value) {F : List Nat} (hb : b ∈ F) : Fr w (w.setCell ⟨b, i, none⟩ v) F := Fr.of_mo (Mo.set w b i v) hb
theorem Fr.below {w w' : World} {F : List Nat} {N : Nat} (h : Fr w w' F) (hF : ∀ k ∈ F, N ≤ k) (hN : N ≤ w.heap.size) : Below N w w' := ⟨h.os, h.tape, h.output, h.size, fun k hk => h.block k (by omega) fun hm => by have := hF k hm; omega⟩
/-- the end of endCat -/
theorem endCat_fin {w w1 : World} {N ob n : Nat} {cur : Array Value} {l : Lev} {cv : Value} {cc vs : List Value} {Fc Fv : List Nat} (PP : Pushed N w w1 ob cur (n * 6) cv l.cats.length cc vs) (hrow : w.ownsRow N 26 9 cv l.cats.length cc) (h3 : TVs N w cc l.cats Fc) (hv : TV N w vs l.catOf Fv)
    (hnd : (cv.ownBlock.toList ++ (Fc ++ Fv)).Nodup) (hob : ob ∉ cv.ownBlock.toList ++ (Fc ++ Fv)) :
    ∃ nv F', LV N (w1.setCell ⟨ob, n * 6 + 1, none⟩ (.slice none 0 0)) [nv, .slice none 0 0, .bool l.fold, .bool l.all, .int .i64 l.index, .string l.name] l.endCat F' ∧ F'.Nodup ∧ (∀ k ∈ F', k ∈ cv.ownBlock.toList ++ (Fc ++ Fv) ∨ w.heap.size ≤ k) ∧ ob ∉ F' ∧
      (w1.setCell ⟨ob, n * 6 + 1, none⟩ (.slice none 0 0)).heap[ob]? = some (.cells ((cur.setIfInBounds (n * 6) nv).setIfInBounds (n * 6 + 1) (.slice none 0 0)) 85 (0, 0)) ∧ Fr w (w1.setCell ⟨ob, n * 6 + 1, none⟩ (.slice none 0 0)) (ob :: cv.ownBlock.toList) := by
  obtain ⟨⟨nv, e1, e2, e3⟩, hf⟩ := PP
  have hF2 : Fr w (w1.setCell ⟨ob, n * 6 + 1, none⟩ (.slice none 0 0)) (ob :: cv.ownBlock.toList) := hf.trans (Fr.set w1 ob _ _ (by simp))
  have hobl : ob < w1.heap.size := (Array.getElem?_eq_some_iff.1 e2).1
  have hnvo : nv.ownBlock ≠ some ob := own_ne e1 e2 (by decide)
  have hdc : ∀ k ∈ Fc ++ Fv, k ∉ ob :: cv.ownBlock.toList := fun k hk hm => by
    rcases List.mem_cons.1 hm with rfl | hm
    · exact hob (List.mem_append_right _ hk)
    · exact (List.nodup_append.1 hnd).2.2 k hm k hk rfl
  have hlow : ∀ k ∈ cv.ownBlock.toList ++ (Fc ++ Fv), k < w.heap.size := fun k hk => by
    rcases List.mem_append.1 hk with h | h
    · exact (hrow.lt k (by simpa using h)).2
    · rcases List.mem_append.1 h with h | h
      · exact (h3.low k h).2
      · exact (hv.low k h).2
  have T1 : TVs N (w1.setCell ⟨ob, n * 6 + 1, none⟩ (.slice none 0 0)) cc l.cats Fc := h3.kept fun k hk => hF2.block k (h3.low k hk).2 (hdc k (List.mem_append_left _ hk))
  have T2 : TV N (w1.setCell ⟨ob, n * 6 + 1, none⟩ (.slice none 0 0)) vs l.catOf Fv := hv.kept fun k hk => hF2.block k (hv.low k hk).2 (hdc k (List.mem_append_right _ hk))
  refine ⟨nv, nv.ownBlock.toList ++ ([] ++ ((Fc ++ Fv) ++ [])), ⟨nv, .slice none 0 0, cc ++ vs, [], Fc ++ Fv, [], rfl, ?_, ?_, ?_, ?_, rfl⟩, ?_, ?_, ?_, Joins.block_setCell (i := n * 6 + 1) e2 _, hF2⟩
  · have := own_setCell (a := ⟨ob, n * 6 + 1, none⟩) (u := .slice none 0 0) e1 hnvo
    simpa [Lev.endCat] using this
  · exact TVs.snoc T2 T1
  · exact World.ownsRow_nil _ _ _ _
  · exact .nil
  · have hcnt : ∀ a, a ∉ cv.ownBlock.toList ++ (Fc ++ Fv) → List.count a (Fc ++ Fv) = 0 := fun a ha => List.count_eq_zero.2 fun h => ha (List.mem_append_right _ h)
    simp only [List.nil_append, List.append_nil]
    rw [List.nodup_append] at hnd
    rw [List.nodup_append]
    refine ⟨by cases nv.ownBlock <;> simp, hnd.2.1, ?_⟩
    intro a ha b hb hab
    subst hab
    simp only [Option.mem_toList] at ha
    rcases e3 with h | ⟨b', h, hb'⟩
    · exact hnd.2.2 a (by simp only [Option.mem_toList]; rw [← h]; exact ha) a hb rfl
    · have hE : nv.ownBlock = some a := ha
      rw [h] at hE
      injection hE with hE
      have := hlow a (List.mem_append_right _ hb)
      omega
  · intro k hk
    simp only [List.nil_append, List.append_nil] at hk
    rcases List.mem_append.1 hk with hk | hk
    · simp only [Option.mem_toList] at hk
      rcases e3 with h | ⟨b', h, hb'⟩
      · exact .inl (List.mem_append_left _ (by simp only [Option.mem_toList]; rw [← h]; exact hk))
      · have hE : nv.ownBlock = some k := hk
        rw [h] at hE
        injection hE with hE
        exact .inr (by omega)
    · exact .inl (List.mem_append_right _ hk)
  · simp only [List.nil_append, List.append_nil]
    intro hm
    rcases List.mem_append.1 hm with hm | hm
    · exact hnvo (by simpa using hm)
    · exact hob (List.mem_append_right _ hm)
/-- endCat of a level that lies in its row -/
theorem endCat_lv {w : World} {N ob n : Nat} {cur : Array Value} {l : Lev} {cells : List Value} {F : List Nat} (Hob : Hid (w.heap[ob]? = some (.cells cur 85 (0, 0)))) (hc : ∀ j, j < 6 → cur[n * 6 + j]? = cells[j]?) (HL : LV N w cells l F) (hF : F.Nodup) (hobF : ob ∉ F) (hm : l.cats.length ≤ 65600) (hN : N ≤ w.heap.size) :
    Calls Tryz.prog 42 #[.pointer (some ⟨ob, n * 6, none⟩)] w fun e w' => e = .returned (.tuple #[]) ∧ ∃ nv F', LV N w' [nv, .slice none 0 0, .bool l.fold, .bool l.all, .int .i64 l.index, .string l.name] l.endCat F' ∧ F'.Nodup ∧ (∀ k ∈ F', k ∈ F ∨ w.heap.size ≤ k) ∧ ob ∉ F' ∧
      w'.heap[ob]? = some (.cells ((cur.setIfInBounds (n * 6) nv).setIfInBounds (n * 6 + 1) (.slice none 0 0)) 85 (0, 0)) ∧ Fr w w' (ob :: F) := by
  obtain ⟨cv, rv, cc, rc, Fc, Fr', rfl, h2, h3, h4, h5, rfl⟩ := HL
  have hcv : cur[n * 6]? = some cv := hc 0 (by decide)
  have hrv : cur[n * 6 + 1]? = some rv := hc 1 (by decide)
  have hsub : ∀ (w' : World), (∃ nv F', LV N w' [nv, .slice none 0 0, .bool l.fold, .bool l.all, .int .i64 l.index, .string l.name] l.endCat F' ∧ F'.Nodup ∧ (∀ k ∈ F', k ∈ cv.ownBlock.toList ++ (Fc ++ (rv.ownBlock.toList ++ Fr')) ∨ w.heap.size ≤ k) ∧ ob ∉ F' ∧
      w'.heap[ob]? = some (.cells ((cur.setIfInBounds (n * 6) nv).setIfInBounds (n * 6 + 1) (.slice none 0 0)) 85 (0, 0)) ∧ Fr w w' (ob :: cv.ownBlock.toList)) → ∃ nv F', LV N w' [nv, .slice none 0 0, .bool l.fold, .bool l.all, .int .i64 l.index, .string l.name] l.endCat F' ∧ F'.Nodup ∧ (∀ k ∈ F', k ∈ cv.ownBlock.toList ++ (rv.ownBlock.toList ++ (Fc ++ Fr')) ∨ w.heap.size ≤ k) ∧ ob ∉ F' ∧
      w'.heap[ob]? = some (.cells ((cur.setIfInBounds (n * 6) nv).setIfInBounds (n * 6 + 1) (.slice none 0 0)) 85 (0, 0)) ∧ Fr w w' (ob :: (cv.ownBlock.toList ++ (rv.ownBlock.toList ++ (Fc ++ Fr')))) := by
    rintro w' ⟨nv, F', a1, a2, a3, a4, a5, a6⟩
    refine ⟨nv, F', a1, a2, fun k hk => ?_, a4, a5, a6.le fun k hk => ?_⟩
    · rcases a3 k hk with h | h
      · left; simp only [List.mem_append] at h ⊢; rcases h with h | h | h | h
        · exact .inl h
        · exact .inr (.inr (.inl h))
        · exact .inr (.inl h)
        · exact .inr (.inr (.inr h))
      · exact .inr h
    · rcases List.mem_cons.1 hk with h | h
      · exact List.mem_cons.2 (.inl h)
      · exact List.mem_cons.2 (.inr (List.mem_append_left _ h))
  have hnd : (cv.ownBlock.toList ++ (Fc ++ (rv.ownBlock.toList ++ Fr'))).Nodup := nd_gen hF (fun a _ => by simp only [List.count_append]; omega) (fun a ha => by
    have := List.count_eq_zero.2 ha
    simp only [List.count_append] at this ⊢
    omega)
  have hob' : ob ∉ cv.ownBlock.toList ++ (Fc ++ (rv.ownBlock.toList ++ Fr')) := fun h => hobF (by
    simp only [List.mem_append] at h ⊢
    rcases h with h | h | h | h
    · exact .inl h
    · exact .inr (.inr (.inl h))
    · exact .inr (.inl h)
    · exact .inr (.inr (.inr h)))
  match hr : l.reps with
  | [] =>
    rw [hr] at h4
    have hrv0 : ∃ ra rcap, rv = .slice ra 0 rcap := by
      rcases Joins.ownsRow_forms h4 with ⟨rfl, _⟩ | ⟨b, cap, rfl⟩
      · exact ⟨_, _, rfl⟩
      · exact ⟨_, _, rfl⟩
    obtain ⟨ra, rcap, rfl⟩ := hrv0
    refine (endCat42_e Hob hcv hrv (hid h2) hm hN).mono ?_
    rintro e w' ⟨rfl, w1, PP, rfl⟩
    refine ⟨rfl, hsub _ ?_⟩
    have hcat : l.catOf = .empty := by unfold Lev.catOf; rw [hr]
    obtain ⟨nv, F', a1, a2, a3, a4, a5, a6⟩ := endCat_fin (l := l) (Fv := []) PP h2 h3 (by rw [hcat]; exact .mk (World.ownsRow_nil _ _ _ _) (World.ownsRow_nil _ _ _ _) .nil) (by
      rw [List.append_nil]
      exact nd_gen hnd (fun a _ => by simp only [List.count_append]; omega) (fun a ha => by have := List.count_eq_zero.2 ha; simp only [List.count_append] at this ⊢; omega)) (fun h => hob' (by simp only [List.mem_append, List.append_nil] at h ⊢; rcases h with h | h; exact .inl h; exact .inr (.inl h)))
    exact ⟨nv, F', a1, a2, fun k hk => (a3 k hk).imp_left fun h => by simp only [List.mem_append, List.append_nil] at h ⊢; rcases h with h | h; exact .inl h; exact .inr (.inl h), a4, a5, a6⟩
  | [x] =>
    rw [hr] at h4 h5
    obtain ⟨rb, rcap, rfl⟩ := Joins.ownsRow_form h4 (by simp)
    have hx := h5.one
    obtain ⟨curr, hrb⟩ := row_some h4
    have hrt := (row_blk h4 hrb).2.2.2.2
    obtain ⟨a0, a2, a4, a5, a7, a6, a8, r1, s1, r2, r3, s2, s3, rfl⟩ := tv_cells hx
    have hcr : cv.ownBlock ≠ some rb := fun h => by
      have h1 := List.nodup_iff_count.1 hF rb
      simp only [List.count_append] at h1
      rw [h] at h1
      simp [Value.ownBlock] at h1
      omega
    have hor : ob ≠ rb := fun h => hobF (by subst h; simp [Value.ownBlock])
    refine (endCat42_o a0 a2 a4 a5 a7 a6 a8 r1 s1 r2 r3 s2 s3 (hid hrb) (hid hrt) hcr hor Hob hcv hrv (hid h2) hm hN).mono ?_
    rintro e w' ⟨rfl, w1, PP, rfl⟩
    refine ⟨rfl, hsub _ ?_⟩
    have hcat : l.catOf = x := by unfold Lev.catOf; rw [hr]
    obtain ⟨nv, F', b1, b2, b3, b4, b5, b6⟩ := endCat_fin (l := l) (Fv := Fr') PP h2 h3 (by rw [hcat]; exact hx) (nd_gen hnd (fun a _ => by simp only [List.count_append]; omega) (fun a ha => by have := List.count_eq_zero.2 ha; simp only [List.count_append] at this ⊢; omega)) (fun h => hob' (by
        simp only [List.mem_append] at h ⊢
        rcases h with h | h | h
        · exact .inl h
        · exact .inr (.inl h)
        · exact .inr (.inr (.inr h))))
    exact ⟨nv, F', b1, b2, fun k hk => (b3 k hk).imp_left fun h => by
      simp only [List.mem_append] at h ⊢
      rcases h with h | h | h
      · exact .inl h
      · exact .inr (.inl h)
      · exact .inr (.inr (.inr h)), b4, b5, b6⟩
  | x :: y :: r =>
    obtain ⟨ra, rl, rcap, rfl⟩ := row_slice h4
    have hrl : rl = l.reps.length := by
      rcases Joins.ownsRow_forms h4 with ⟨h, h'⟩ | ⟨b, cap, h⟩
      · rw [hr] at h'; simp at h'
      · simp only [Value.slice.injEq] at h; exact h.2.1
    subst hrl
    refine (endCat42_m (by rw [hr]; simp) Hob hcv hrv (hid h2) hm hN).mono ?_
    rintro e w' ⟨rfl, w1, PP, rfl⟩
    refine ⟨rfl, hsub _ ?_⟩
    have hcat : l.catOf = .cat l.reps := by unfold Lev.catOf; rw [hr]
    exact endCat_fin (l := l) (Fv := (Value.slice none 0 0).ownBlock.toList ++ ((Value.slice ra l.reps.length rcap).ownBlock.toList ++ Fr')) PP h2 h3 (by rw [hcat]; exact .mk (World.ownsRow_nil _ _ _ _) h4 h5) hnd hob'
end Go.Proofs.YtenanfkmmkmolaaGreatDoor
/- HELPERS: the node of a level that lies in its row. -/
namespace Go.Proofs.YtenanfkmmkmolaaGreatDoor
open Go.RowKit Go.Mx
set_option linter.unusedVariables false
set_option linter.unusedSimpArgs false
/-- what stands behind endCat, for level.tree -/
def Ended (N : Nat) (w : World) (ob n : Nat) (cur : Array Value) (l : Lev) (F : List Nat) (w1 : World) (cb cap : Nat) (cs : List Value) : Prop :=
  ∃ cc Fc, w1.ownsRow N 26 9 (.slice (some ⟨cb, 0, none⟩) (l.cats.length + 1) cap) (l.cats.length + 1) cc ∧ TVs N w1 cc (l.cats ++ [l.catOf]) Fc ∧ (cb :: Fc).Nodup ∧ (∀ k ∈ cb :: Fc, k ∈ F ∨ w.heap.size + 1 ≤ k) ∧ ob ∉ cb :: Fc ∧
    w1.heap[ob]? = some (.cells ((cur.setIfInBounds (n * 6) (.slice (some ⟨cb, 0, none⟩) (l.cats.length + 1) cap)).setIfInBounds (n * 6 + 1) (.slice none 0 0)) 85 (0, 0)) ∧ Fr (w.alloc (.cells Z9 26)) w1 (ob :: F) ∧ cs = cc.take 9
theorem ended_call {w : World} {N ob n : Nat} {cur : Array Value} {l : Lev} {cells : List Value} {F : List Nat} (Hob : Hid (w.heap[ob]? = some (.cells cur 85 (0, 0)))) (hc : ∀ j, j < 6 → cur[n * 6 + j]? = cells[j]?) (HL : LV N w cells l F) (hF : F.Nodup) (hobF : ob ∉ F) (hm : l.cats.length ≤ 65600) (hN : N ≤ w.heap.size) :
    Calls Tryz.prog 42 #[.pointer (some ⟨ob, n * 6, none⟩)] (w.alloc (.cells Z9 26)) fun e w1 => e = .returned (.tuple #[]) ∧ ∃ cb cap cs, Ended N w ob n cur l F w1 cb cap cs := by
  have hobl := (Array.getElem?_eq_some_iff.1 Hob.out).1
  have HL' : LV N (w.alloc (.cells Z9 26)) cells l F := HL.kept fun k hk => heap_alloc_old w _ (HL.low k hk).2
  refine (endCat_lv (hid ((heap_alloc_old w _ hobl).trans Hob.out)) hc HL' hF hobF hm (by simp; omega)).mono ?_
  rintro e w1 ⟨rfl, nv, F', hL, hn, hs, ho, hb, hfr⟩
  obtain ⟨cv, rv, cc, rc, Fc, Fr', heq, h2, h3, h4, h5, rfl⟩ := hL
  simp only [List.cons.injEq, and_true] at heq
  obtain ⟨rfl, rfl, _⟩ := heq
  cases h5
  have hlen : l.endCat.cats.length = l.cats.length + 1 := by simp [Lev.endCat]
  rw [hlen] at h2
  obtain ⟨cb, cap, rfl⟩ := Joins.ownsRow_form h2 (by omega)
  simp [Value.ownBlock] at hn hs ho
  refine ⟨rfl, cb, cap, _, cc, Fc, h2, h3, by simpa using hn, ?_, by simpa using ho, hb, hfr, rfl⟩
  intro k hk
  rcases List.mem_cons.1 hk with rfl | hk
  · exact hs.1
  · exact hs.2 k hk
theorem ended_at {w w1 : World} {N ob n cb cap : Nat} {cur : Array Value} {l : Lev} {cells cs : List Value} {F : List Nat} (hobl : ob < w.heap.size) (hc : ∀ j, j < 6 → cur[n * 6 + j]? = cells[j]?) (HL : LV N w cells l F) (H : Ended N w ob n cur l F w1 cb cap cs) : TreeAt w w1 ob n (l.cats.length + 1) l.index l.name cb cap cs := by
  obtain ⟨cc, Fc, h1, h2, h3, h4, h5, h6, h7, rfl⟩ := H
  have hFl : ∀ k ∈ F, k < w.heap.size := fun k hk => (HL.low k hk).2
  obtain ⟨cv, rv, cc0, rc0, Fc0, Fr0, rfl, _⟩ := HL
  obtain ⟨curc, hcb⟩ := row_some h1
  have hblk := row_blk h1 hcb
  have c0 := hc 0 (by decide)
  have c4 := hc 4 (by decide)
  have c5 := hc 5 (by decide)
  simp at c0 c4 c5
  have l0 := (Array.getElem?_eq_some_iff.1 c0).1
  have hne : ∃ f r, l.cats ++ [l.catOf] = f :: r := by
    cases h : l.cats with
    | nil => exact ⟨_, _, rfl⟩
    | cons f r => exact ⟨f, r ++ [l.catOf], rfl⟩
  obtain ⟨f, r, hfr⟩ := hne
  rw [hfr] at h2
  cases h2 with
  | @cons ch ct _ _ Fa Fb hh ht =>
    have h9 := hh.nine
    have e9 : (ch ++ ct).take 9 = ch := by rw [← h9, List.take_left']; rfl
    rw [e9]
    have hcbn := h4 cb (by simp)
    refine ⟨_, curc, h6, ?_, ?_, ?_, hcb, ?_, ?_, by omega, ?_, tv_cells hh⟩
    · rw [Array.getElem?_setIfInBounds_ne (by omega), Array.getElem?_setIfInBounds_self_of_lt l0]
    · rw [Array.getElem?_setIfInBounds_ne (by omega), Array.getElem?_setIfInBounds_ne (by omega)]
      exact c4
    · rw [Array.getElem?_setIfInBounds_ne (by omega), Array.getElem?_setIfInBounds_ne (by omega)]
      exact c5
    · have := congrArg (List.take 9) hblk.2.2.2.2
      rw [List.take_take, Nat.min_eq_left (by omega), e9] at this
      exact this
    · refine (h7.block _ (by simp) ?_).trans (heap_alloc_new w _)
      intro hm
      rcases List.mem_cons.1 hm with h | h
      · omega
      · have := hFl _ h
        omega
    · intro h
      rcases hcbn with h' | h'
      · have := hFl _ h'
        omega
      · omega
/-- what has turned, all in all -/
theorem ended_fr {w w1 w' : World} {N ob n cb cap : Nat} {cur : Array Value} {l : Lev} {cs : List Value} {F : List Nat} (hobl : ob < w.heap.size) (H : Ended N w ob n cur l F w1 cb cap cs) (hm : Mo w1 w' w.heap.size) (hFl : ∀ k ∈ F, k < w.heap.size) :
    Fr w w' (ob :: F) ∧ (∃ nv, w'.heap[ob]? = some (.cells ((cur.setIfInBounds (n * 6) nv).setIfInBounds (n * 6 + 1) (.slice none 0 0)) 85 (0, 0))) ∧
    ∃ cc Fc, w'.ownsRow N 26 9 (.slice (some ⟨cb, 0, none⟩) (l.cats.length + 1) cap) (l.cats.length + 1) cc ∧ TVs N w' cc (l.cats ++ [l.catOf]) Fc ∧ (cb :: Fc).Nodup ∧ (∀ k ∈ cb :: Fc, k ∈ F ∨ w.heap.size ≤ k) ∧ (∀ k ∈ cb :: Fc, k < w1.heap.size) ∧ cs = cc.take 9 := by
  obtain ⟨cc, Fc, h1, h2, h3, h4, h5, h6, h7, rfl⟩ := H
  have hne : ∀ k ∈ cb :: Fc, k ≠ w.heap.size := fun k hk e => by
    rcases h4 k hk with h | h
    · have := hFl k h
      omega
    · omega
  have hz := h7.size
  simp at hz
  refine ⟨⟨hm.os.trans h7.os, hm.tape.trans h7.tape, hm.output.trans h7.output, by have := hm.size; omega, fun k hk hn => ?_⟩, ⟨_, (hm.block ob (by omega) (by omega)).trans h6⟩, cc, Fc, ?_, ?_, h3, fun k hk => ?_, fun k hk => ?_, rfl⟩
  · exact (hm.block k (by omega) (by omega)).trans ((h7.block k (by simp; omega) hn).trans (heap_alloc_old w _ hk))
  · refine row_kept h1 fun b hb => ?_
    simp [Value.ownBlock] at hb
    subst hb
    exact hm.block cb (h1.lt cb rfl).2 (hne cb (by simp))
  · exact h2.kept fun k hk => hm.block k (h2.low k hk).2 (hne k (List.mem_cons_of_mem _ hk))
  · rcases h4 k hk with h | h
    · exact .inl h
    · exact .inr (by omega)
  · rcases List.mem_cons.1 hk with rfl | hk
    · exact (h1.lt _ rfl).2
    · exact (h2.low k hk).2
theorem tree_lv {w : World} {N ob n : Nat} {cur : Array Value} {l : Lev} {cells : List Value} {F : List Nat} (Hob : Hid (w.heap[ob]? = some (.cells cur 85 (0, 0)))) (hc : ∀ j, j < 6 → cur[n * 6 + j]? = cells[j]?) (HL : LV N w cells l F) (hF : F.Nodup) (hobF : ob ∉ F) (hm : l.cats.length ≤ 65600) (hN : N ≤ w.heap.size) (hn : n ≤ 65600) :
    Calls Tryz.prog 48 #[.pointer (some ⟨ob, n * 6, none⟩)] w fun e w' => ∃ cs F', e = .returned (.agg cs.toArray) ∧ TV N w' cs l.tree F' ∧ F'.Nodup ∧ (∀ k ∈ F', k ∈ F ∨ w.heap.size ≤ k) ∧ (∃ nv, w'.heap[ob]? = some (.cells ((cur.setIfInBounds (n * 6) nv).setIfInBounds (n * 6 + 1) (.slice none 0 0)) 85 (0, 0))) ∧ Fr w w' (ob :: F) := by
  have hobl := (Array.getElem?_eq_some_iff.1 Hob.out).1
  have hFl : ∀ k ∈ F, k < w.heap.size := fun k hk => (HL.low k hk).2
  have HC := ended_call Hob hc HL hF hobF hm hN
  have HR : ∀ w1 cb cap cs, Ended N w ob n cur l F w1 cb cap cs → TreeAt w w1 ob n (l.cats.length + 1) l.index l.name cb cap cs := fun w1 cb cap cs h => ended_at hobl hc HL h
  cases hcs : l.cats with
  | nil =>
    have hin : l.inner = l.catOf := by unfold Lev.inner; rw [hcs]; rfl
    rw [hcs] at HR
    by_cases hx : l.index = 0
    · rw [hx] at HR
      have htr : l.tree = l.catOf := by unfold Lev.tree; rw [if_pos hx, hin]
      refine (tree48_a (l := 0) (ix := 0) HC HR hn).mono ?_
      rintro e w' ⟨w1, cb, cap, cs, H, rfl, hmo⟩
      obtain ⟨f1, f2, cc, Fc, h1, h2, h3, h4, h5, rfl⟩ := ended_fr hobl H hmo hFl
      rw [hcs] at h2
      have h9 := h2.one.nine
      rw [htr]
      refine ⟨_, Fc, rfl, ?_, (List.nodup_cons.1 h3).2, fun k hk => h4 k (List.mem_cons_of_mem _ hk), f2, f1⟩
      rw [List.take_of_length_le (by omega)]
      exact h2.one
    · have htr : l.tree = .grp l.index l.name l.catOf := by unfold Lev.tree; rw [if_neg hx, hin]
      refine (tree48_c (l := 0) hx HC HR hn).mono ?_
      rintro e w' ⟨w1, cb, cap, cs, H, nb, rfl, hmo, hnb, hblk⟩
      obtain ⟨f1, f2, cc, Fc, h1, h2, h3, h4, h5, rfl⟩ := ended_fr hobl H hmo hFl
      rw [hcs] at h2
      have h9 := h2.one.nine
      rw [List.take_of_length_le (by omega)] at hblk
      have hz : w.heap.size ≤ w1.heap.size := by obtain ⟨_, _, _, _, _, _, _, _, h7, _⟩ := H; have := h7.size; simp at this; omega
      rw [htr]
      refine ⟨(grpA l.index l.name nb).toList, (Value.slice none 0 0).ownBlock.toList ++ ((Value.slice (some ⟨nb, 0, none⟩) 1 1).ownBlock.toList ++ Fc), rfl, .mk (World.ownsRow_nil _ _ _ _) (own_node hblk (by omega) h9) h2, ?_, ?_, f2, f1⟩
      · simp [Value.ownBlock]
        exact ⟨fun hm => by have := h5 nb (List.mem_cons_of_mem _ hm); omega, (List.nodup_cons.1 h3).2⟩
      · intro k hk
        simp [Value.ownBlock] at hk
        rcases hk with rfl | hk
        · exact .inr (by omega)
        · exact h4 k (List.mem_cons_of_mem _ hk)
  | cons f r =>
    have hin : l.inner = .alt (l.cats ++ [l.catOf]) := by
      unfold Lev.inner
      rw [hcs]
      cases r <;> rfl
    have h2l : 2 ≤ l.cats.length + 1 := by rw [hcs]; simp
    by_cases hx : l.index = 0
    · rw [hx] at HR
      have htr : l.tree = .alt (l.cats ++ [l.catOf]) := by unfold Lev.tree; rw [if_pos hx, hin]
      refine (tree48_b (ix := 0) h2l HC HR hn).mono ?_
      rintro e w' ⟨w1, cb, cap, cs, H, rfl, hmo⟩
      obtain ⟨f1, f2, cc, Fc, h1, h2, h3, h4, h5, rfl⟩ := ended_fr hobl H hmo hFl
      rw [htr]
      have hlen : (l.cats ++ [l.catOf]).length = l.cats.length + 1 := by simp
      rw [← hlen] at h1
      refine ⟨(altA (.slice (some ⟨cb, 0, none⟩) (l.cats.length + 1) cap)).toList, (Value.slice none 0 0).ownBlock.toList ++ ((Value.slice (some ⟨cb, 0, none⟩) (l.cats ++ [l.catOf]).length cap).ownBlock.toList ++ Fc), rfl, ?_, ?_, ?_, f2, f1⟩
      · rw [← hlen]
        exact .mk (World.ownsRow_nil _ _ _ _) (by rw [hlen] at h1 ⊢; exact h1) h2
      · simpa [Value.ownBlock] using h3
      · intro k hk
        exact h4 k (by simpa [Value.ownBlock] using hk)
    · have htr : l.tree = .grp l.index l.name (.alt (l.cats ++ [l.catOf])) := by unfold Lev.tree; rw [if_neg hx, hin]
      refine (tree48_d h2l hx HC HR hn).mono ?_
      rintro e w' ⟨w1, cb, cap, cs, H, nb, rfl, hmo, hnb, hblk⟩
      obtain ⟨f1, f2, cc, Fc, h1, h2, h3, h4, h5, rfl⟩ := ended_fr hobl H hmo hFl
      have hz : w.heap.size ≤ w1.heap.size := by obtain ⟨_, _, _, _, _, _, _, _, h7, _⟩ := H; have := h7.size; simp at this; omega
      rw [htr]
      have hlen : (l.cats ++ [l.catOf]).length = l.cats.length + 1 := by simp
      have hT : TV N w' (altA (.slice (some ⟨cb, 0, none⟩) (l.cats.length + 1) cap)).toList (.alt (l.cats ++ [l.catOf])) ((Value.slice none 0 0).ownBlock.toList ++ ((Value.slice (some ⟨cb, 0, none⟩) (l.cats.length + 1) cap).ownBlock.toList ++ Fc)) := .mk (World.ownsRow_nil _ _ _ _) (by rw [hlen]; exact h1) h2
      refine ⟨(grpA l.index l.name nb).toList, (Value.slice none 0 0).ownBlock.toList ++ ((Value.slice (some ⟨nb, 0, none⟩) 1 1).ownBlock.toList ++ ((Value.slice none 0 0).ownBlock.toList ++ ((Value.slice (some ⟨cb, 0, none⟩) (l.cats.length + 1) cap).ownBlock.toList ++ Fc))), rfl, .mk (World.ownsRow_nil _ _ _ _) (own_node (cells := (altA (.slice (some ⟨cb, 0, none⟩) (l.cats.length + 1) cap)).toList) hblk (by omega) rfl) hT.ones, ?_, ?_, f2, f1⟩
      · have hnn : nb ∉ cb :: Fc := fun hm => by have := h5 nb hm; omega
        simp only [Value.ownBlock, Option.toList_none, Option.toList_some, List.nil_append, List.singleton_append]
        exact List.nodup_cons.2 ⟨hnn, h3⟩
      · intro k hk
        simp only [Value.ownBlock, Option.toList_none, Option.toList_some, List.nil_append, List.singleton_append] at hk
        rcases List.mem_cons.1 hk with rfl | hk
        · exact .inr (by omega)
        · exact h4 k hk
end Go.Proofs.YtenanfkmmkmolaaGreatDoor
/- HELPERS: a rep is put into the innermost level: the walk. -/
namespace Go.Proofs.YtenanfkmmkmolaaGreatDoor
open Go.RowKit Go.Mx
set_option linter.unusedVariables false
set_option linter.unusedSimpArgs false
theorem rep_end {N g ob m o k : Nat} {w w2 w' : World} {t : List Int} {c : Cs} {wr2 : Wr} {cur : Array Value} {rv : Value} {xs cells2 : List Value} {y : Tree} {F F2 : List Nat} (h4 : 4 ≤ N) (hNob : N ≤ ob) (hOF : ob ∉ F) (hRF : ∀ b, rv.ownBlock = some b → b ∉ F) (hTV : ∀ b, c.tv.ownBlock = some b → b ≠ ob ∧ rv.ownBlock ≠ some b) (hobl : ob < w.heap.size) (hrl : ∀ b, rv.ownBlock = some b → N ≤ b ∧ b < w.heap.size)
    (hog : ob ≠ g) (hrg : rv.ownBlock ≠ some g) (R2 : RW w2 g t k c wr2) (T3 : TV N w2 cells2 y F2) (N2 : F2.Nodup) (hU : ∀ k ∈ F2, k ∈ F ∨ w.heap.size ≤ k) (hMW : Mo w w2 g) (PP : Pushed N w2 w' ob cur o rv m xs cells2) :
    RW w' g t k c wr2 ∧ ∃ cells2 F2 w2, TV N w' cells2 y F2 ∧ F2.Nodup ∧ (∀ k ∈ F2, k ∈ F ∨ w.heap.size ≤ k) ∧ Mo w w2 g ∧ Pushed N w2 w' ob cur o rv m xs cells2 ∧ (∀ k ∈ F2, k < w2.heap.size) := by
  have hd : ∀ k ∈ F2, k ∉ ob :: rv.ownBlock.toList := fun k hk hm => by
    simp only [List.mem_cons, Option.mem_toList] at hm
    rcases hm with rfl | hm
    · rcases hU _ hk with h | h
      · exact hOF h
      · omega
    · have := (hrl k hm).2
      rcases hU k hk with h | h
      · exact hRF k hm h
      · omega
  refine ⟨R2.fr PP.fr ?_ ?_ ?_, cells2, F2, w2, T3.fr PP.fr hd, N2, hU, hMW, PP, fun k hk => (T3.low k hk).2⟩
  · simp only [List.mem_cons, Option.mem_toList, not_or]
    exact ⟨fun e => hog e.symm, fun e => hrg e⟩
  · intro b hb
    have := hTV b hb
    simp only [List.mem_cons, Option.mem_toList, not_or]
    exact ⟨this.1, fun e => this.2 e⟩
  · intro k hk
    simp only [List.mem_cons, Option.mem_toList] at hk
    rcases hk with rfl | hk
    · omega
    · have := (hrl k hk).1
      omega
set_option maxHeartbeats 2000000 in
theorem addRep45_o {g : Nat} {t : List Int} {i : Nat} {c : Cs} {w : World} {wr : Wr} (R0 : Hid (RW w g t i c wr)) {N : Nat} {x y : Tree} {F : List Nat} {cells : List Value} (HT : Hid (TV N w cells x F)) (HF : Hid (F.Nodup)) (HG : Hid (g ∉ F)) (hN : N ≤ w.heap.size)
    {k : Nat} {wr2 : Wr} (hz : counted t x i wr = .ok (y, k, wr2)) {ob n cap m : Nat} {cur : Array Value} {rv : Value} {xs : List Value} (hov : c.ov = .slice (some ⟨ob, 0, none⟩) (n + 1) cap) (hog : ob ≠ g) (hcap : n + 1 ≤ cap) (hn : n ≤ 65600)
    (Hob : Hid (w.heap[ob]? = some (.cells cur 85 (0, 0)))) (hrv : cur[n * 6 + 1]? = some rv) (Hrow : Hid (w.ownsRow N 26 9 rv m xs)) (hm : m ≤ 65600) (hrg : rv.ownBlock ≠ some g) (h4 : 4 ≤ N) (hNob : N ≤ ob) (HOF : Hid (ob ∉ F)) (HRF : Hid (∀ b, rv.ownBlock = some b → b ∉ F)) (HTV : Hid (∀ b, c.tv.ownBlock = some b → b ≠ ob ∧ rv.ownBlock ≠ some b)) :
    Calls Tryz.prog 45 #[.pointer (some ⟨g, 0, none⟩), .agg cells.toArray] w fun e w' => e = .returned (.tuple #[]) ∧ RW w' g t k c wr2 ∧ ∃ cells2 F2 w2, TV N w' cells2 y F2 ∧ F2.Nodup ∧ (∀ k ∈ F2, k ∈ F ∨ w.heap.size ≤ k) ∧ Mo w w2 g ∧ Pushed N w2 w' ob cur (n * 6 + 1) rv m xs cells2 ∧ (∀ k ∈ F2, k < w2.heap.size) := by
  have hgl := R0.out.rd.gl
  have hobl := (Array.getElem?_eq_some_iff.1 Hob.out).1
  obtain ⟨a0, a2, a4, a5, a7, a6, a8, r1, s1, r2, r3, s2, s3, rfl⟩ := tv_cells HT.out
  obtain ⟨i0, hi0, hz0, hz1, hz2⟩ := info_parts info26
  have RW1 := rwBelow R0 (Joins.below_alloc1 w (.cells #[.int .i64 a0, .slice r1 r2 r3, .int .i64 a2, .slice s1 s2 s3, .int .i64 a4, .int .i64 a5, .bool a6, .int .i64 a7, .string a8] 26))
  have HT1 := HT.out.mo (Mo.alloc w g (.cells #[.int .i64 a0, .slice r1 r2 r3, .int .i64 a2, .slice s1 s2 s3, .int .i64 a4, .int .i64 a5, .bool a6, .int .i64 a7, .string a8] 26)) HG.out
  have C1 := endO (counted65 RW1 HT1 HF HG (by simp; omega)) hz
  go_enter Tryz.func45, Tryz.ntmps45
  go_wp2_with (go_at_call 65; (with_reducible refine C1.mono ?_); rintro e w1 ⟨v1, rfl, ⟨cells2, F2, rfl, T2, N2, U2⟩, M1, RR1⟩; obtain ⟨b0, b2, b4, b5, b7, b6, b8, p1, q1, p2, p3, q2, q3, rfl⟩ := tv_cells T2)
  have R1 := hid RR1
  have R1' := rwBelow R1 (Joins.below_alloc1 w1 (.cells #[.int .i64 b0, .slice p1 p2 p3, .int .i64 b2, .slice q1 q2 q3, .int .i64 b4, .int .i64 b5, .bool b6, .int .i64 b7, .string b8] 26))
  have C2 := top41 (rdC R1') ob n cap hov hcap hn
  have hk := RR1.rd.le
  go_wp2_with (go_at_call 41; (with_reducible refine C2.mono ?_); rintro e w2 ⟨rfl, G2⟩)
  have MW : Mo w w2 g := (((Mo.alloc w g _).trans M1).trans (Mo.alloc w1 g _)).trans G2.mo
  have hs1 := M1.size
  simp at hs1
  have hbox : w2.heap[w1.heap.size]? = some (.cells #[.int .i64 b0, .slice p1 p2 p3, .int .i64 b2, .slice q1 q2 q3, .int .i64 b4, .int .i64 b5, .bool b6, .int .i64 b7, .string b8] 26 (0, 0)) := (G2.mo.block _ (by simp) (by omega)).trans (heap_alloc_new w1 _)
  have hob2 : w2.heap[ob]? = some (.cells cur 85 (0, 0)) := (MW.block ob hobl hog).trans Hob.out
  have row2 : w2.ownsRow N 26 9 rv m xs := row_kept Hrow.out fun b hb => MW.block b (Hrow.out.lt b hb).2 (fun e => hrg (by rw [hb, e]))
  have hr1 : rv.ownBlock ≠ some w1.heap.size := fun e => by have := (Hrow.out.lt _ e).2; omega
  have hr2 : rv.ownBlock ≠ some ob := own_ne Hrow.out Hob.out (by decide)
  obtain ⟨ad, capr, rfl⟩ : ∃ ad capr, rv = .slice ad m capr := by
    rcases Joins.ownsRow_forms row2 with ⟨rfl, h⟩ | ⟨b, cap, rfl⟩
    · exact ⟨none, 0, by rw [h]⟩
    · exact ⟨_, _, rfl⟩
  have k1 := Joins.cell_of_block hob2 (n * 6 + 1)
  have f1 := Joins.unfrozen_of_block hob2 (n * 6 + 1)
  rw [hrv] at k1
  obtain ⟨x0, x1, x2, x3, x4, x5, x6, x7, x8⟩ := blk9 hbox
  have HR2 : Hid (w2.ownsRow N 26 9 (.slice ad m capr) m xs) := row2
  have HBX : Hid (w2.heap[w1.heap.size]? = _) := hbox
  have HOB : Hid (w2.heap[ob]? = _) := hob2
  have HMW : Hid (Mo w w2 g) := MW
  have hNw : N ≤ w2.heap.size := Nat.le_trans hN MW.size
  have bl := (Array.getElem?_eq_some_iff.1 hbox).1
  have bl2 := (Array.getElem?_eq_some_iff.1 hob2).1
  clear hbox hob2 row2 MW
  have im : (m : Int) < (m : Int) + 1 := by omega
  have hg2 : g ∉ F2 := fun h => by
    rcases U2 g h with h | h
    · exact HG.out h
    · simp at h; omega
  have HR9 : Hid (RW w2 g t k c wr2) := R1'.out.go1 G2 hk
  have HT9 : Hid (TV N w2 _ y F2) := (T2.mo (Mo.alloc w1 g (.cells #[.int .i64 b0, .slice p1 p2 p3, .int .i64 b2, .slice q1 q2 q3, .int .i64 b4, .int .i64 b5, .bool b6, .int .i64 b7, .string b8] 26)) hg2).mo G2.mo hg2
  have HU9 : Hid (∀ k ∈ F2, k ∈ F ∨ w.heap.size ≤ k) := fun k hk => by
    rcases U2 k hk with h | h
    · exact .inl h
    · right; simp at h; omega
  clear hg2 U2 T2
  go_region_law (refine step_append_moveN rfl (.tmp 14) (.tmp 17) 24 rfl N 26 i0 (.agg Z9) 9 112 Tryz.underlying24 hi0 hz0 hz1 hz2 rfl (by decide) (.slice ad m capr) m xs (by simp [Act.eval, Act.put]) (by exact HR2.out.drew.alloc _) ⟨w2.heap.size, 0, none⟩ 1 1 Z9.toList (by simp [Act.eval, Act.put]) rfl (by decide) (by exact news9 w2.drew) one9 (by unfold maxLen; omega) (by omega) (by simp; omega) ?_; intro v3 w3 ho3 hM3; obtain ⟨b3, cap3, rfl⟩ := Joins.ownsRow_form ho3 (by omega); obtain ⟨E1, E2, d1, d2, d3, d4, d5⟩ := push_facts ho3 hM3 HBX.out HOB.out hr1 hr2; obtain ⟨o0, o1, o2, o3, o4, o5, o6, o7, o8⟩ := blk9 E1; obtain ⟨z0, z1, z2, z3, z4, z5, z6, z7, z8⟩ := last9 ho3; have fz := fun j => ho3.frozenAt j; have k3 := (Joins.cell_of_block E2 (n * 6 + 1)).trans hrv; have f3 := Joins.unfrozen_of_block E2 (n * 6 + 1); have HO3 : Hid (w3.ownsRow N 26 9 (.slice (some ⟨b3, 0, none⟩) (m + 1) cap3) (m + 1) (xs ++ Z9.toList)) := ho3; have HM3 : Hid (Moved (w2.drew.alloc (.cells Z9 26)) w3 (.slice ad m capr) (.slice (some ⟨b3, 0, none⟩) (m + 1) cap3)) := hM3; have HE2 := hid E2; clear ho3 hM3 E1 E2)
  all_goals go_end0
  all_goals (refine ⟨rfl, rep_end h4 hNob HOF.out HRF.out HTV.out hobl (fun b hb => (Hrow.out.lt b hb)) hog hrg HR9.out HT9.out N2 HU9.out HMW.out ?_⟩)
  all_goals first | (with_reducible exact push_A HM3.out HO3.out d2 bl2 HE2.out _ _ _ _ _ _ _ _ _) | (with_reducible exact push_B HM3.out HO3.out d2 bl2 HE2.out _ _ _ _ _ _ _ _ _)
end Go.Proofs.YtenanfkmmkmolaaGreatDoor
/- HELPERS: a rep whose count cannot stand. -/
namespace Go.Proofs.YtenanfkmmkmolaaGreatDoor
open Go.RowKit Go.Mx
set_option linter.unusedVariables false
set_option linter.unusedSimpArgs false
set_option maxHeartbeats 2000000 in
theorem addRep45_e {g : Nat} {t : List Int} {i : Nat} {c : Cs} {w : World} {wr : Wr} (R0 : Hid (RW w g t i c wr)) {N : Nat} {x : Tree} {F : List Nat} {cells : List Value} (HT : Hid (TV N w cells x F)) (HF : Hid (F.Nodup)) (HG : Hid (g ∉ F)) (hN : N ≤ w.heap.size)
    {k : Nat} (hz : counted t x i wr = .error k) :
    Calls Tryz.prog 45 #[.pointer (some ⟨g, 0, none⟩), .agg cells.toArray] w fun e w' => e = Gave k ∧ Mo w w' g := by
  have hgl := R0.out.rd.gl
  obtain ⟨a0, a2, a4, a5, a7, a6, a8, r1, s1, r2, r3, s2, s3, rfl⟩ := tv_cells HT.out
  have RW1 := rwBelow R0 (Joins.below_alloc1 w (.cells #[.int .i64 a0, .slice r1 r2 r3, .int .i64 a2, .slice s1 s2 s3, .int .i64 a4, .int .i64 a5, .bool a6, .int .i64 a7, .string a8] 26))
  have HT1 := HT.out.mo (Mo.alloc w g (.cells #[.int .i64 a0, .slice r1 r2 r3, .int .i64 a2, .slice s1 s2 s3, .int .i64 a4, .int .i64 a5, .bool a6, .int .i64 a7, .string a8] 26)) HG.out
  have C1 := endE (counted65 RW1 HT1 HF HG (by simp; omega)) hz
  go_enter Tryz.func45, Tryz.ntmps45
  go_wp2_with (go_at_call 65; (with_reducible refine C1.mono ?_); rintro e w1 ⟨rfl, M1⟩)
  exact ⟨rfl, rfl, (Mo.alloc w g _).trans M1⟩
end Go.Proofs.YtenanfkmmkmolaaGreatDoor
/- HELPERS: a new reader. -/
namespace Go.Proofs.YtenanfkmmkmolaaGreatDoor
open Go.RowKit Go.Mx
set_option linter.unusedVariables false
set_option linter.unusedSimpArgs false
/-- a string's bytes -/
def txt (p : ByteArray) : List Int := p.data.toList.map fun b => (b.toNat : Int)
theorem txt_len (p : ByteArray) : (txt p).length = p.size := by
  rw [txt, List.length_map]
  exact Array.length_toList
abbrev L6 : Array Value := #[.slice none 0 0, .slice none 0 0, .bool false, .bool false, .int .i64 0, .string ⟨#[]⟩]
abbrev newC (w : World) (p : ByteArray) (cap : Nat) : Cs := ⟨.slice (some ⟨w.heap.size, 0, none⟩) p.size cap, .slice (some ⟨w.heap.size + 1, 0, none⟩) 1 1, .int .i64 0, .map (some (w.heap.size + 2)), .nilIface⟩
theorem new_facts {w : World} {p : ByteArray} {cap : Nat} {fz : Nat × Nat} (hgl : Gl w) (hp : p.size ≤ 65536) (hc : p.size ≤ cap) (hc2 : cap ≤ 9223372036854775807) :
    let W := ((((w.alloc (.cells (bytesRow p cap) 5 fz)).alloc (.cells L6 85)).alloc (.map #[] 0)).alloc (.cells #[.slice (some ⟨w.heap.size, 0, none⟩) p.size cap, .int .i64 0, .slice (some ⟨w.heap.size + 1, 0, none⟩) 1 1, .int .i64 0, .map (some (w.heap.size + 2)), .nilIface] 76)).drew
    Below w.heap.size w W ∧ W.heap.size = w.heap.size + 4 ∧ W.heap[w.heap.size + 1]? = some (.cells L6 85 (0, 0)) ∧ W.heap[w.heap.size + 2]? = some (.map #[] 0) ∧ RW W (w.heap.size + 3) (txt p) 0 (newC w p cap) none := by
  intro W
  have hW : W = ((((w.alloc (.cells (bytesRow p cap) 5 fz)).alloc (.cells L6 85)).alloc (.map #[] 0)).alloc (.cells #[.slice (some ⟨w.heap.size, 0, none⟩) p.size cap, .int .i64 0, .slice (some ⟨w.heap.size + 1, 0, none⟩) 1 1, .int .i64 0, .map (some (w.heap.size + 2)), .nilIface] 76)).drew := rfl
  have hh : W.heap = (((w.heap.push (.cells (bytesRow p cap) 5 fz)).push (.cells L6 85)).push (.map #[] 0)).push (.cells #[.slice (some ⟨w.heap.size, 0, none⟩) p.size cap, .int .i64 0, .slice (some ⟨w.heap.size + 1, 0, none⟩) 1 1, .int .i64 0, .map (some (w.heap.size + 2)), .nilIface] 76 (0, 0)) := rfl
  have B : Below w.heap.size w W := ⟨rfl, rfl, rfl, by rw [hh]; simp; omega, fun k hk => by
    rw [hh, Array.getElem?_push, if_neg (by simp <;> omega), Array.getElem?_push, if_neg (by simp <;> omega), Array.getElem?_push, if_neg (by simp <;> omega), Array.getElem?_push, if_neg (by omega)]⟩
  have h0 : W.heap[w.heap.size]? = some (.cells (bytesRow p cap) 5 fz) := by
    rw [hh, Array.getElem?_push, if_neg (by simp <;> omega), Array.getElem?_push, if_neg (by simp <;> omega), Array.getElem?_push, if_neg (by simp <;> omega), Array.getElem?_push, if_pos rfl]
  have h1 : W.heap[w.heap.size + 1]? = some (.cells L6 85 (0, 0)) := by
    rw [hh, Array.getElem?_push, if_neg (by simp <;> omega), Array.getElem?_push, if_neg (by simp <;> omega), Array.getElem?_push, if_pos (by simp)]
  have h2 : W.heap[w.heap.size + 2]? = some (.map #[] 0) := by
    rw [hh, Array.getElem?_push, if_neg (by simp <;> omega), Array.getElem?_push, if_pos (by simp)]
  have h3 : W.heap[w.heap.size + 3]? = some (.cells #[.slice (some ⟨w.heap.size, 0, none⟩) p.size cap, .int .i64 0, .slice (some ⟨w.heap.size + 1, 0, none⟩) 1 1, .int .i64 0, .map (some (w.heap.size + 2)), .nilIface] 76 (0, 0)) := by
    rw [hh, Array.getElem?_push, if_pos (by simp)]
  have hb := hgl.big
  refine ⟨B, by rw [hh]; simp, h1, h2, ⟨⟨h3, ?_, by omega, by rw [txt_len]; exact hp, ?_⟩, hgl.below B (by omega), by omega⟩⟩
  · refine ⟨some ⟨w.heap.size, 0, none⟩, cap, by rw [txt_len], by rw [txt_len]; exact hc, hc2, fun j hj => ⟨w.heap.size, rfl, by omega, ?_⟩⟩
    rw [txt_len] at hj
    have hj' : j < p.data.size := hj
    have e1 : W.cell? ⟨w.heap.size, j, none⟩ = (bytesRow p cap)[j]? := Joins.cell_of_block h0 j
    rw [e1, bytesRow_at p cap j hj']
    have e2 : (txt p).getD j 0 = (p.data[j].toNat : Int) := by
      rw [txt, List.getD_eq_getElem?_getD, List.getElem?_map, Array.getElem?_toList, Array.getElem?_eq_getElem hj']
      rfl
    rw [e2]
  · intro x hx
    simp only [txt, List.mem_map] at hx
    obtain ⟨b, _, rfl⟩ := hx
    have := b.toNat_lt
    omega
set_option maxHeartbeats 2000000 in
theorem newReader26 (p : ByteArray) (w : World) (hgl : Gl w) (hp : p.size ≤ 65536) :
    Calls Tryz.prog 26 #[.string p] w fun e w' => e = .returned (.pointer (some ⟨w.heap.size + 3, 0, none⟩)) ∧ Below w.heap.size w w' ∧ w'.heap.size = w.heap.size + 4 ∧ w'.heap[w.heap.size + 1]? = some (.cells L6 85 (0, 0)) ∧ w'.heap[w.heap.size + 2]? = some (.map #[] 0) ∧ ∃ cap, RW w' (w.heap.size + 3) (txt p) 0 (newC w p cap) none := by
  have hcv := fun W => run_bytes_of_string (P := Tryz.prog) W 9 72 5 p Tryz.underlying9 Tryz.underlying72 Tryz.underlying5
  have hmk : ∀ W, (Instr.makeMap 74 none).run Tryz.prog W = .ok (.map (some W.heap.size)) (W.alloc (.map #[] 0)) := fun W => run_makeMap 74 W
  have hc1 := grownCap_ge w p.size 0 5
  have hc2 : grownCap w p.size 0 5 ≤ 9223372036854775807 := by
    have := grownCap_le_maxLen w p.size 0 5 (by simp [maxLen]; omega)
    simp [maxLen] at this
    omega
  have NF := hid (new_facts (fz := ((bytesRow p (grownCap w p.size 0 5)).size, (bytesRow p (grownCap w p.size 0 5)).size + 1)) hgl hp hc1 hc2)
  clear hc1 hc2
  go_enter Tryz.func26, Tryz.ntmps26
  go_wp2
  go_ret
  exact ⟨rfl, NF.out.1, NF.out.2.1, NF.out.2.2.1, NF.out.2.2.2.1, _, NF.out.2.2.2.2⟩
end Go.Proofs.YtenanfkmmkmolaaGreatDoor
/- HELPERS: what is read hangs on the bytes up to where it stops, and on no others. -/
namespace Go.Proofs.YtenanfkmmkmolaaGreatDoor
open Go.RowKit Go.Mx
set_option linter.unusedVariables false
set_option linter.unusedSimpArgs false
/-- two texts are alike up to a place, with it -/
def Alike (t u : List Int) (k : Nat) : Prop := ∀ j, j ≤ k → nx t j = nx u j
theorem Alike.le {t u : List Int} {k j : Nat} (h : Alike t u k) (hj : j ≤ k) : Alike t u j := fun i hi => h i (by omega)
theorem hexDigit_stop {t : List Int} {i k : Nat} (h : hexDigit t i = .error k) : k = i := by
  unfold hexDigit at h
  split at h
  · cases h
  · simp at h; omega
theorem hexDigit_lo {t u : List Int} {i : Nat} (h : nx t i = nx u i) : hexDigit u i = hexDigit t i := by unfold hexDigit; rw [h]
theorem numGo_mono (t : List Int) : ∀ (f i : Nat) (n : Int), i ≤ (numGo t f i n).2 := by
  intro f
  induction f with
  | zero => intro i n; simp [numGo]
  | succ f ih =>
    intro i n
    unfold numGo
    split
    · have := ih (i + 1) (n * 10 + (nx t i - 48)); omega
    · simp
theorem numGo_lo (t u : List Int) : ∀ (f i : Nat) (n : Int), Alike t u (numGo t f i n).2 → numGo u f i n = numGo t f i n := by
  intro f
  induction f with
  | zero => intro i n h; simp [numGo]
  | succ f ih =>
    intro i n h
    have hm := numGo_mono t (f + 1) i n
    have e := h i hm
    unfold numGo at h ⊢
    rw [← e]
    split
    · rename_i hd
      rw [if_pos hd] at h
      exact ih _ _ h
    · rfl
/-- where it stops -/
def stop {α : Type} : Except Nat (α × Nat) → Nat
  | .error k => k
  | .ok (_, k) => k
theorem number_lo {t u : List Int} {i : Nat} (h : Alike t u (stop (number t i))) : number u i = number t i := by
  have hi : i ≤ stop (number t i) := by
    unfold number
    split
    · simp [stop]
    · split
      · have := numGo_mono t 3 (i + 1) (nx t i - 48)
        show i ≤ (numGo t 3 (i + 1) (nx t i - 48)).2
        omega
      · simp [stop]
  have e := h i hi
  unfold number at h ⊢
  rw [← e]
  split
  · rfl
  · rename_i h1
    rw [if_neg h1] at h
    split
    · rename_i h2
      rw [if_pos h2] at h
      rw [numGo_lo t u 3 (i + 1) (nx t i - 48) h]
    · rfl
theorem hexGo_mono (t : List Int) : ∀ (f i : Nat) (c : Int), i ≤ stop (hexGo t f i c) := by
  intro f
  induction f with
  | zero => intro i c; simp [hexGo, stop]
  | succ f ih =>
    intro i c
    unfold hexGo
    split
    · simp [stop]
    · cases hx : hexDigit t i with
      | error k => have := hexDigit_stop hx; simp [stop]; omega
      | ok y =>
        obtain ⟨d, j⟩ := y
        simp only
        have := ih j (c * 16 + d)
        have hj : j = i + 1 := by
          unfold hexDigit at hx
          split at hx
          · simp at hx; omega
          · cases hx
        omega
theorem hexGo_lo (t u : List Int) : ∀ (f i : Nat) (c : Int), Alike t u (stop (hexGo t f i c)) → hexGo u f i c = hexGo t f i c := by
  intro f
  induction f with
  | zero => intro i c h; simp [hexGo]
  | succ f ih =>
    intro i c h
    have e := h i (hexGo_mono t (f + 1) i c)
    unfold hexGo at h ⊢
    rw [← e, hexDigit_lo e]
    split
    · rfl
    · rename_i h1
      rw [if_neg h1] at h
      cases hx : hexDigit t i with
      | error k => rfl
      | ok y =>
        obtain ⟨d, j⟩ := y
        rw [hx] at h
        exact ih _ _ h
theorem hexDigit_go {t : List Int} {i : Nat} {d : Int} {j : Nat} (hx : hexDigit t i = .ok (d, j)) : j = i + 1 := by
  unfold hexDigit at hx
  split at hx
  · simp at hx; omega
  · cases hx
theorem hexNum_mono (t : List Int) (i : Nat) : i ≤ stop (hexNum t i) := by
  unfold hexNum
  split
  · cases hx : hexDigit t (i + 1) with
    | error k => have := hexDigit_stop hx; simp [stop]; omega
    | ok y =>
      obtain ⟨d, j⟩ := y
      have := hexDigit_go hx
      have h2 := hexGo_mono t 5 j d
      simp only
      cases hy : hexGo t 5 j d with
      | error k => rw [hy] at h2; simp [stop] at h2 ⊢; omega
      | ok z =>
        obtain ⟨c, k⟩ := z
        rw [hy] at h2
        simp only
        split <;> simp [stop] at h2 ⊢ <;> omega
  · cases hx : hexDigit t i with
    | error k => have := hexDigit_stop hx; simp [stop]; omega
    | ok y =>
      obtain ⟨d, j⟩ := y
      have := hexDigit_go hx
      simp only
      cases hy : hexDigit t j with
      | error k => have := hexDigit_stop hy; simp [stop]; omega
      | ok z => obtain ⟨c, k⟩ := z; have := hexDigit_go hy; simp [stop]; omega
theorem hexNum_lo {t u : List Int} {i : Nat} (h : Alike t u (stop (hexNum t i))) : hexNum u i = hexNum t i := by
  have e := h i (hexNum_mono t i)
  unfold hexNum at h ⊢
  rw [← e]
  split
  · rename_i h1
    rw [if_pos h1] at h
    cases hx : hexDigit t (i + 1) with
    | error k =>
      have hk := hexDigit_stop hx
      rw [hx] at h
      rw [hexDigit_lo (h (i + 1) (by simp [stop]; omega)), hx]
    | ok y =>
      obtain ⟨d, j⟩ := y
      have hj := hexDigit_go hx
      have h2 := hexGo_mono t 5 j d
      rw [hx] at h
      simp only at h ⊢
      cases hy : hexGo t 5 j d with
      | error k =>
        rw [hy] at h h2
        simp only [stop] at h h2
        rw [hexDigit_lo (h (i + 1) (by omega)), hx]
        simp only
        rw [hexGo_lo t u 5 j d (by rw [hy]; exact h), hy]
      | ok z =>
        obtain ⟨c, k⟩ := z
        rw [hy] at h h2
        simp only [stop] at h2
        simp only at h
        have hk : Alike t u k := by
          split at h
          · exact Alike.le h (by simp [stop])
          · exact h
        rw [hexDigit_lo (hk (i + 1) (by omega)), hx]
        simp only
        rw [hexGo_lo t u 5 j d (by rw [hy]; exact hk), hy]
        simp only
        rw [hk k (Nat.le_refl _)]
  · rename_i h1
    rw [if_neg h1] at h
    rw [hexDigit_lo e]
    cases hx : hexDigit t i with
    | error k => rfl
    | ok y =>
      obtain ⟨d, j⟩ := y
      have hj := hexDigit_go hx
      rw [hx] at h
      simp only at h ⊢
      have hjk : j ≤ stop (match hexDigit t j with | .error k => (Except.error k : Except Nat (Int × Nat)) | .ok (b, k) => .ok (d * 16 + b, k)) := by
        cases hy : hexDigit t j with
        | error k => have := hexDigit_stop hy; simp [stop]; omega
        | ok z => obtain ⟨c, k⟩ := z; have := hexDigit_go hy; simp [stop]; omega
      rw [hexDigit_lo (h j hjk)]
end Go.Proofs.YtenanfkmmkmolaaGreatDoor
/- HELPERS: what is read hangs on the bytes up to where it stops: runes, items, classes. -/
namespace Go.Proofs.YtenanfkmmkmolaaGreatDoor
open Go.RowKit Go.Mx
set_option linter.unusedVariables false
set_option linter.unusedSimpArgs false
def stopN : Except Nat Nat → Nat
  | .error k => k
  | .ok k => k
theorem cont_mono (t : List Int) : ∀ (m i : Nat) (a b : Int), i ≤ stopN (cont t m i a b) := by
  intro m
  induction m with
  | zero => intro i a b; simp [cont, stopN]
  | succ m ih =>
    intro i a b
    unfold cont
    split
    · have := ih (i + 1) 128 191; omega
    · simp [stopN]
/-- the bytes that cont takes are there -/
theorem cont_lo (t u : List Int) : ∀ (m i : Nat) (a b : Int), (∀ k, cont t m i a b = .error k → Alike t u k) → (∀ k, cont t m i a b = .ok k → ∀ j, j < k → nx t j = nx u j) → cont u m i a b = cont t m i a b := by
  intro m
  induction m with
  | zero => intro i a b _ _; rfl
  | succ m ih =>
    intro i a b h1 h2
    have hm := cont_mono t (m + 1) i a b
    have e : nx t i = nx u i := by
      cases hc : cont t (m + 1) i a b with
      | error k => rw [hc] at hm; exact h1 k hc i hm
      | ok k =>
        refine h2 k hc i ?_
        unfold cont at hc
        split at hc
        · have := cont_mono t m (i + 1) 128 191
          rw [hc] at this
          simp only [stopN] at this
          omega
        · cases hc
    unfold cont at h1 h2 ⊢
    rw [← e]
    split
    · rename_i hd
      rw [if_pos hd] at h1 h2
      exact ih _ _ _ h1 h2
    · rfl
theorem drop_take_ext {t u : List Int} {i k : Nat} (hk : k ≤ t.length) (hu : k ≤ u.length) (h : ∀ j, j < k → nx t j = nx u j) : (t.drop i).take (k - i) = (u.drop i).take (k - i) := by
  apply List.ext_getElem?
  intro n
  simp only [List.getElem?_take, List.getElem?_drop]
  split
  · have e := h (i + n) (by omega)
    rw [nx_in (show i + n < t.length by omega), nx_in (show i + n < u.length by omega)] at e
    rw [List.getElem?_eq_getElem (by omega), List.getElem?_eq_getElem (by omega), e]
  · rfl
/-- bytes are there up to k, if they are in the other text and the two are alike below k -/
theorem len_of {t u : List Int} {k : Nat} (hb : ∀ x ∈ t, 0 ≤ x ∧ x < 256) (hk : k ≤ t.length) (h : ∀ j, j < k → nx t j = nx u j) : k ≤ u.length := by
  rcases Nat.lt_or_ge u.length k with hlt | hge
  · have e := h u.length hlt
    rw [nx_end (Nat.le_refl u.length)] at e
    have := nx_byte hb (show u.length < t.length by omega)
    omega
  · exact hge
theorem runeBut_mono (t : List Int) (s : ByteArray) (i : Nat) : i ≤ stop (runeBut t s i) := by
  unfold runeBut
  split
  · simp [stop]
  · cases rb (nx t i) with
    | none => simp [stop]
    | some x =>
      obtain ⟨m, a, b⟩ := x
      simp only
      have := cont_mono t m (i + 1) a b
      cases hc : cont t m (i + 1) a b with
      | error k => rw [hc] at this; simp [stop, stopN] at this ⊢; omega
      | ok k => rw [hc] at this; simp [stop, stopN] at this ⊢; omega
theorem runeBut_lo {t u : List Int} {s : ByteArray} {i : Nat} (hb : ∀ x ∈ t, 0 ≤ x ∧ x < 256) (he : ∀ k, runeBut t s i = .error k → Alike t u k) (ho : ∀ c k, runeBut t s i = .ok (c, k) → ∀ j, j < k → nx t j = nx u j) : runeBut u s i = runeBut t s i := by
  have e : nx t i = nx u i := by
    have hm := runeBut_mono t s i
    cases hc : runeBut t s i with
    | error k => rw [hc] at hm; exact he k hc i hm
    | ok y => obtain ⟨c, k⟩ := y; exact ho c k hc i (runeBut_bd hc).1
  unfold runeBut at he ho ⊢
  rw [← e]
  split
  · rfl
  · rename_i h1
    rw [if_neg h1] at he ho
    cases hr : rb (nx t i) with
    | none => rfl
    | some x =>
      obtain ⟨m, a, b⟩ := x
      rw [hr] at he ho
      simp only at he ho ⊢
      cases hc : cont t m (i + 1) a b with
      | error k =>
        rw [hc] at he
        rw [cont_lo t u m (i + 1) a b (fun k' h => by rw [hc] at h; injection h with h; subst h; exact he k rfl) (fun k' h => by rw [hc] at h; cases h), hc]
      | ok k =>
        rw [hc] at ho
        obtain ⟨r1, r2, r3⟩ := rb_some hr
        have hi := nx_lt r3
        have hk := (cont_bd t m (i + 1) a b k r2 (by omega) hc).2
        have hal := ho _ k rfl
        rw [cont_lo t u m (i + 1) a b (fun k' h => by rw [hc] at h; cases h) (fun k' h => by rw [hc] at h; injection h with h; subst h; exact hal), hc]
        simp only
        rw [drop_take_ext hk (len_of hb hk hal) hal]
end Go.Proofs.YtenanfkmmkmolaaGreatDoor
/- HELPERS: what is read hangs on the bytes up to where it stops: items, classes. -/
namespace Go.Proofs.YtenanfkmmkmolaaGreatDoor
open Go.RowKit Go.Mx
set_option linter.unusedVariables false
set_option linter.unusedSimpArgs false
/-- where it stops -/
def stop3 {α : Type} : Except Nat (α × Nat × Wr) → Nat
  | .error k => k
  | .ok (_, k, _) => k
theorem runeBut_al {t u : List Int} {s : ByteArray} {i : Nat} (hb : ∀ x ∈ t, 0 ≤ x ∧ x < 256) (h : Alike t u (stop (runeBut t s i))) : runeBut u s i = runeBut t s i :=
  runeBut_lo hb (fun k hk => by rw [hk] at h; exact h) (fun c k hk j hj => by rw [hk] at h; exact h j (by simp only [stop]; omega))
theorem single_mono (t : List Int) (i : Nat) : i ≤ stop (single t i) ∧ (nx t i = 92 → i + 1 ≤ stop (single t i)) := by
  unfold single
  have hm := hexNum_mono t (i + 2)
  by_cases h : nx t i = 92
  · rw [if_pos h]
    refine ⟨?_, fun _ => ?_⟩
    all_goals (repeat' split)
    all_goals first | omega | (simp only [stop]; omega)
  · rw [if_neg h]
    exact ⟨by simp [stop], fun h' => absurd h' h⟩
theorem single_lo {t u : List Int} {i : Nat} (h : Alike t u (stop (single t i))) : single u i = single t i := by
  obtain ⟨m1, m2⟩ := single_mono t i
  have e := h i m1
  by_cases h92 : nx t i = 92
  · have e1 := h (i + 1) (m2 h92)
    have h92' : nx u i = 92 := e ▸ h92
    unfold single at h ⊢
    rw [if_pos h92] at h
    rw [if_pos h92, if_pos h92', ← e1]
    by_cases hx : nx t (i + 1) = 120
    · rw [if_pos hx] at h
      rw [if_pos hx, if_pos hx]
      exact hexNum_lo h
    · rw [if_neg hx, if_neg hx]
  · unfold single
    rw [← e, if_neg h92, if_neg h92]
theorem single2_stop (t : List Int) (i : Nat) (wr : Wr) : stop3 (single2 t i wr) = stop (single t i) := by
  unfold single2
  cases hc : single t i with
  | error k => rfl
  | ok y => obtain ⟨c, k⟩ := y; simp only; split <;> rfl
theorem single2_lo {t u : List Int} {i : Nat} {wr : Wr} (h : Alike t u (stop3 (single2 t i wr))) : single2 u i wr = single2 t i wr := by
  rw [single2_stop] at h
  unfold single2
  rw [single_lo h]
theorem one_mono (t : List Int) (i : Nat) (wr : Wr) : i ≤ stop3 (one t i wr) := by
  unfold one
  split
  · rw [single2_stop]; exact (single_mono t i).1
  · have := runeBut_mono t notOne i
    cases hc : runeBut t notOne i with
    | error k => rw [hc] at this; exact this
    | ok y => obtain ⟨c, k⟩ := y; rw [hc] at this; exact this
theorem one_lo {t u : List Int} {i : Nat} {wr : Wr} (hb : ∀ x ∈ t, 0 ≤ x ∧ x < 256) (h : Alike t u (stop3 (one t i wr))) : one u i wr = one t i wr := by
  have e := h i (one_mono t i wr)
  unfold one at h ⊢
  rw [← e]
  split
  · rename_i h1
    rw [if_pos h1] at h
    exact single2_lo h
  · rename_i h1
    rw [if_neg h1] at h
    rw [runeBut_al hb]
    cases hc : runeBut t notOne i with
    | error k => rw [hc] at h; exact h
    | ok y => obtain ⟨c, k⟩ := y; rw [hc] at h; exact h
theorem itemEnd_stop (fold right : Bool) (at_ : Nat) (lo hi : Int) (k : Nat) (wr : Wr) : stop3 (itemEnd fold right at_ lo hi k wr) = k := by
  unfold itemEnd
  split
  · split <;> rfl
  · rfl
theorem getD_al {t u : List Int} {j : Nat} (hb : ∀ x ∈ t, 0 ≤ x ∧ x < 256) (hu : ∀ x ∈ u, 0 ≤ x ∧ x < 256) (h : nx t j = nx u j) : u.getD j 0 = t.getD j 0 := by
  rcases Nat.lt_or_ge j t.length with h1 | h1
  · rcases Nat.lt_or_ge j u.length with h2 | h2
    · rw [getD_nx h1, getD_nx h2, h]
    · rw [nx_end h2] at h
      have := nx_byte hb h1
      omega
  · rcases Nat.lt_or_ge j u.length with h2 | h2
    · rw [nx_end h1] at h
      have := nx_byte hu h2
      omega
    · simp [List.getD, List.getElem?_eq_none h1, List.getElem?_eq_none h2]
theorem item_mono (t : List Int) (fold : Bool) (i : Nat) (wr : Wr) : i ≤ stop3 (item t fold i wr) ∧ (nx t i = 92 → i + 1 ≤ stop3 (item t fold i wr)) := by
  unfold item
  cases hs : setAt t i with
  | some L => simp only [stop3]; exact ⟨by omega, fun _ => by omega⟩
  | none =>
    simp only
    have hm := one_mono t i wr
    have hm2 : nx t i = 92 → i + 1 ≤ stop3 (one t i wr) := fun h => by
      unfold one
      rw [if_pos h, single2_stop]
      exact (single_mono t i).2 h
    cases hz : one t i wr with
    | error k => rw [hz] at hm hm2; exact ⟨hm, hm2⟩
    | ok y =>
      obtain ⟨⟨lo, r1⟩, j, wr1⟩ := y
      rw [hz] at hm hm2
      simp only [stop3] at hm hm2
      simp only
      split
      · have hm3 := one_mono t (j + 1) wr1
        cases hz2 : one t (j + 1) wr1 with
        | error k => rw [hz2] at hm3; simp only [stop3] at hm3 ⊢; exact ⟨by omega, fun h => by have := hm2 h; omega⟩
        | ok y2 =>
          obtain ⟨⟨hi, r2⟩, k, wr2⟩ := y2
          rw [hz2] at hm3
          simp only [stop3] at hm3
          simp only [itemEnd_stop]
          exact ⟨by omega, fun h => by have := hm2 h; omega⟩
      · simp only [itemEnd_stop]
        exact ⟨hm, hm2⟩
theorem item_lo {t u : List Int} {fold : Bool} {i : Nat} {wr : Wr} (hb : ∀ x ∈ t, 0 ≤ x ∧ x < 256) (hu : ∀ x ∈ u, 0 ≤ x ∧ x < 256) (h : Alike t u (stop3 (item t fold i wr))) : item u fold i wr = item t fold i wr := by
  obtain ⟨m1, m2⟩ := item_mono t fold i wr
  have e := h i m1
  have es : setAt u i = setAt t i := by
    unfold setAt
    rw [← e]
    split
    · rename_i h92
      rw [getD_al hb hu (h (i + 1) (m2 h92))]
    · rfl
  unfold item at h ⊢
  rw [es]
  cases hs : setAt t i with
  | some L => rfl
  | none =>
    rw [hs] at h
    simp only at h ⊢
    have key : Alike t u (stop3 (one t i wr)) := by
      cases hz : one t i wr with
      | error k => rw [hz] at h; exact h
      | ok y =>
        obtain ⟨⟨lo, r1⟩, j, wr1⟩ := y
        rw [hz] at h
        simp only at h
        refine h.le ?_
        show j ≤ stop3 _
        split
        · have hm3 := one_mono t (j + 1) wr1
          cases hz2 : one t (j + 1) wr1 with
          | error k => rw [hz2] at hm3; simp only [stop3] at hm3 ⊢; omega
          | ok y2 =>
            obtain ⟨⟨hi, r2⟩, k, wr2⟩ := y2
            rw [hz2] at hm3
            simp only [stop3] at hm3
            simp only [itemEnd_stop]
            omega
        · simp only [itemEnd_stop]; exact Nat.le_refl _
    rw [one_lo hb key]
    cases hz : one t i wr with
    | error k => rfl
    | ok y =>
      obtain ⟨⟨lo, r1⟩, j, wr1⟩ := y
      rw [hz] at h key
      simp only [stop3] at key
      simp only at h ⊢
      rw [← key j (Nat.le_refl _)]
      split
      · rename_i h45
        rw [if_pos h45] at h
        rw [one_lo hb]
        cases hz2 : one t (j + 1) wr1 with
        | error k => rw [hz2] at h; exact h
        | ok y2 =>
          obtain ⟨⟨hi, r2⟩, k, wr2⟩ := y2
          rw [hz2] at h
          simp only [itemEnd_stop] at h
          exact h
      · rfl
end Go.Proofs.YtenanfkmmkmolaaGreatDoor
/- HELPERS: where reading stops lies within the text; classes hang on the bytes up to there. -/
namespace Go.Proofs.YtenanfkmmkmolaaGreatDoor
open Go.RowKit Go.Mx
set_option linter.unusedVariables false
set_option linter.unusedSimpArgs false
theorem hexDigit_le {t : List Int} {i : Nat} (h : i ≤ t.length) : stop (hexDigit t i) ≤ t.length := by
  cases hx : hexDigit t i with
  | error k => have := hexDigit_stop hx; simp only [stop]; omega
  | ok y => obtain ⟨d, j⟩ := y; exact (hexDigit_bd hx).2.1
theorem hexGo_le (t : List Int) : ∀ (f i : Nat) (c : Int), i ≤ t.length → stop (hexGo t f i c) ≤ t.length := by
  intro f
  induction f with
  | zero => intro i c h; simpa [hexGo, stop] using h
  | succ f ih =>
    intro i c h
    unfold hexGo
    split
    · simpa [stop] using h
    · cases hx : hexDigit t i with
      | error k => have := hexDigit_stop hx; simp only [stop]; omega
      | ok y => obtain ⟨d, j⟩ := y; exact ih j _ (hexDigit_bd hx).2.1
theorem hexNum_le {t : List Int} {i : Nat} (h : i ≤ t.length) : stop (hexNum t i) ≤ t.length := by
  unfold hexNum
  split
  · rename_i h1
    have hi := nx_lt (t := t) (i := i) (by omega)
    have e := hexDigit_le (t := t) (i := i + 1) (by omega)
    cases hx : hexDigit t (i + 1) with
    | error k => rw [hx] at e; exact e
    | ok y =>
      obtain ⟨d, j⟩ := y
      have e2 := hexGo_le t 5 j d (hexDigit_bd hx).2.1
      simp only
      cases hy : hexGo t 5 j d with
      | error k => rw [hy] at e2; exact e2
      | ok z =>
        obtain ⟨c, k⟩ := z
        rw [hy] at e2
        simp only [stop] at e2
        simp only
        split
        · rename_i h2
          have := nx_lt (t := t) (i := k) (by omega)
          simp only [stop]
          omega
        · exact e2
  · have e := hexDigit_le h
    cases hx : hexDigit t i with
    | error k => rw [hx] at e; exact e
    | ok y =>
      obtain ⟨d, j⟩ := y
      have e2 := hexDigit_le (hexDigit_bd hx).2.1
      simp only
      cases hy : hexDigit t j with
      | error k => rw [hy] at e2; exact e2
      | ok z => obtain ⟨c, k⟩ := z; rw [hy] at e2; exact e2
theorem cont_le (t : List Int) : ∀ (m i : Nat) (a b : Int), 0 ≤ a → i ≤ t.length → stopN (cont t m i a b) ≤ t.length := by
  intro m
  induction m with
  | zero => intro i a b _ h; simpa [cont, stopN] using h
  | succ m ih =>
    intro i a b ha h
    unfold cont
    split
    · have := nx_lt (t := t) (i := i) (by omega)
      exact ih _ _ _ (by decide) (by omega)
    · simpa [stopN] using h
theorem runeBut_le {t : List Int} {s : ByteArray} {i : Nat} (h : i ≤ t.length) : stop (runeBut t s i) ≤ t.length := by
  unfold runeBut
  split
  · simpa [stop] using h
  · cases hr : rb (nx t i) with
    | none => simpa [stop] using h
    | some x =>
      obtain ⟨m, a, b⟩ := x
      obtain ⟨r1, r2, r3⟩ := rb_some hr
      have hi := nx_lt r3
      have e := cont_le t m (i + 1) a b r2 (by omega)
      simp only
      cases hc : cont t m (i + 1) a b with
      | error k => rw [hc] at e; exact e
      | ok k => rw [hc] at e; exact e
theorem single_le {t : List Int} {i : Nat} (h : i ≤ t.length) : stop (single t i) ≤ t.length := by
  unfold single
  by_cases h1 : nx t i = 92
  · rw [if_pos h1]
    have hi := nx_lt (t := t) (i := i) (by omega)
    by_cases hx : 0 ≤ nx t (i + 1)
    · have hi2 := nx_lt hx
      have e := hexNum_le (t := t) (i := i + 2) (by omega)
      repeat' split
      all_goals first | exact e | (simp only [stop]; omega)
    · repeat' split
      all_goals first | omega | (simp only [stop]; omega)
  · rw [if_neg h1]
    simpa [stop] using h
theorem one_le {t : List Int} {i : Nat} {wr : Wr} (h : i ≤ t.length) : stop3 (one t i wr) ≤ t.length := by
  unfold one
  split
  · rw [single2_stop]; exact single_le h
  · have e := runeBut_le (s := notOne) h
    cases hc : runeBut t notOne i with
    | error k => rw [hc] at e; exact e
    | ok y => obtain ⟨c, k⟩ := y; rw [hc] at e; exact e
theorem item_le {t : List Int} {fold : Bool} {i : Nat} {wr : Wr} (h : i ≤ t.length) : stop3 (item t fold i wr) ≤ t.length := by
  unfold item
  cases hs : setAt t i with
  | some L =>
    simp only [stop3]
    unfold setAt at hs
    split at hs
    · have hne := (setL_len hs).2
      rcases Nat.lt_or_ge (i + 1) t.length with h1 | h1
      · omega
      · exact absurd (by simp [List.getD, List.getElem?_eq_none h1]) hne
    · cases hs
  | none =>
    simp only
    have e := one_le (wr := wr) h
    cases hz : one t i wr with
    | error k => rw [hz] at e; exact e
    | ok y =>
      obtain ⟨⟨lo, r1⟩, j, wr1⟩ := y
      rw [hz] at e
      simp only [stop3] at e
      simp only
      split
      · rename_i h45
        have hj := nx_lt (t := t) (i := j) (by omega)
        have e2 := one_le (t := t) (i := j + 1) (wr := wr1) (by omega)
        cases hz2 : one t (j + 1) wr1 with
        | error k => rw [hz2] at e2; exact e2
        | ok y2 =>
          obtain ⟨⟨hi, r2⟩, k, wr2⟩ := y2
          rw [hz2] at e2
          simp only [itemEnd_stop]
          exact e2
      · simp only [itemEnd_stop]; exact e
theorem items_mono (t : List Int) (fold : Bool) : ∀ (f : Nat) (L : Rng) (k : Nat) (wr : Wr), k ≤ stop3 (items t fold f L k wr) := by
  intro f
  induction f with
  | zero => intro L k wr; simp [items, stop3]
  | succ f ih =>
    intro L k wr
    unfold items
    split
    · simp [stop3]
    · have hm := (item_mono t fold k wr).1
      cases hz : item t fold k wr with
      | error j => rw [hz] at hm; exact hm
      | ok y =>
        obtain ⟨L2, j, wr2⟩ := y
        rw [hz] at hm
        simp only [stop3] at hm
        have := ih (L ++ L2) j wr2
        simp only
        omega
theorem items_le (t : List Int) (fold : Bool) : ∀ (f : Nat) (L : Rng) (k : Nat) (wr : Wr), k ≤ t.length → stop3 (items t fold f L k wr) ≤ t.length := by
  intro f
  induction f with
  | zero => intro L k wr h; simpa [items, stop3] using h
  | succ f ih =>
    intro L k wr h
    unfold items
    split
    · have := nx_lt (t := t) (i := k) (by omega)
      simp only [stop3]
      omega
    · have e := item_le (fold := fold) (wr := wr) h
      cases hz : item t fold k wr with
      | error j => rw [hz] at e; exact e
      | ok y => obtain ⟨L2, j, wr2⟩ := y; rw [hz] at e; exact ih _ _ _ e
theorem items_lo {t u : List Int} {fold : Bool} (hb : ∀ x ∈ t, 0 ≤ x ∧ x < 256) (hu : ∀ x ∈ u, 0 ≤ x ∧ x < 256) : ∀ (f f' : Nat) (L : Rng) (k : Nat) (wr : Wr), k ≤ t.length → t.length + 1 ≤ k + f → Alike t u (stop3 (items t fold f L k wr)) → stop3 (items t fold f L k wr) + 1 ≤ k + f' → items u fold f' L k wr = items t fold f L k wr := by
  intro f
  induction f with
  | zero => intro f' L k wr h1 h2; omega
  | succ f ih =>
    intro f' L k wr h1 h2 h3 h4
    have hm := items_mono t fold (f + 1) L k wr
    obtain ⟨f', rfl⟩ : ∃ g, f' = g + 1 := ⟨f' - 1, by omega⟩
    have e := h3 k hm
    unfold items at h3 h4 ⊢
    rw [← e]
    split
    · rfl
    · rename_i h93
      rw [if_neg h93] at h3 h4
      have key : Alike t u (stop3 (item t fold k wr)) := by
        cases hz : item t fold k wr with
        | error j => rw [hz] at h3; exact h3
        | ok y =>
          obtain ⟨L2, j, wr2⟩ := y
          rw [hz] at h3
          exact h3.le (items_mono t fold f (L ++ L2) j wr2)
      rw [item_lo hb hu key]
      cases hz : item t fold k wr with
      | error j => rfl
      | ok y =>
        obtain ⟨L2, j, wr2⟩ := y
        have hj := item_le (fold := fold) (wr := wr) h1
        have hkj := (item_bd hz).1
        rw [hz] at h3 h4 hj
        simp only [stop3] at hj
        simp only at h3 h4 ⊢
        exact ih f' _ _ _ hj (by omega) h3 (by omega)
theorem classP_stop (t : List Int) (fold : Bool) (i : Nat) (wr : Wr) (h : nx t i = 91) : i ≤ stop3 (classP t fold i wr) ∧ i + 1 ≤ stop3 (classP t fold i wr) := by
  unfold classP
  rw [if_pos h]
  have hm := (item_mono t fold (if nx t (i + 1) = 94 then i + 2 else i + 1) wr).1
  have h0 : i + 1 ≤ (if nx t (i + 1) = 94 then i + 2 else i + 1) := by split <;> omega
  cases hz : item t fold (if nx t (i + 1) = 94 then i + 2 else i + 1) wr with
  | error k => rw [hz] at hm; simp only [stop3] at hm ⊢; omega
  | ok y =>
    obtain ⟨L1, k1, wr1⟩ := y
    rw [hz] at hm
    simp only [stop3] at hm
    have h2 := items_mono t fold (t.length + 1) L1 k1 wr1
    simp only
    cases hz2 : items t fold (t.length + 1) L1 k1 wr1 with
    | error k => rw [hz2] at h2; simp only [stop3] at h2 ⊢; omega
    | ok y2 => obtain ⟨L, k, wr2⟩ := y2; rw [hz2] at h2; simp only [stop3] at h2 ⊢; omega
theorem len_al {t u : List Int} {k : Nat} (hb : ∀ x ∈ t, 0 ≤ x ∧ x < 256) (hk : k ≤ t.length) (h : Alike t u k) : k ≤ u.length := len_of hb hk fun j hj => h j (by omega)
theorem classP_le {t : List Int} {fold : Bool} {i : Nat} {wr : Wr} (h : nx t i = 91) : stop3 (classP t fold i wr) ≤ t.length := by
  unfold classP
  rw [if_pos h]
  have hi := nx_lt (t := t) (i := i) (by omega)
  have hle : (if nx t (i + 1) = 94 then i + 2 else i + 1) ≤ t.length := by
    split
    · have := nx_lt (t := t) (i := i + 1) (by omega); omega
    · omega
  have e := item_le (fold := fold) (wr := wr) hle
  cases hz : item t fold (if nx t (i + 1) = 94 then i + 2 else i + 1) wr with
  | error k => rw [hz] at e; exact e
  | ok y =>
    obtain ⟨L1, k1, wr1⟩ := y
    rw [hz] at e
    simp only [stop3] at e
    have e2 := items_le t fold (t.length + 1) L1 k1 wr1 e
    simp only
    cases hz2 : items t fold (t.length + 1) L1 k1 wr1 with
    | error k => rw [hz2] at e2; exact e2
    | ok y2 => obtain ⟨L, k, wr2⟩ := y2; rw [hz2] at e2; exact e2
theorem classP_lo {t u : List Int} {fold : Bool} {i : Nat} {wr : Wr} (hb : ∀ x ∈ t, 0 ≤ x ∧ x < 256) (hu : ∀ x ∈ u, 0 ≤ x ∧ x < 256) (h91 : nx t i = 91) (h : Alike t u (stop3 (classP t fold i wr))) : classP u fold i wr = classP t fold i wr := by
  obtain ⟨m1, m2⟩ := classP_stop t fold i wr h91
  have e0 := h i m1
  have e1 := h (i + 1) m2
  have hi := nx_lt (t := t) (i := i) (by omega)
  have hst := classP_le (fold := fold) (wr := wr) h91
  have hul := len_al hb hst h
  have hle : (if nx t (i + 1) = 94 then i + 2 else i + 1) ≤ t.length := by
    split
    · have := nx_lt (t := t) (i := i + 1) (by omega); omega
    · omega
  unfold classP at h hul ⊢
  rw [← e0, ← e1]
  rw [if_pos h91] at h hul ⊢
  rw [if_pos h91]
  generalize hp : (if nx t (i + 1) = 94 then i + 2 else i + 1) = p at h hul hle ⊢
  have key : Alike t u (stop3 (item t fold p wr)) := by
    cases hz : item t fold p wr with
    | error k => rw [hz] at h; exact h
    | ok y =>
      obtain ⟨L1, k1, wr1⟩ := y
      rw [hz] at h
      have h2 := items_mono t fold (t.length + 1) L1 k1 wr1
      simp only at h
      refine h.le ?_
      show k1 ≤ stop3 _
      cases hz2 : items t fold (t.length + 1) L1 k1 wr1 with
      | error k => rw [hz2] at h2; exact h2
      | ok y2 => obtain ⟨L, k, wr2⟩ := y2; rw [hz2] at h2; exact h2
  rw [item_lo hb hu key]
  have hil := item_le (fold := fold) (wr := wr) hle
  cases hz : item t fold p wr with
  | error k => rfl
  | ok y =>
    obtain ⟨L1, k1, wr1⟩ := y
    rw [hz] at h hul hil
    simp only [stop3] at hil
    simp only at h hul ⊢
    have key2 : Alike t u (stop3 (items t fold (t.length + 1) L1 k1 wr1)) ∧ stop3 (items t fold (t.length + 1) L1 k1 wr1) ≤ u.length := by
      cases hz2 : items t fold (t.length + 1) L1 k1 wr1 with
      | error k => rw [hz2] at h hul; exact ⟨h, hul⟩
      | ok y2 => obtain ⟨L, k, wr2⟩ := y2; rw [hz2] at h hul; exact ⟨h, hul⟩
    rw [items_lo hb hu (t.length + 1) (u.length + 1) L1 k1 wr1 hil (by omega) key2.1 (by have := key2.2; omega)]
end Go.Proofs.YtenanfkmmkmolaaGreatDoor
/- HELPERS: what is read hangs on the bytes up to where it stops: atoms, counts. -/
namespace Go.Proofs.YtenanfkmmkmolaaGreatDoor
open Go.RowKit Go.Mx
set_option linter.unusedVariables false
set_option linter.unusedSimpArgs false
theorem setL_stop {t : List Int} {i : Nat} {x : Int} (hx : t.getD (i + 1) 0 = x) (hne : x ≠ 0) : i + 2 ≤ t.length := by
  rcases Nat.lt_or_ge (i + 1) t.length with h1 | h1
  · omega
  · exact absurd (by rw [← hx]; simp [List.getD, List.getElem?_eq_none h1]) hne
theorem assertL_zero : assertL 0 = 0 := by decide
/-- mono, le and lo of an atom -/
theorem atom_mono (t : List Int) (fold all : Bool) (i : Nat) (wr : Wr) : i ≤ stop3 (atomP t fold all i wr) ∧ (nx t i = 92 → i + 1 ≤ stop3 (atomP t fold all i wr)) := by
  unfold atomP
  by_cases h1 : nx t i = 46
  · rw [if_pos h1]; exact ⟨by simp only [stop3]; omega, fun h => by omega⟩
  rw [if_neg h1]
  by_cases h2 : nx t i = 94
  · rw [if_pos h2]; exact ⟨by simp only [stop3]; omega, fun h => by omega⟩
  rw [if_neg h2]
  by_cases h3 : nx t i = 36
  · rw [if_pos h3]; exact ⟨by simp only [stop3]; omega, fun h => by omega⟩
  rw [if_neg h3]
  by_cases h4 : nx t i = 91
  · rw [if_pos h4]
    refine ⟨?_, fun h => by omega⟩
    have hm := (classP_stop t fold i wr h4).1
    cases hz : classP t fold i wr with
    | error k => rw [hz] at hm; exact hm
    | ok y => obtain ⟨L, k, wr2⟩ := y; rw [hz] at hm; exact hm
  rw [if_neg h4]
  by_cases h5 : nx t i = 92
  · rw [if_pos h5]
    have hs := (single_mono t i).2 h5
    rw [← single2_stop t i wr] at hs
    have : i + 1 ≤ stop3 (if assertL (t.getD (i + 1) 0) = 0 then match setL (t.getD (i + 1) 0) with | some L => (.ok (.cls L, i + 2, wr) : Except Nat (Tree × Nat × Wr)) | none => (match single2 t i wr with | .error k => .error k | .ok ((c, _), k, wr2) => .ok (.cls (about fold [(c, c)]), k, wr2)) else .ok (.asr (assertL (t.getD (i + 1) 0)), i + 2, wr)) := by
      split
      · cases setL (t.getD (i + 1) 0) with
        | some L => simp only [stop3]; omega
        | none =>
          simp only
          cases hz : single2 t i wr with
          | error k => rw [hz] at hs; exact hs
          | ok y => obtain ⟨⟨c, b⟩, k, wr2⟩ := y; rw [hz] at hs; exact hs
      · simp only [stop3]; omega
    exact ⟨Nat.le_of_succ_le this, fun _ => this⟩
  rw [if_neg h5]
  refine ⟨?_, fun h => absurd h h5⟩
  have hm := runeBut_mono t notPlain i
  cases hz : runeBut t notPlain i with
  | error k => rw [hz] at hm; exact hm
  | ok y => obtain ⟨c, k⟩ := y; rw [hz] at hm; exact hm
theorem atom_le {t : List Int} {fold all : Bool} {i : Nat} {wr : Wr} (h : i < t.length) : stop3 (atomP t fold all i wr) ≤ t.length := by
  unfold atomP
  by_cases h1 : nx t i = 46
  · rw [if_pos h1]; simp only [stop3]; omega
  rw [if_neg h1]
  by_cases h2 : nx t i = 94
  · rw [if_pos h2]; simp only [stop3]; omega
  rw [if_neg h2]
  by_cases h3 : nx t i = 36
  · rw [if_pos h3]; simp only [stop3]; omega
  rw [if_neg h3]
  by_cases h4 : nx t i = 91
  · rw [if_pos h4]
    have e := classP_le (fold := fold) (wr := wr) h4
    cases hz : classP t fold i wr with
    | error k => rw [hz] at e; exact e
    | ok y => obtain ⟨L, k, wr2⟩ := y; rw [hz] at e; exact e
  rw [if_neg h4]
  by_cases h5 : nx t i = 92
  · rw [if_pos h5]
    have hs := single_le (t := t) (i := i) (by omega)
    rw [← single2_stop t i wr] at hs
    split
    · cases hL : setL (t.getD (i + 1) 0) with
      | some L => have := setL_stop rfl (setL_len hL).2; simp only [stop3]; exact this
      | none =>
        simp only
        cases hz : single2 t i wr with
        | error k => rw [hz] at hs; exact hs
        | ok y => obtain ⟨⟨c, b⟩, k, wr2⟩ := y; rw [hz] at hs; exact hs
    · rename_i ha
      have := setL_stop (t := t) (i := i) rfl (fun e => ha (by rw [e]; exact assertL_zero))
      simp only [stop3]
      exact this
  rw [if_neg h5]
  have e := runeBut_le (s := notPlain) (t := t) (i := i) (by omega)
  cases hz : runeBut t notPlain i with
  | error k => rw [hz] at e; exact e
  | ok y => obtain ⟨c, k⟩ := y; rw [hz] at e; exact e
theorem atom_lo {t u : List Int} {fold all : Bool} {i : Nat} {wr : Wr} (hb : ∀ x ∈ t, 0 ≤ x ∧ x < 256) (hu : ∀ x ∈ u, 0 ≤ x ∧ x < 256) (h : Alike t u (stop3 (atomP t fold all i wr))) : atomP u fold all i wr = atomP t fold all i wr := by
  obtain ⟨m1, m2⟩ := atom_mono t fold all i wr
  have e := h i m1
  have e2 : nx t i = 92 → u.getD (i + 1) 0 = t.getD (i + 1) 0 := fun h92 => getD_al hb hu (h (i + 1) (m2 h92))
  unfold atomP at h ⊢
  rw [← e]
  by_cases h1 : nx t i = 46
  · rw [if_pos h1, if_pos h1]
  rw [if_neg h1] at h ⊢
  rw [if_neg h1]
  by_cases h2 : nx t i = 94
  · rw [if_pos h2, if_pos h2]
  rw [if_neg h2] at h ⊢
  rw [if_neg h2]
  by_cases h3 : nx t i = 36
  · rw [if_pos h3, if_pos h3]
  rw [if_neg h3] at h ⊢
  rw [if_neg h3]
  by_cases h4 : nx t i = 91
  · rw [if_pos h4] at h ⊢
    rw [if_pos h4]
    rw [classP_lo hb hu h4]
    cases hz : classP t fold i wr with
    | error k => rw [hz] at h; exact h
    | ok y => obtain ⟨L, k, wr2⟩ := y; rw [hz] at h; exact h
  rw [if_neg h4] at h ⊢
  rw [if_neg h4]
  by_cases h5 : nx t i = 92
  · rw [if_pos h5] at h ⊢
    rw [if_pos h5, e2 h5]
    split
    · rename_i ha
      rw [if_pos ha] at h
      cases hL : setL (t.getD (i + 1) 0) with
      | some L => rfl
      | none =>
        rw [hL] at h
        simp only at h ⊢
        rw [single2_lo]
        cases hz : single2 t i wr with
        | error k => rw [hz] at h; exact h
        | ok y => obtain ⟨⟨c, b⟩, k, wr2⟩ := y; rw [hz] at h; exact h
    · rfl
  rw [if_neg h5] at h ⊢
  rw [if_neg h5]
  rw [runeBut_al hb]
  cases hz : runeBut t notPlain i with
  | error k => rw [hz] at h; exact h
  | ok y => obtain ⟨c, k⟩ := y; rw [hz] at h; exact h
theorem number_mono (t : List Int) (i : Nat) : i ≤ stop (number t i) := by
  unfold number
  split
  · simp [stop]
  · split
    · have := numGo_mono t 3 (i + 1) (nx t i - 48)
      show i ≤ (numGo t 3 (i + 1) (nx t i - 48)).2
      omega
    · simp [stop]
theorem number_le {t : List Int} {i : Nat} (h : i ≤ t.length) : stop (number t i) ≤ t.length := by
  cases hn : number t i with
  | error k => have := number_end hn; simp only [stop]; omega
  | ok y => obtain ⟨v, k⟩ := y; exact (number_bd hn).2.1
theorem numbers_mono (t : List Int) (i : Nat) (wr : Wr) : i ≤ stop3 (numbers t i wr) := by
  unfold numbers
  by_cases h : nx t i = 123
  · rw [if_pos h]
    have hm := number_mono t (i + 1)
    cases hn : number t (i + 1) with
    | error k => rw [hn] at hm; simp only [stop] at hm; simp only [stop3]; omega
    | ok y =>
      obtain ⟨lo, j⟩ := y
      rw [hn] at hm
      simp only [stop] at hm
      simp only
      split
      · split
        · simp only [stop3]; omega
        · have hm2 := number_mono t (j + 1)
          cases hn2 : number t (j + 1) with
          | error k => rw [hn2] at hm2; simp only [stop] at hm2; simp only [stop3]; omega
          | ok y2 =>
            obtain ⟨hi, k⟩ := y2
            rw [hn2] at hm2
            simp only [stop] at hm2
            simp only
            split <;> simp only [stop3] <;> omega
      · split <;> simp only [stop3] <;> omega
  · rw [if_neg h]; simp [stop3]
theorem numbers_le {t : List Int} {i : Nat} {wr : Wr} (hl : i ≤ t.length) : stop3 (numbers t i wr) ≤ t.length := by
  unfold numbers
  by_cases h : nx t i = 123
  · rw [if_pos h]
    have hi := nx_lt (t := t) (i := i) (by omega)
    have e := number_le (t := t) (i := i + 1) (by omega)
    cases hn : number t (i + 1) with
    | error k => rw [hn] at e; exact e
    | ok y =>
      obtain ⟨lo, j⟩ := y
      rw [hn] at e
      simp only [stop] at e
      simp only
      split
      · rename_i h44
        have hj := nx_lt (t := t) (i := j) (by omega)
        split
        · have := nx_lt (t := t) (i := j + 1) (by omega)
          simp only [stop3]; omega
        · have e2 := number_le (t := t) (i := j + 1) (by omega)
          cases hn2 : number t (j + 1) with
          | error k => rw [hn2] at e2; exact e2
          | ok y2 =>
            obtain ⟨hi, k⟩ := y2
            rw [hn2] at e2
            simp only [stop] at e2
            simp only
            split
            · have := nx_lt (t := t) (i := k) (by omega)
              simp only [stop3]; omega
            · exact e2
      · split
        · have := nx_lt (t := t) (i := j) (by omega)
          simp only [stop3]; omega
        · exact e
  · rw [if_neg h]; simpa [stop3] using hl
theorem numbers_lo {t u : List Int} {i : Nat} {wr : Wr} (h : Alike t u (stop3 (numbers t i wr))) : numbers u i wr = numbers t i wr := by
  have e := h i (numbers_mono t i wr)
  unfold numbers at h ⊢
  rw [← e]
  by_cases h1 : nx t i = 123
  · rw [if_pos h1] at h ⊢
    rw [if_pos h1]
    cases hn : number t (i + 1) with
    | error k =>
      rw [hn] at h
      rw [number_lo (by rw [hn]; exact h), hn]
    | ok y =>
      obtain ⟨lo, j⟩ := y
      rw [hn] at h
      simp only at h
      have hj : Alike t u j := by
        refine h.le ?_
        split
        · split
          · simp only [stop3]; omega
          · have hm2 := number_mono t (j + 1)
            cases hn2 : number t (j + 1) with
            | error k => rw [hn2] at hm2; simp only [stop] at hm2; simp only [stop3]; omega
            | ok y2 =>
              obtain ⟨hi, k⟩ := y2
              rw [hn2] at hm2
              simp only [stop] at hm2
              simp only
              split <;> simp only [stop3] <;> omega
        · split <;> simp only [stop3] <;> omega
      rw [number_lo (by rw [hn]; exact hj), hn]
      simp only
      rw [← hj j (Nat.le_refl _)]
      split
      · rename_i h44
        rw [if_pos h44] at h
        have hj1 : nx t (j + 1) = nx u (j + 1) := by
          refine h (j + 1) ?_
          split
          · simp only [stop3]; omega
          · have hm2 := number_mono t (j + 1)
            cases hn2 : number t (j + 1) with
            | error k => rw [hn2] at hm2; simp only [stop] at hm2; simp only [stop3]; omega
            | ok y2 =>
              obtain ⟨hi, k⟩ := y2
              rw [hn2] at hm2
              simp only [stop] at hm2
              simp only
              split <;> simp only [stop3] <;> omega
        rw [← hj1]
        split
        · rfl
        · rename_i h125
          rw [if_neg h125] at h
          cases hn2 : number t (j + 1) with
          | error k =>
            rw [hn2] at h
            rw [number_lo (by rw [hn2]; exact h), hn2]
          | ok y2 =>
            obtain ⟨hi, k⟩ := y2
            rw [hn2] at h
            simp only at h
            have hk : Alike t u k := by
              refine h.le ?_
              split <;> simp only [stop3] <;> omega
            rw [number_lo (by rw [hn2]; exact hk), hn2]
            simp only
            rw [← hk k (Nat.le_refl _)]
      · rfl
  · rw [if_neg h1, if_neg h1]
end Go.Proofs.YtenanfkmmkmolaaGreatDoor
/- HELPERS: what is read hangs on the bytes up to where it stops: the whole. -/
namespace Go.Proofs.YtenanfkmmkmolaaGreatDoor
open Go.RowKit Go.Mx
set_option linter.unusedVariables false
set_option linter.unusedSimpArgs false
theorem lazy_mono (t : List Int) (i : Nat) : i ≤ (lazyAt t i).2 := by unfold lazyAt; split <;> simp
theorem lazy_le {t : List Int} {i : Nat} (h : i ≤ t.length) : (lazyAt t i).2 ≤ t.length := by
  unfold lazyAt
  split
  · have := nx_lt (t := t) (i := i) (by omega); simp only; omega
  · exact h
theorem lazy_lo {t u : List Int} {i : Nat} (h : nx t i = nx u i) : lazyAt u i = lazyAt t i := by unfold lazyAt; rw [h]
theorem counted_mono (t : List Int) (x : Tree) (i : Nat) (wr : Wr) : i ≤ stop3 (counted t x i wr) := by
  unfold counted
  have hl := lazy_mono t (i + 1)
  split
  · simp only [stop3]; omega
  split
  · simp only [stop3]; omega
  split
  · simp only [stop3]; omega
  split
  · have hm := numbers_mono t i wr
    cases hz : numbers t i wr with
    | error k => rw [hz] at hm; exact hm
    | ok y =>
      obtain ⟨⟨lo, hi⟩, k, wr2⟩ := y
      rw [hz] at hm
      simp only [stop3] at hm
      have := lazy_mono t k
      simp only [stop3]
      omega
  · simp [stop3]
theorem counted_le {t : List Int} {x : Tree} {i : Nat} {wr : Wr} (h : i ≤ t.length) : stop3 (counted t x i wr) ≤ t.length := by
  unfold counted
  have hl : 0 ≤ nx t i → (lazyAt t (i + 1)).2 ≤ t.length := fun h0 => by have := nx_lt h0; exact lazy_le (by omega)
  split
  · exact hl (by omega)
  split
  · exact hl (by omega)
  split
  · exact hl (by omega)
  split
  · have e := numbers_le (wr := wr) h
    cases hz : numbers t i wr with
    | error k => rw [hz] at e; exact e
    | ok y =>
      obtain ⟨⟨lo, hi⟩, k, wr2⟩ := y
      rw [hz] at e
      exact lazy_le e
  · exact h
theorem counted_lo {t u : List Int} {x : Tree} {i : Nat} {wr : Wr} (h : Alike t u (stop3 (counted t x i wr))) : counted u x i wr = counted t x i wr := by
  have e := h i (counted_mono t x i wr)
  have hl := lazy_mono t (i + 1)
  unfold counted at h ⊢
  rw [← e]
  by_cases h1 : nx t i = 42
  · rw [if_pos h1] at h
    rw [if_pos h1, if_pos h1, lazy_lo (h (i + 1) hl)]
  rw [if_neg h1] at h
  rw [if_neg h1, if_neg h1]
  by_cases h2 : nx t i = 43
  · rw [if_pos h2] at h
    rw [if_pos h2, if_pos h2, lazy_lo (h (i + 1) hl)]
  rw [if_neg h2] at h
  rw [if_neg h2, if_neg h2]
  by_cases h3 : nx t i = 63
  · rw [if_pos h3] at h
    rw [if_pos h3, if_pos h3, lazy_lo (h (i + 1) hl)]
  rw [if_neg h3] at h
  rw [if_neg h3, if_neg h3]
  by_cases h4 : nx t i = 123
  · rw [if_pos h4] at h
    rw [if_pos h4, if_pos h4]
    cases hz : numbers t i wr with
    | error k =>
      rw [hz] at h
      rw [numbers_lo (by rw [hz]; exact h), hz]
    | ok y =>
      obtain ⟨⟨lo, hi⟩, k, wr2⟩ := y
      rw [hz] at h
      have hk : Alike t u k := h.le (lazy_mono t k)
      rw [numbers_lo (by rw [hz]; exact hk), hz]
      simp only
      rw [lazy_lo (hk k (Nat.le_refl _))]
  · rw [if_neg h4, if_neg h4]
/-- where it stops -/
def stopS : Except Nat St → Nat
  | .error k => k
  | .ok S => S.pos
theorem addRep_stop (t : List Int) (x : Tree) (S : St) : stopS (addRep t x S) = stop3 (counted t x S.pos S.wr) := by
  unfold addRep
  cases counted t x S.pos S.wr with
  | error k => rfl
  | ok y => obtain ⟨y, k, wr2⟩ := y; rfl
theorem addRep_lo {t u : List Int} {x : Tree} {S : St} (h : Alike t u (stopS (addRep t x S))) : addRep u x S = addRep t x S := by
  rw [addRep_stop] at h
  unfold addRep
  rw [counted_lo h]
theorem nameGo_mono (t : List Int) : ∀ (f i : Nat), i ≤ nameGo t f i := by
  intro f
  induction f with
  | zero => intro i; simp [nameGo]
  | succ f ih =>
    intro i
    unfold nameGo
    split
    · have := ih (i + 1); omega
    · exact Nat.le_refl _
theorem word_pos {x : Int} (h : wordB x = true) : 0 ≤ x := by unfold wordB at h; simp at h; omega
theorem nameGo_le (t : List Int) : ∀ (f i : Nat), i ≤ t.length → nameGo t f i ≤ t.length := by
  intro f
  induction f with
  | zero => intro i h; simpa [nameGo] using h
  | succ f ih =>
    intro i h
    unfold nameGo
    split
    · rename_i hw
      have := nx_lt (word_pos hw)
      exact ih _ (by omega)
    · exact h
theorem nameGo_lo (t u : List Int) : ∀ (f i : Nat), Alike t u (nameGo t f i) → nameGo u f i = nameGo t f i := by
  intro f
  induction f with
  | zero => intro i _; rfl
  | succ f ih =>
    intro i h
    have e := h i (nameGo_mono t (f + 1) i)
    unfold nameGo at h ⊢
    rw [← e]
    split
    · rename_i hw
      rw [if_pos hw] at h
      exact ih _ h
    · rfl
theorem nameP_mono (t : List Int) (i : Nat) : i ≤ stop (nameP t i) := by
  unfold nameP
  have hm := nameGo_mono t 32 (i + 1)
  split
  · split
    · simp [stop]
    · split <;> simp only [stop] <;> omega
  · simp [stop]
theorem nameP_le {t : List Int} {i : Nat} (h : i ≤ t.length) : stop (nameP t i) ≤ t.length := by
  unfold nameP
  split
  · have hi := nx_lt (t := t) (i := i) (by omega)
    have e := nameGo_le t 32 (i + 1) (by omega)
    split
    · simp only [stop]; omega
    · split
      · have := nx_lt (t := t) (i := nameGo t 32 (i + 1)) (by omega)
        simp only [stop]; omega
      · exact e
  · simpa [stop] using h
theorem nameP_lo {t u : List Int} {i : Nat} (hb : ∀ x ∈ t, 0 ≤ x ∧ x < 256) (hle : i ≤ t.length) (h : Alike t u (stop (nameP t i))) : nameP u i = nameP t i := by
  have e := h i (nameP_mono t i)
  have hm := nameGo_mono t 32 (i + 1)
  unfold nameP at h ⊢
  rw [← e]
  by_cases h1 : nx t i = 60
  · rw [if_pos h1] at h
    rw [if_pos h1, if_pos h1]
    have hi := nx_lt (t := t) (i := i) (by omega)
    have hgl := nameGo_le t 32 (i + 1) (by omega)
    have e1 : nx t (i + 1) = nx u (i + 1) := by
      refine h (i + 1) ?_
      split
      · simp [stop]
      · split <;> simp only [stop] <;> omega
    rw [← e1]
    split
    · rfl
    · rename_i h2
      rw [if_neg h2] at h
      have hk : Alike t u (nameGo t 32 (i + 1)) := by
        refine h.le ?_
        split <;> simp only [stop] <;> omega
      rw [nameGo_lo t u 32 (i + 1) hk, ← hk _ (Nat.le_refl _)]
      rw [drop_take_ext hgl (len_al hb hgl hk) fun j hj => hk j (by omega)]
  · rw [if_neg h1, if_neg h1]
theorem begins_mono (t : List Int) (S : St) : S.pos + 1 ≤ stopS (begins t S) := by
  unfold begins
  split
  · split
    · have hm := nameP_mono t (S.pos + 3)
      cases hz : nameP t (S.pos + 3) with
      | error k => rw [hz] at hm; simp only [stop] at hm; simp only [stopS]; omega
      | ok y => obtain ⟨nm, k⟩ := y; rw [hz] at hm; simp only [stop] at hm; simp only [stopS, opened]; omega
    · simp only
      have h1 : S.pos + 2 ≤ (if nx t (S.pos + 2) = 105 then S.pos + 3 else S.pos + 2) := by split <;> omega
      generalize (if nx t (S.pos + 2) = 105 then S.pos + 3 else S.pos + 2) = i1 at h1 ⊢
      have h2 : i1 ≤ (if nx t i1 = 115 then i1 + 1 else i1) := by split <;> omega
      generalize (if nx t i1 = 115 then i1 + 1 else i1) = i2 at h2 ⊢
      split <;> simp only [stopS, opened] <;> omega
  · simp [stopS, opened]
theorem begins_le {t : List Int} {S : St} (h40 : nx t S.pos = 40) : stopS (begins t S) ≤ t.length := by
  have h0 := nx_lt (t := t) (i := S.pos) (by omega)
  unfold begins
  split
  · have h1 := nx_lt (t := t) (i := S.pos + 1) (by omega)
    split
    · have h2 := nx_lt (t := t) (i := S.pos + 2) (by omega)
      have e := nameP_le (t := t) (i := S.pos + 3) (by omega)
      cases hz : nameP t (S.pos + 3) with
      | error k => rw [hz] at e; exact e
      | ok y => obtain ⟨nm, k⟩ := y; rw [hz] at e; exact e
    · simp only
      have g1 : (if nx t (S.pos + 2) = 105 then S.pos + 3 else S.pos + 2) ≤ t.length := by
        split
        · have := nx_lt (t := t) (i := S.pos + 2) (by omega); omega
        · omega
      generalize (if nx t (S.pos + 2) = 105 then S.pos + 3 else S.pos + 2) = i1 at g1 ⊢
      have g2 : (if nx t i1 = 115 then i1 + 1 else i1) ≤ t.length := by
        split
        · have := nx_lt (t := t) (i := i1) (by omega); omega
        · omega
      generalize (if nx t i1 = 115 then i1 + 1 else i1) = i2 at g2 ⊢
      split
      · have := nx_lt (t := t) (i := i2) (by omega)
        simp only [stopS, opened]; omega
      · exact g2
  · simp only [stopS, opened]; omega
theorem begins_lo {t u : List Int} {S : St} (hb : ∀ x ∈ t, 0 ≤ x ∧ x < 256) (h40 : nx t S.pos = 40) (h : Alike t u (stopS (begins t S))) : begins u S = begins t S := by
  have e1 := h (S.pos + 1) (begins_mono t S)
  have h0 := nx_lt (t := t) (i := S.pos) (by omega)
  unfold begins at h ⊢
  rw [← e1]
  by_cases c1 : nx t (S.pos + 1) = 63
  · have h1 := nx_lt (t := t) (i := S.pos + 1) (by omega)
    rw [if_pos c1] at h
    rw [if_pos c1, if_pos c1]
    have e2 : nx t (S.pos + 2) = nx u (S.pos + 2) := by
      refine h (S.pos + 2) ?_
      split
      · have hm := nameP_mono t (S.pos + 3)
        cases hz : nameP t (S.pos + 3) with
        | error k => rw [hz] at hm; simp only [stop] at hm; simp only [stopS]; omega
        | ok y => obtain ⟨nm, k⟩ := y; rw [hz] at hm; simp only [stop] at hm; simp only [stopS, opened]; omega
      · simp only
        have h1 : S.pos + 2 ≤ (if nx t (S.pos + 2) = 105 then S.pos + 3 else S.pos + 2) := by split <;> omega
        generalize (if nx t (S.pos + 2) = 105 then S.pos + 3 else S.pos + 2) = i1 at h1 ⊢
        have h2 : i1 ≤ (if nx t i1 = 115 then i1 + 1 else i1) := by split <;> omega
        generalize (if nx t i1 = 115 then i1 + 1 else i1) = i2 at h2 ⊢
        split <;> simp only [stopS, opened] <;> omega
    rw [← e2]
    by_cases c2 : nx t (S.pos + 2) = 80
    · have h2 := nx_lt (t := t) (i := S.pos + 2) (by omega)
      rw [if_pos c2] at h
      rw [if_pos c2, if_pos c2]
      have hk : Alike t u (stop (nameP t (S.pos + 3))) := by
        cases hz : nameP t (S.pos + 3) with
        | error k => rw [hz] at h; exact h
        | ok y => obtain ⟨nm, k⟩ := y; rw [hz] at h; exact h
      rw [nameP_lo hb (by omega) hk]
    · rw [if_neg c2] at h
      rw [if_neg c2, if_neg c2]
      simp only at h ⊢
      generalize (if nx t (S.pos + 2) = 105 then S.pos + 3 else S.pos + 2) = i1 at h ⊢
      have e3 : nx t i1 = nx u i1 := by
        refine h i1 ?_
        have h2 : i1 ≤ (if nx t i1 = 115 then i1 + 1 else i1) := by split <;> omega
        generalize (if nx t i1 = 115 then i1 + 1 else i1) = i2 at h2 ⊢
        split <;> simp only [stopS, opened] <;> omega
      rw [← e3]
      generalize (if nx t i1 = 115 then i1 + 1 else i1) = i2 at h ⊢
      have e4 : nx t i2 = nx u i2 := by
        refine h i2 ?_
        split <;> simp only [stopS, opened] <;> omega
      rw [← e4]
  · rw [if_neg c1, if_neg c1]
end Go.Proofs.YtenanfkmmkmolaaGreatDoor
/- HELPERS: a byte that cannot stand stays so, whatever stands behind it. -/
namespace Go.Proofs.YtenanfkmmkmolaaGreatDoor
open Go.RowKit Go.Mx
set_option linter.unusedVariables false
set_option linter.unusedSimpArgs false
theorem ends_mono (t : List Int) (S : St) : S.pos ≤ stopS (ends t S) ∧ (S.low ≠ [] → S.pos + 1 ≤ stopS (ends t S)) := by
  unfold ends
  cases hl : S.low.getLast? with
  | none => exact ⟨by simp [stopS], fun h => by rw [List.getLast?_eq_none_iff] at hl; exact absurd hl h⟩
  | some l =>
    simp only [addRep_stop]
    have := counted_mono t S.top.tree (S.pos + 1) S.wr
    exact ⟨by omega, fun _ => this⟩
theorem ends_le {t : List Int} {S : St} (h : nx t S.pos = 41) : stopS (ends t S) ≤ t.length := by
  have h0 := nx_lt (t := t) (i := S.pos) (by omega)
  unfold ends
  cases hl : S.low.getLast? with
  | none => simp only [stopS]; omega
  | some l =>
    simp only [addRep_stop]
    exact counted_le (by omega)
theorem ends_lo {t u : List Int} {S : St} (h : Alike t u (stopS (ends t S))) : ends u S = ends t S := by
  unfold ends at h ⊢
  cases hl : S.low.getLast? with
  | none => rfl
  | some l =>
    rw [hl] at h
    exact addRep_lo h
theorem atom_pos {t : List Int} {fold all : Bool} {i : Nat} {wr : Wr} {x : Tree} {k : Nat} {wr2 : Wr} (h : atomP t fold all i wr = .ok (x, k, wr2)) : i < k := by
  unfold atomP at h
  split at h
  · simp at h; omega
  split at h
  · simp at h; omega
  split at h
  · simp at h; omega
  split at h
  · rename_i h4
    have hm := (classP_stop t fold i wr h4).2
    cases hz : classP t fold i wr with
    | error j => rw [hz] at h; cases h
    | ok y =>
      obtain ⟨L, j, wr3⟩ := y
      rw [hz] at h hm
      simp only [stop3] at hm
      simp at h
      omega
  split at h
  · split at h
    · cases hL : setL (t.getD (i + 1) 0) with
      | some L => rw [hL] at h; simp at h; omega
      | none =>
        rw [hL] at h
        simp only at h
        unfold single2 at h
        cases hs : single t i with
        | error j => rw [hs] at h; cases h
        | ok y =>
          obtain ⟨c, j⟩ := y
          rw [hs] at h
          have := single_bd hs
          simp only at h
          split at h
          · rename_i heq
            split at heq
            · cases heq
            · cases heq
          · rename_i heq
            split at heq
            · simp at heq h; omega
            · simp at heq h; omega
    · simp at h; omega
  · cases hz : runeBut t notPlain i with
    | error j => rw [hz] at h; cases h
    | ok y =>
      obtain ⟨c, j⟩ := y
      rw [hz] at h
      have := (runeBut_bd hz).1
      simp at h
      omega
theorem round_mono (t : List Int) (S : St) : S.pos ≤ stopS (round t S) := by
  unfold round
  split
  · simp [stopS]
  split
  · have := begins_mono t S; omega
  split
  · exact (ends_mono t S).1
  · have hm := (atom_mono t S.top.fold S.top.all S.pos S.wr).1
    cases hz : atomP t S.top.fold S.top.all S.pos S.wr with
    | error k => rw [hz] at hm; exact hm
    | ok y =>
      obtain ⟨x, k, wr2⟩ := y
      rw [hz] at hm
      simp only [stop3] at hm
      simp only [addRep_stop]
      have := counted_mono t x k wr2
      omega
theorem round_pos {t : List Int} {S S2 : St} (h : round t S = .ok S2) : S.pos < S2.pos := by
  unfold round at h
  split at h
  · simp at h; rw [← h]; simp
  split at h
  · have := begins_mono t S
    rw [h] at this
    simp only [stopS] at this
    omega
  split at h
  · have hm := (ends_mono t S).2
    have hne : S.low ≠ [] := by
      intro e
      unfold ends at h
      rw [e] at h
      simp at h
    have := hm hne
    rw [h] at this
    simp only [stopS] at this
    omega
  · cases hz : atomP t S.top.fold S.top.all S.pos S.wr with
    | error k => rw [hz] at h; cases h
    | ok y =>
      obtain ⟨x, k, wr2⟩ := y
      rw [hz] at h
      have h1 := atom_pos hz
      have h2 := counted_mono t x k wr2
      have h3 := addRep_stop t x { S with pos := k, wr := wr2 }
      simp only at h h3
      rw [h] at h3
      simp only [stopS] at h3
      omega
theorem round_le {t : List Int} {S : St} (h : S.pos < t.length) : stopS (round t S) ≤ t.length := by
  unfold round
  split
  · simp only [stopS]; omega
  split
  · rename_i h40; exact begins_le h40
  split
  · rename_i h41; exact ends_le h41
  · have e := atom_le (fold := S.top.fold) (all := S.top.all) (wr := S.wr) h
    cases hz : atomP t S.top.fold S.top.all S.pos S.wr with
    | error k => rw [hz] at e; exact e
    | ok y =>
      obtain ⟨x, k, wr2⟩ := y
      rw [hz] at e
      simp only [addRep_stop]
      exact counted_le e
theorem round_lo {t u : List Int} {S : St} (hb : ∀ x ∈ t, 0 ≤ x ∧ x < 256) (hu : ∀ x ∈ u, 0 ≤ x ∧ x < 256) (h : Alike t u (stopS (round t S))) : round u S = round t S := by
  have e := h S.pos (round_mono t S)
  unfold round at h ⊢
  rw [← e]
  by_cases c1 : nx t S.pos = 124
  · rw [if_pos c1, if_pos c1]
  rw [if_neg c1] at h
  rw [if_neg c1, if_neg c1]
  by_cases c2 : nx t S.pos = 40
  · rw [if_pos c2] at h
    rw [if_pos c2, if_pos c2]
    exact begins_lo hb c2 h
  rw [if_neg c2] at h
  rw [if_neg c2, if_neg c2]
  by_cases c3 : nx t S.pos = 41
  · rw [if_pos c3] at h
    rw [if_pos c3, if_pos c3]
    exact ends_lo h
  rw [if_neg c3] at h
  rw [if_neg c3, if_neg c3]
  have key : Alike t u (stop3 (atomP t S.top.fold S.top.all S.pos S.wr)) := by
    cases hz : atomP t S.top.fold S.top.all S.pos S.wr with
    | error k => rw [hz] at h; exact h
    | ok y =>
      obtain ⟨x, k, wr2⟩ := y
      rw [hz] at h
      simp only [addRep_stop] at h
      exact h.le (counted_mono t x k wr2)
  rw [atom_lo hb hu key]
  cases hz : atomP t S.top.fold S.top.all S.pos S.wr with
  | error k => rfl
  | ok y =>
    obtain ⟨x, k, wr2⟩ := y
    rw [hz] at h
    exact addRep_lo h
theorem rounds_err (t : List Int) : ∀ (f : Nat) (S : St) (k : Nat), S.pos ≤ t.length → rounds t f S = .error k → S.pos ≤ k ∧ k ≤ t.length := by
  intro f
  induction f with
  | zero => intro S k _ h; simp [rounds] at h
  | succ f ih =>
    intro S k hS h
    unfold rounds at h
    split at h
    · cases h
    · rename_i hne
      have hm := round_mono t S
      have hl := round_le (t := t) (S := S) (by omega)
      cases hr : round t S with
      | error j =>
        rw [hr] at h hm hl
        simp at h
        simp only [stopS] at hm hl
        omega
      | ok S2 =>
        rw [hr] at h hm hl
        simp only [stopS] at hm hl
        have := ih S2 k hl h
        omega
theorem rounds_lo {t u : List Int} (hb : ∀ x ∈ t, 0 ≤ x ∧ x < 256) (hu : ∀ x ∈ u, 0 ≤ x ∧ x < 256) : ∀ (f f' : Nat) (S : St) (k : Nat), S.pos ≤ t.length → rounds t f S = .error k → Alike t u k → k + 1 ≤ S.pos + f' → rounds u f' S = .error k := by
  intro f
  induction f with
  | zero => intro f' S k _ h; simp [rounds] at h
  | succ f ih =>
    intro f' S k hS h hA hf
    have hk := rounds_err t (f + 1) S k hS h
    obtain ⟨f', rfl⟩ : ∃ g, f' = g + 1 := ⟨f' - 1, by omega⟩
    unfold rounds at h ⊢
    split at h
    · cases h
    · rename_i hne
      have hlt : S.pos < t.length := by omega
      have hun : ¬ S.pos = u.length := by
        intro e
        have e2 := hA S.pos hk.1
        rw [nx_end (t := u) (by omega)] at e2
        have := nx_byte hb hlt
        omega
      rw [if_neg hun]
      cases hr : round t S with
      | error j =>
        rw [hr] at h
        simp at h
        subst h
        rw [round_lo hb hu (by rw [hr]; exact hA), hr]
      | ok S2 =>
        rw [hr] at h
        have hl := round_le (t := t) (S := S) hlt
        rw [hr] at hl
        simp only [stopS] at hl
        have hp := round_pos hr
        have hk2 := rounds_err t f S2 k hl h
        rw [round_lo hb hu (by rw [hr]; exact hA.le hk2.1), hr]
        exact ih f' S2 k hl h hA (by omega)
theorem same_text {t u : List Int} (hb : ∀ x ∈ t, 0 ≤ x ∧ x < 256) (hu : ∀ x ∈ u, 0 ≤ x ∧ x < 256) (h : Alike t u t.length) : u = t := by
  have h1 := len_al hb (Nat.le_refl _) h
  have h2 : u.length ≤ t.length := by
    rcases Nat.lt_or_ge t.length u.length with hl | hl
    · have e := h t.length (Nat.le_refl _)
      rw [nx_end (Nat.le_refl t.length)] at e
      have := nx_byte hu hl
      omega
    · exact hl
  apply List.ext_getElem (by omega)
  intro j a b
  have e := h j (by omega)
  rw [nx_in b, nx_in a] at e
  exact e.symm
theorem rounds_pos (t : List Int) : ∀ (f : Nat) (S S' : St), S.pos ≤ t.length → t.length + 1 ≤ S.pos + f → rounds t f S = .ok S' → S'.pos = t.length := by
  intro f
  induction f with
  | zero => intro S S' h1 h2 _; omega
  | succ f ih =>
    intro S S' h1 h2 h
    unfold rounds at h
    split at h
    · simp at h; subst h; assumption
    · have hl := round_le (t := t) (S := S) (by omega)
      cases hr : round t S with
      | error j => rw [hr] at h; cases h
      | ok S2 =>
        rw [hr] at h hl
        simp only [stopS] at hl
        have hp := round_pos hr
        exact ih S2 S' hl (by omega) h
/-- a place where a text is no pattern lies within it, and whatever stands behind it changes nothing -/
theorem dead_stays {t : List Int} {k : Nat} (hb : ∀ x ∈ t, 0 ≤ x ∧ x < 256) (h : patternP t = .error k) : k ≤ t.length ∧ ∀ u : List Int, (∀ x ∈ u, 0 ≤ x ∧ x < 256) → Alike t u k → patternP u = .error k := by
  unfold patternP at h
  cases hr : rounds t (t.length + 1) S0 with
  | error j =>
    rw [hr] at h
    simp at h
    subst h
    have hk := rounds_err t _ S0 j (by simp [S0]) hr
    refine ⟨hk.2, fun u hu hA => ?_⟩
    have hlu := len_al hb hk.2 hA
    unfold patternP
    rw [rounds_lo hb hu _ (u.length + 1) S0 j (by simp [S0]) hr hA (by simp [S0]; omega)]
  | ok S =>
    rw [hr] at h
    simp only at h
    split at h
    · cases h
    · rename_i hne
      simp at h
      have hp := rounds_pos t _ S0 S (by simp [S0]) (by simp [S0]) hr
      subst h
      refine ⟨by omega, fun u hu hA => ?_⟩
      rw [hp] at hA ⊢
      rw [same_text hb hu hA]
      unfold patternP
      rw [hr]
      simp only
      rw [if_neg hne, hp]
end Go.Proofs.YtenanfkmmkmolaaGreatDoor
/- HELPERS: a reader with all that it has in memory. -/
namespace Go.Proofs.YtenanfkmmkmolaaGreatDoor
open Go.RowKit Go.Mx
open Go.Maps (Keyed string_keyed)
set_option linter.unusedVariables false
set_option linter.unusedSimpArgs false
/-- a reader: its levels in their row, its names, all apart -/
structure RX (N : Nat) (w : World) (g : Nat) (t : List Int) (S : St) (c : Cs) (ob cap : Nat) (c1 c2 : List Value) (G1 F1 : List Nat) (mb nn : Nat) (D : DataW Unit) : Prop where
  rw : RW w g t S.pos c S.wr
  ov : c.ov = .slice (some ⟨ob, 0, none⟩) (S.low.length + 1) cap
  row : w.ownsRow N 85 6 (.slice (some ⟨ob, 0, none⟩) (S.low.length + 1) cap) (S.low.length + 1) (c1 ++ c2)
  low : LVs N w c1 S.low G1
  top : LV N w c2 S.top F1
  gv : c.gv = .int .i64 (S.groups : Int)
  mv : c.mv = .map (some mb)
  map : w.ownsMap Tryz.prog 9 unitElem mb nn D
  nms : ∀ nm : ByteArray, Maps.has D (.string nm.data.toList) = hasName S.names nm
  nd : (G1 ++ F1).Nodup
  ap : ∀ k ∈ G1 ++ F1, k ≠ g ∧ k ≠ ob ∧ k ≠ mb
  og : ob ≠ g
  mg : mb ≠ g
  mo : mb ≠ ob
  tv : ∀ b, c.tv.ownBlock = some b → b ≠ ob ∧ b ≠ mb ∧ b ∉ G1 ++ F1
  n4 : 4 ≤ N
  ng : N ≤ g
  nm : N ≤ mb
  b1 : S.low.length ≤ S.pos
  b2 : ∀ l ∈ S.low, l.reps.length ≤ S.pos ∧ l.cats.length ≤ S.pos
  b3 : S.top.reps.length ≤ S.pos ∧ S.top.cats.length ≤ S.pos
  b4 : S.groups ≤ S.pos
  b5 : nn ≤ S.pos
/-- a block that is none of the reader's -/
structure Ap (b : Nat) (w : World) (g ob mb : Nat) (G1 F1 : List Nat) : Prop where
  lt : b < w.heap.size
  g : b ≠ g
  ob : b ≠ ob
  mb : b ≠ mb
  F : b ∉ G1 ++ F1
theorem Ap.re {b : Nat} {w w' : World} {g ob mb : Nat} {G1 F1 F1' Fx : List Nat} (h : Ap b w g ob mb G1 F1) (hz : w.heap.size ≤ w'.heap.size) (hs : ∀ j ∈ F1', j ∈ F1 ∨ j ∈ Fx ∨ w.heap.size ≤ j) (hx : b ∉ Fx) : Ap b w' g ob mb G1 F1' :=
  ⟨Nat.lt_of_lt_of_le h.lt hz, h.g, h.ob, h.mb, fun hm => by
    rcases List.mem_append.1 hm with hm | hm
    · exact h.F (List.mem_append_left _ hm)
    · rcases hs b hm with h1 | h1 | h1
      · exact h.F (List.mem_append_right _ h1)
      · exact hx h1
      · have := h.lt
        omega⟩
def RS (N b : Nat) (w : World) (g : Nat) (t : List Int) (S : St) : Prop := ∃ c ob cap c1 c2 G1 F1 mb nn D, RX N w g t S c ob cap c1 c2 G1 F1 mb nn D ∧ Ap b w g ob mb G1 F1
theorem map_kept {w w' : World} {mb n : Nat} {D : DataW Unit} (h : w.ownsMap Tryz.prog 9 unitElem mb n D) (hk : w'.heap[mb]? = w.heap[mb]?) : w'.ownsMap Tryz.prog 9 unitElem mb n D := by
  obtain ⟨es, cl, h1, h2⟩ := h
  exact ⟨es, cl, hk.trans h1, h2⟩
theorem map_lt {w : World} {mb n : Nat} {D : DataW Unit} (h : w.ownsMap Tryz.prog 9 unitElem mb n D) : mb < w.heap.size := by
  obtain ⟨es, cl, h1, h2⟩ := h
  exact (Array.getElem?_eq_some_iff.1 h1).1
section
variable {N : Nat} {w : World} {g : Nat} {t : List Int} {S : St} {c : Cs} {ob cap : Nat} {c1 c2 : List Value} {G1 F1 : List Nat} {mb nn : Nat} {D : DataW Unit}
theorem RX.hN (h : RX N w g t S c ob cap c1 c2 G1 F1 mb nn D) : N ≤ w.heap.size := Nat.le_trans h.ng (Nat.le_of_lt h.rw.rd.gl)
theorem RX.obl (h : RX N w g t S c ob cap c1 c2 G1 F1 mb nn D) : N ≤ ob ∧ ob < w.heap.size := h.row.lt ob rfl
theorem RX.hp (h : RX N w g t S c ob cap c1 c2 G1 F1 mb nn D) : S.pos ≤ t.length ∧ t.length ≤ 65536 := ⟨h.rw.rd.le, h.rw.rd.bd⟩
/-- the innermost level has turned, the reader has moved -/
theorem RX.retop (h : RX N w g t S c ob cap c1 c2 G1 F1 mb nn D) {w' : World} {k : Nat} {wr : Wr} {top : Lev} {c2' : List Value} {F1' Fx : List Nat} (hrw : RW w' g t k c wr) (hrow : w'.ownsRow N 85 6 (.slice (some ⟨ob, 0, none⟩) (S.low.length + 1) cap) (S.low.length + 1) (c1 ++ c2'))
    (htop : LV N w' c2' top F1') (hnd : F1'.Nodup) (hs : ∀ j ∈ F1', j ∈ F1 ∨ j ∈ Fx ∨ w.heap.size ≤ j) (hx : ∀ j ∈ Fx, j ≠ g ∧ j ≠ ob ∧ j ≠ mb ∧ j ∉ G1 ∧ ∀ b, c.tv.ownBlock = some b → j ≠ b) (hG : ∀ j ∈ G1, w'.heap[j]? = w.heap[j]?) (hM : w'.heap[mb]? = w.heap[mb]?) (htl : ∀ b, c.tv.ownBlock = some b → b < w.heap.size) (hk : S.pos ≤ k) (hb : top.reps.length ≤ k ∧ top.cats.length ≤ k) :
    RX N w' g t { S with pos := k, top := top, wr := wr } c ob cap c1 c2' G1 F1' mb nn D := by
  have hgl := h.rw.rd.gl
  have hobl := h.obl.2
  have hml := map_lt h.map
  have hGl : ∀ j ∈ G1, j < w.heap.size := fun j hj => (h.low.low j hj).2
  have hnd0 := List.nodup_append.1 h.nd
  refine ⟨hrw, h.ov, hrow, h.low.kept hG, htop, h.gv, h.mv, map_kept h.map hM, h.nms, ?_, ?_, h.og, h.mg, h.mo, ?_, h.n4, h.ng, h.nm, Nat.le_trans h.b1 hk, fun l hl => ?_, hb, Nat.le_trans h.b4 hk, Nat.le_trans h.b5 hk⟩
  · rw [List.nodup_append]
    refine ⟨hnd0.1, hnd, fun a ha b hb' hab => ?_⟩
    subst hab
    rcases hs a hb' with h1 | h1 | h1
    · exact hnd0.2.2 a ha a h1 rfl
    · exact (hx a h1).2.2.2.1 ha
    · have := hGl a ha
      omega
  · intro j hj
    rcases List.mem_append.1 hj with hj | hj
    · exact h.ap j (List.mem_append_left _ hj)
    · rcases hs j hj with h1 | h1 | h1
      · exact h.ap j (List.mem_append_right _ h1)
      · exact ⟨(hx j h1).1, (hx j h1).2.1, (hx j h1).2.2.1⟩
      · exact ⟨by omega, by omega, by omega⟩
  · intro b hb'
    refine ⟨(h.tv b hb').1, (h.tv b hb').2.1, fun hm => ?_⟩
    rcases List.mem_append.1 hm with hm | hm
    · exact (h.tv b hb').2.2 (List.mem_append_left _ hm)
    · rcases hs b hm with h1 | h1 | h1
      · exact (h.tv b hb').2.2 (List.mem_append_right _ h1)
      · exact (hx b h1).2.2.2.2 b hb' rfl
      · have := htl b hb'
        omega
  · exact ⟨Nat.le_trans (h.b2 l hl).1 hk, Nat.le_trans (h.b2 l hl).2 hk⟩
/-- the text's block is an old one -/
theorem RX.tvl (h : RX N w g t S c ob cap c1 c2 G1 F1 mb nn D) (ht : 0 < t.length) : ∀ b, c.tv.ownBlock = some b → b < w.heap.size ∧ b ≠ g := by
  intro b hb
  obtain ⟨ad, cp, e1, _, _, e4⟩ := h.rw.rd.txt
  obtain ⟨b', rfl, hg, hc⟩ := e4 0 ht
  rw [e1] at hb
  simp [Value.ownBlock] at hb
  subst hb
  exact ⟨cell_lt hc, hg⟩
/-- the reader alone has moved -/
theorem RX.mov (h : RX N w g t S c ob cap c1 c2 G1 F1 mb nn D) {w' : World} {k : Nat} {wr : Wr} (hm : Mo w w' g) (hrw : RW w' g t k c wr) (hk : S.pos ≤ k) : RX N w' g t { S with pos := k, wr := wr } c ob cap c1 c2 G1 F1 mb nn D := by
  have hG : ∀ j ∈ G1 ++ F1, j < w.heap.size := fun j hj => by
    rcases List.mem_append.1 hj with hj | hj
    · exact (h.low.low j hj).2
    · exact (h.top.low j hj).2
  have hkk : ∀ j ∈ G1 ++ F1, w'.heap[j]? = w.heap[j]? := fun j hj => hm.block j (hG j hj) (h.ap j hj).1
  exact ⟨hrw, h.ov, row_kept h.row fun b hb => by simp [Value.ownBlock] at hb; subst hb; exact hm.block ob h.obl.2 h.og, h.low.kept fun j hj => hkk j (List.mem_append_left _ hj), h.top.kept fun j hj => hkk j (List.mem_append_right _ hj), h.gv, h.mv, map_kept h.map (hm.block mb (map_lt h.map) h.mg), h.nms, h.nd, h.ap, h.og, h.mg, h.mo, h.tv, h.n4, h.ng, h.nm, Nat.le_trans h.b1 hk, fun l hl => ⟨Nat.le_trans (h.b2 l hl).1 hk, Nat.le_trans (h.b2 l hl).2 hk⟩, ⟨Nat.le_trans h.b3.1 hk, Nat.le_trans h.b3.2 hk⟩, Nat.le_trans h.b4 hk, Nat.le_trans h.b5 hk⟩
/-- the flags of the innermost level -/
theorem RX.fl (h : RX N w g t S c ob cap c1 c2 G1 F1 mb nn D) : Fl w g c S.top.fold S.top.all := by
  obtain ⟨cv, rv, cc, rc, Fc, Fr', e, _⟩ := h.top
  obtain ⟨cur, hc⟩ := row_some h.row
  have hb := row_blk h.row hc
  have hl := h.low.len
  have hp := h.hp
  have hb1 := h.b1
  have a2 := row_at h.row hc (S.low.length * 6 + 2) (by omega)
  have a3 := row_at h.row hc (S.low.length * 6 + 3) (by omega)
  rw [List.getElem?_append_right (by omega), hl, e] at a2 a3
  simp [Nat.add_sub_cancel_left] at a2 a3
  exact ⟨ob, S.low.length, cap, h.ov, h.og, hb.2.1, by omega, (Joins.cell_of_block hc _).trans a2, (Joins.cell_of_block hc _).trans a3⟩
/-- the cells of the innermost level -/
theorem RX.topAt (h : RX N w g t S c ob cap c1 c2 G1 F1 mb nn D) {cur : Array Value} (hc : w.heap[ob]? = some (.cells cur 85 (0, 0))) : ∀ j, j < 6 → cur[S.low.length * 6 + j]? = c2[j]? := by
  intro j hj
  have hl := h.low.len
  rw [row_at h.row hc (S.low.length * 6 + j) (by omega), List.getElem?_append_right (by omega), hl, Nat.add_sub_cancel_left]
end
/-- setting a cell of the last level -/
theorem set_last {c1 c2 : List Value} {n j : Nat} {v : Value} (h : c1.length = n * 6) : (c1 ++ c2).set (n * 6 + j) v = c1 ++ c2.set j v := by
  rw [List.set_append_right _ _ (by omega), h, Nat.add_sub_cancel_left]
/-- a bar: the innermost level's cat is over -/
theorem bar_rx {N : Nat} {w : World} {g : Nat} {t : List Int} {S : St} {c : Cs} {ob cap : Nat} {c1 c2 : List Value} {G1 F1 : List Nat} {mb nn : Nat} {D : DataW Unit} (h : RX N w g t S c ob cap c1 c2 G1 F1 mb nn D) (hi : S.top.cats.length + 1 ≤ S.pos) (ht : 0 < t.length) {b : Nat} (ha : Ap b w g ob mb G1 F1) :
    Calls Tryz.prog 42 #[.pointer (some ⟨ob, S.low.length * 6, none⟩)] w fun e w' => e = .returned (.tuple #[]) ∧ Below N w w' ∧ w'.heap[b]? = w.heap[b]? ∧ RS N b w' g t { S with top := S.top.endCat } := by
  obtain ⟨cur, hc⟩ := row_some h.row
  have hl := h.low.len
  have hp := h.hp
  have hb3 := h.b3
  have hnd0 := List.nodup_append.1 h.nd
  have htl := h.tvl ht
  refine (endCat_lv (hid hc) (h.topAt hc) h.top hnd0.2.1 (fun hm => (h.ap ob (List.mem_append_right _ hm)).2.1 rfl) (by omega) h.hN).mono ?_
  rintro e w' ⟨rfl, nv, F', hL, hn, hs, ho, hb, hfr⟩
  have hF : ∀ k ∈ ob :: F1, N ≤ k := fun k hk => by
    rcases List.mem_cons.1 hk with rfl | hk
    · exact h.obl.1
    · exact (h.top.low k hk).1
  have hkp : ∀ k, k < w.heap.size → k ≠ ob → k ∉ F1 → w'.heap[k]? = w.heap[k]? := fun k h1 h2 h3 => hfr.block k h1 (by simp only [List.mem_cons, not_or]; exact ⟨h2, h3⟩)
  refine ⟨rfl, hfr.below hF h.hN, hkp b ha.lt ha.ob (fun hm => ha.F (List.mem_append_right _ hm)), c, ob, cap, c1, [nv, .slice none 0 0, .bool S.top.fold, .bool S.top.all, .int .i64 S.top.index, .string S.top.name], G1, F', mb, nn, D, ?_, ha.re (Fx := []) hfr.size (fun j hj => (hs j hj).imp_right .inr) (by simp)⟩
  have hR : RW w' g t S.pos c S.wr := h.rw.fr hfr (by simp only [List.mem_cons, not_or]; exact ⟨fun e => h.og e.symm, fun hm => (h.ap g (List.mem_append_right _ hm)).1 rfl⟩) (fun b hb' => by simp only [List.mem_cons, not_or]; exact ⟨(h.tv b hb').1, fun hm => (h.tv b hb').2.2 (List.mem_append_right _ hm)⟩) (fun k hk => Nat.le_trans h.n4 (hF k hk))
  have hrow : w'.ownsRow N 85 6 (.slice (some ⟨ob, 0, none⟩) (S.low.length + 1) cap) (S.low.length + 1) (c1 ++ [nv, .slice none 0 0, .bool S.top.fold, .bool S.top.all, .int .i64 S.top.index, .string S.top.name]) := by
    obtain ⟨cv, rv, cc, rc, Fc, Fr', e, _⟩ := h.top
    have r1 := row_put (w' := w.setCell ⟨ob, S.low.length * 6, none⟩ nv) h.row hc (Joins.block_setCell hc nv)
    have r2 := row_put (w' := w') r1 (Joins.block_setCell hc nv) hb
    have e1 := set_last (c1 := c1) (c2 := c2) (n := S.low.length) (j := 0) (v := nv) (by omega)
    rw [Nat.add_zero] at e1
    rw [e1, set_last (by omega), e] at r2
    exact r2
  have := h.retop (k := S.pos) (wr := S.wr) (top := S.top.endCat) (Fx := []) hR hrow hL hn (fun j hj => (hs j hj).imp_right .inr) (fun j hj => by cases hj) (fun j hj => hkp j (h.low.low j hj).2 (h.ap j (List.mem_append_left _ hj)).2.1 (fun hm => hnd0.2.2 j hj j hm rfl)) (hkp mb (map_lt h.map) h.mo (fun hm => (h.ap mb (List.mem_append_right _ hm)).2.2 rfl)) (fun b hb' => (htl b hb').1) (Nat.le_refl _) (by simp [Lev.endCat]; omega)
  exact this
end Go.Proofs.YtenanfkmmkmolaaGreatDoor
/- HELPERS: a rep is put into the innermost level of a reader. -/
namespace Go.Proofs.YtenanfkmmkmolaaGreatDoor
open Go.RowKit Go.Mx
set_option linter.unusedVariables false
set_option linter.unusedSimpArgs false
/-- how a call ends that reads on -/
def EndR (N b : Nat) (w w' : World) (g : Nat) (t : List Int) (e : Ending) : Except Nat St → Prop
  | .error k => e = Gave k ∧ Below N w w'
  | .ok S => e = .returned (.tuple #[]) ∧ Below N w w' ∧ w'.heap[b]? = w.heap[b]? ∧ RS N b w' g t S
theorem rep_nd {cvB rvB nvB : Option Nat} {Fc Fr F2 : List Nat} {z : Nat} (h : (cvB.toList ++ (rvB.toList ++ (Fc ++ Fr))).Nodup) (h2 : F2.Nodup) (hd : ∀ k ∈ F2, k ∉ cvB.toList ++ (rvB.toList ++ (Fc ++ Fr))) (hlow : ∀ k ∈ cvB.toList ++ (rvB.toList ++ (Fc ++ Fr)), k < z) (hl2 : ∀ k ∈ F2, k < z) (hn : nvB = rvB ∨ ∃ b, nvB = some b ∧ z ≤ b) :
    (cvB.toList ++ (nvB.toList ++ (Fc ++ (Fr ++ F2)))).Nodup := by
  refine nd_gen h (fun a ha => ?_) (fun a ha => ?_)
  · have h0 : F2.count a = 0 := List.count_eq_zero.2 fun hm => hd a hm ha
    have hz := hlow a ha
    have hnv : nvB.toList.count a ≤ rvB.toList.count a := by
      rcases hn with rfl | ⟨b, rfl, hb⟩
      · exact Nat.le_refl _
      · have : (some b).toList.count a = 0 := List.count_eq_zero.2 (by simp; omega)
        omega
    simp only [List.count_append]
    omega
  · have h0 := List.count_eq_zero.2 ha
    simp only [List.count_append] at h0 ⊢
    have h2' := List.nodup_iff_count.1 h2 a
    rcases hn with rfl | ⟨b, rfl, hb⟩
    · omega
    · by_cases hab : a = b
      · subst hab
        have : F2.count a = 0 := List.count_eq_zero.2 fun hm => by have := hl2 a hm; omega
        simp only [Option.toList_some, List.count_singleton_self]
        omega
      · have : (some b).toList.count a = 0 := List.count_eq_zero.2 (by simp; exact hab)
        omega
set_option maxHeartbeats 1000000 in
theorem addRep_rx {N : Nat} {w : World} {g : Nat} {t : List Int} {S : St} {c : Cs} {ob cap : Nat} {c1 c2 : List Value} {G1 F1 : List Nat} {mb nn : Nat} {D : DataW Unit} (h : RX N w g t S c ob cap c1 c2 G1 F1 mb nn D) {x : Tree} {cells : List Value} {Fx : List Nat} (hT : TV N w cells x Fx) (hFx : Fx.Nodup)
    (hap : ∀ j ∈ Fx, j ≠ g ∧ j ≠ ob ∧ j ≠ mb ∧ j ∉ G1 ++ F1 ∧ ∀ b, c.tv.ownBlock = some b → j ≠ b) (hb : S.top.reps.length + 1 ≤ S.pos) (ht : 0 < t.length) {bx : Nat} (ha : Ap bx w g ob mb G1 F1) (hbx : bx ∉ Fx) :
    Calls Tryz.prog 45 #[.pointer (some ⟨g, 0, none⟩), .agg cells.toArray] w fun e w' => EndR N bx w w' g t e (addRep t x S) := by
  have hgF : g ∉ Fx := fun hm => (hap g hm).1 rfl
  unfold addRep
  cases hz : counted t x S.pos S.wr with
  | error k =>
    refine (addRep45_e (hid h.rw) (hid hT) (hid hFx) (hid hgF) h.hN hz).mono ?_
    rintro e w' ⟨rfl, hm⟩
    exact ⟨rfl, hm.below h.ng h.hN⟩
  | ok r =>
    obtain ⟨y, k, wr2⟩ := r
    obtain ⟨cur, hc⟩ := row_some h.row
    have hl := h.low.len
    have hp := h.hp
    have hb1 := h.b1
    have hb3 := h.b3
    have hnd0 := List.nodup_append.1 h.nd
    have htl := h.tvl ht
    have hblk := row_blk h.row hc
    have htop := h.top
    have hAt := h.topAt hc
    obtain ⟨cv, rv, cc, rc, Fc, Fr', e, q2, q3, q4, q5, eF⟩ := htop
    have hrv : cur[S.low.length * 6 + 1]? = some rv := by rw [hAt 1 (by decide), e]; rfl
    have rvF : ∀ b, rv.ownBlock = some b → b ∈ F1 := fun b hb => by rw [eF]; simp [hb]
    have cvF : ∀ b, cv.ownBlock = some b → b ∈ F1 := fun b hb => by rw [eF]; simp [hb]
    have FcF : ∀ b ∈ Fc, b ∈ F1 := fun b hb => by rw [eF]; simp [hb]
    have FrF : ∀ b ∈ Fr', b ∈ F1 := fun b hb => by rw [eF]; simp [hb]
    have hF1 : ∀ b ∈ F1, b ≠ g ∧ b ≠ ob ∧ b ≠ mb ∧ b < w.heap.size ∧ b ∉ Fx := fun b hb => ⟨(h.ap b (List.mem_append_right _ hb)).1, (h.ap b (List.mem_append_right _ hb)).2.1, (h.ap b (List.mem_append_right _ hb)).2.2, (h.top.low b hb).2, fun hm => (hap b hm).2.2.2.1 (List.mem_append_right _ hb)⟩
    have hnd1 : (cv.ownBlock.toList ++ (rv.ownBlock.toList ++ (Fc ++ Fr'))).Nodup := by rw [← eF]; exact hnd0.2.1
    have hrvn : ∀ b, rv.ownBlock = some b → cv.ownBlock ≠ some b ∧ b ∉ Fc ∧ b ∉ Fr' := by
      intro b hb
      have hcnt := List.nodup_iff_count.1 hnd1 b
      simp only [List.count_append, hb, Option.toList_some, List.count_singleton_self] at hcnt
      refine ⟨fun hcv => ?_, fun hm => ?_, fun hm => ?_⟩
      · rw [hcv] at hcnt; simp only [Option.toList_some, List.count_singleton_self] at hcnt; omega
      · have := List.count_pos_iff.2 hm; omega
      · have := List.count_pos_iff.2 hm; omega
    refine (addRep45_o (hid h.rw) (hid hT) (hid hFx) (hid hgF) h.hN hz (ob := ob) (n := S.low.length) (cap := cap) (m := S.top.reps.length) (cur := cur) (rv := rv) (xs := rc) h.ov h.og hblk.2.1 (by omega) (hid hc) hrv (hid q4) (by omega) (fun hm => (hF1 g (rvF g hm)).1 rfl) h.n4 h.obl.1 (hid fun hm => (hap ob hm).2.1 rfl) (hid fun b hb hm => (hF1 b (rvF b hb)).2.2.2.2 hm) (hid fun b hb => ⟨(h.tv b hb).1, fun hr => (h.tv b hb).2.2 (List.mem_append_right _ (rvF b hr))⟩)).mono ?_
    rintro e' w' ⟨rfl, hR, cells2, F2, w2, hT2, hN2, hU, hM, ⟨⟨nv, p1, p2, p3⟩, pf⟩, hl2⟩
    have hsz := hM.size
    have hkp : ∀ j, j < w.heap.size → j ≠ g → j ≠ ob → rv.ownBlock ≠ some j → w'.heap[j]? = w.heap[j]? := fun j h1 h2 h3 h4 => (pf.block j (by omega) (by simp only [List.mem_cons, Option.mem_toList, not_or]; exact ⟨h3, h4⟩)).trans (hM.block j h1 h2)
    have hBel : Below N w w' := (hM.below h.ng h.hN).trans (pf.below (fun j hj => by
      simp only [List.mem_cons, Option.mem_toList] at hj
      rcases hj with rfl | hj
      · exact h.obl.1
      · exact (q4.lt j hj).1) (Nat.le_trans h.hN hsz))
    have hU2 : ∀ j ∈ cv.ownBlock.toList ++ (nv.ownBlock.toList ++ (Fc ++ (Fr' ++ F2))), j ∈ F1 ∨ j ∈ Fx ∨ w.heap.size ≤ j := by
      intro j hj
      simp only [List.mem_append, Option.mem_toList] at hj
      rcases hj with hj | hj | hj | hj | hj
      · exact .inl (cvF j hj)
      · rcases p3 with hp3 | ⟨b, hb', hb2⟩
        · exact .inl (rvF j (by rw [← hp3]; exact hj))
        · have hE : nv.ownBlock = some j := hj
          rw [hb'] at hE
          injection hE with hE
          exact .inr (.inr (by omega))
      · exact .inl (FcF j hj)
      · exact .inl (FrF j hj)
      · exact .inr (hU j hj)
    refine ⟨rfl, hBel, hkp bx ha.lt ha.g ha.ob (fun hr => ha.F (List.mem_append_right _ (rvF bx hr))), c, ob, cap, c1, [cv, nv, .bool S.top.fold, .bool S.top.all, .int .i64 S.top.index, .string S.top.name], G1, cv.ownBlock.toList ++ (nv.ownBlock.toList ++ (Fc ++ (Fr' ++ F2))), mb, nn, D, ?_, ha.re (Fx := Fx) hBel.size hU2 hbx⟩
    have hrow : w'.ownsRow N 85 6 (.slice (some ⟨ob, 0, none⟩) (S.low.length + 1) cap) (S.low.length + 1) (c1 ++ [cv, nv, .bool S.top.fold, .bool S.top.all, .int .i64 S.top.index, .string S.top.name]) := by
      have r1 := row_put (w' := w') h.row hc p2
      rw [set_last (by omega), e] at r1
      exact r1
    have hL : LV N w' [cv, nv, .bool S.top.fold, .bool S.top.all, .int .i64 S.top.index, .string S.top.name] { S.top with reps := S.top.reps ++ [y] } (cv.ownBlock.toList ++ (nv.ownBlock.toList ++ (Fc ++ (Fr' ++ F2)))) := by
      refine ⟨cv, nv, cc, rc ++ cells2, Fc, Fr' ++ F2, rfl, ?_, ?_, ?_, ?_, rfl⟩
      · exact row_kept q2 fun b hb => hkp b (hF1 b (cvF b hb)).2.2.2.1 (hF1 b (cvF b hb)).1 (hF1 b (cvF b hb)).2.1 (fun hr => (hrvn b hr).1 hb)
      · exact q3.kept fun b hb => hkp b (hF1 b (FcF b hb)).2.2.2.1 (hF1 b (FcF b hb)).1 (hF1 b (FcF b hb)).2.1 (fun hr => (hrvn b hr).2.1 hb)
      · simpa using p1
      · exact TVs.snoc hT2 (q5.kept fun b hb => hkp b (hF1 b (FrF b hb)).2.2.2.1 (hF1 b (FrF b hb)).1 (hF1 b (FrF b hb)).2.1 (fun hr => (hrvn b hr).2.2 hb))
    have hd2 : ∀ j ∈ F2, j ∉ F1 := fun j hj hm => by
      rcases hU j hj with h' | h'
      · exact (hF1 j hm).2.2.2.2 h'
      · have := (hF1 j hm).2.2.2.1
        omega
    have hnd : (cv.ownBlock.toList ++ (nv.ownBlock.toList ++ (Fc ++ (Fr' ++ F2)))).Nodup := rep_nd (z := w2.heap.size) hnd1 hN2 (fun j hj => by rw [← eF]; exact hd2 j hj) (fun j hj => by rw [← eF] at hj; have := (hF1 j hj).2.2.2.1; omega) hl2 p3
    have hmono := counted_mono t x S.pos S.wr
    rw [hz] at hmono
    refine h.retop (k := k) (wr := wr2) (top := { S.top with reps := S.top.reps ++ [y] }) (Fx := Fx) hR hrow hL hnd hU2 (fun j hj => ⟨(hap j hj).1, (hap j hj).2.1, (hap j hj).2.2.1, fun hm => (hap j hj).2.2.2.1 (List.mem_append_left _ hm), (hap j hj).2.2.2.2⟩) (fun j hj => hkp j (h.low.low j hj).2 (h.ap j (List.mem_append_left _ hj)).1 (h.ap j (List.mem_append_left _ hj)).2.1 (fun hr => hnd0.2.2 j hj j (rvF j hr) rfl)) (hkp mb (map_lt h.map) h.mg h.mo (fun hr => (hF1 mb (rvF mb hr)).2.2.1 rfl)) (fun b hb' => (htl b hb').1) hmono ?_
    have hmono' : S.pos ≤ k := hmono
    simp only [List.length_append, List.length_singleton]
    omega
end Go.Proofs.YtenanfkmmkmolaaGreatDoor
/- HELPERS: a reader whose innermost level is taken away; an atom; a new reader. -/
namespace Go.Proofs.YtenanfkmmkmolaaGreatDoor
open Go.RowKit Go.Mx
set_option linter.unusedVariables false
set_option linter.unusedSimpArgs false
theorem LVs.unsnoc' {N : Nat} {w : World} {l : Lev} {ls ls' : List Lev} {cs : List Value} {G : List Nat} (h : LVs N w cs ls' G) (e : ls' = ls ++ [l]) : ∃ c1 c G1 F, cs = c1 ++ c ∧ LVs N w c1 ls G1 ∧ LV N w c l F ∧ G = G1 ++ F := by
  subst e
  exact h.unsnoc
/-- the innermost level is taken away -/
theorem RX.drop {N : Nat} {w : World} {g : Nat} {t : List Int} {S : St} {c : Cs} {ob cap : Nat} {c1 c2 : List Value} {G1 F1 : List Nat} {mb nn : Nat} {D : DataW Unit} (h : RX N w g t S c ob cap c1 c2 G1 F1 mb nn D) {w' : World} {k : Nat} {wr : Wr} {low : List Lev} {l : Lev} {c' : Cs} (hlow : S.low = low ++ [l]) (htv : c'.tv = c.tv) (hov : c'.ov = .slice (some ⟨ob, 0, none⟩) (low.length + 1) cap) (hgv : c'.gv = c.gv) (hmv : c'.mv = c.mv)
    (hrw : RW w' g t k c' wr) (hrow : w'.ownsRow N 85 6 (.slice (some ⟨ob, 0, none⟩) (low.length + 1) cap) (low.length + 1) c1) (hG : ∀ j ∈ G1, w'.heap[j]? = w.heap[j]?) (hM : w'.heap[mb]? = w.heap[mb]?) (hk : S.pos ≤ k) :
    ∃ c1' c2' G1' F1', G1 = G1' ++ F1' ∧ RX N w' g t { S with pos := k, low := low, top := l, wr := wr } c' ob cap c1' c2' G1' F1' mb nn D := by
  obtain ⟨c1', c2', G1', F1', rfl, h1, h2, rfl⟩ := h.low.unsnoc' hlow
  have hnd0 := List.nodup_append.1 h.nd
  have hl : low.length + 1 ≤ S.pos := by have := h.b1; rw [hlow] at this; simpa using this
  have hb2 : ∀ l' ∈ low ++ [l], l'.reps.length ≤ S.pos ∧ l'.cats.length ≤ S.pos := by rw [← hlow]; exact h.b2
  refine ⟨c1', c2', G1', F1', rfl, hrw, hov, hrow, h1.kept fun j hj => hG j (List.mem_append_left _ hj), h2.kept fun j hj => hG j (List.mem_append_right _ hj), hgv.trans h.gv, hmv.trans h.mv, map_kept h.map hM, h.nms, hnd0.1, fun j hj => h.ap j (List.mem_append_left _ hj), h.og, h.mg, h.mo, fun b hb => ?_, h.n4, h.ng, h.nm, by show low.length ≤ k; omega, fun l' hl' => ?_, ?_, Nat.le_trans h.b4 hk, Nat.le_trans h.b5 hk⟩
  · rw [htv] at hb
    exact ⟨(h.tv b hb).1, (h.tv b hb).2.1, fun hm => (h.tv b hb).2.2 (List.mem_append_left _ hm)⟩
  · have := hb2 l' (List.mem_append_left _ hl')
    exact ⟨Nat.le_trans this.1 hk, Nat.le_trans this.2 hk⟩
  · have := hb2 l (List.mem_append_right _ (List.mem_singleton.2 rfl))
    exact ⟨Nat.le_trans this.1 hk, Nat.le_trans this.2 hk⟩
/-- a new reader -/
theorem new_rs {w w' : World} {p : ByteArray} {cap : Nat} (h4 : 4 ≤ w.heap.size) (hz : w'.heap.size = w.heap.size + 4) (h1 : w'.heap[w.heap.size + 1]? = some (.cells L6 85 (0, 0))) (h2 : w'.heap[w.heap.size + 2]? = some (.map #[] 0)) (hR : RW w' (w.heap.size + 3) (txt p) 0 (newC w p cap) none) : ∃ c ob cap c1 c2 G1 F1 mb nn D, RX w.heap.size w' (w.heap.size + 3) (txt p) S0 c ob cap c1 c2 G1 F1 mb nn D ∧ G1 = [] ∧ F1 = [] ∧ ob < w'.heap.size ∧ mb < w'.heap.size := by
  refine ⟨newC w p cap, w.heap.size + 1, 1, [], L6.toList, [], [], w.heap.size + 2, 0, .map [], ⟨hR, rfl, ?_, ⟨rfl, rfl⟩, ?_, rfl, rfl, ?_, ?_, by simp, fun k hk => by simp at hk, by omega, by omega, by omega, fun b hb => ?_, h4, by omega, by omega, by simp [S0], fun l hl => by simp [S0] at hl, by simp [S0], by simp [S0], by simp [S0]⟩, rfl, rfl, by omega, by omega⟩
  · exact ⟨rfl, .inr ⟨w.heap.size + 1, 1, L6, rfl, by omega, h1, Nat.le_refl _, by unfold maxLen; omega, rfl, rfl⟩⟩
  · exact ⟨.slice none 0 0, .slice none 0 0, [], [], [], [], rfl, World.ownsRow_nil _ _ _ _, .nil, World.ownsRow_nil _ _ _ _, .nil, rfl⟩
  · exact ⟨#[], 0, h2, (World.ownsMap_made (H := Unit) w Tryz.prog 9 unitElem).elim fun es he => he.elim fun cl h => by have := h.1.symm.trans (heap_alloc_new w _); simp at this; obtain ⟨rfl, rfl⟩ := this; exact h.2.1, Nat.le_refl _, rfl⟩
  · intro nm; rfl
  · simp [Value.ownBlock] at hb
    subst hb
    exact ⟨by omega, by omega, by simp⟩
/-- an atom and its count -/
theorem atom_rx {N : Nat} {w : World} {g : Nat} {t : List Int} {S : St} {c : Cs} {ob cap : Nat} {c1 c2 : List Value} {G1 F1 : List Nat} {mb nn : Nat} {D : DataW Unit} (h : RX N w g t S c ob cap c1 c2 G1 F1 mb nn D) {w' : World} {x : Tree} {k : Nat} {wr : Wr} {cells : List Value} {Fx : List Nat} (hm : Mo w w' g) (hrw : RW w' g t k c wr) (hk : S.pos < k) (ht : 0 < t.length) (hT : TV w.heap.size w' cells x Fx) (hFx : Fx.Nodup) {bx : Nat} (ha : Ap bx w g ob mb G1 F1) :
    Calls Tryz.prog 45 #[.pointer (some ⟨g, 0, none⟩), .agg cells.toArray] w' fun e w'' => EndR N bx w' w'' g t e (addRep t x { S with pos := k, wr := wr }) := by
  have hb3 := h.b3
  refine addRep_rx (h.mov hm hrw (Nat.le_of_lt hk)) (hT.le h.hN) hFx (fun j hj => ?_) (by show S.top.reps.length + 1 ≤ k; omega) ht (ha.re (Fx := []) hm.size (fun j hj => .inl hj) (by simp)) (fun hm => by have := (hT.low bx hm).1; have := ha.lt; omega)
  have hj' := (hT.low j hj).1
  have hgl := h.rw.rd.gl
  have hobl := h.obl.2
  have hml := map_lt h.map
  refine ⟨by omega, by omega, by omega, fun hmem => ?_, fun b hb e => ?_⟩
  · rcases List.mem_append.1 hmem with h' | h'
    · have := (h.low.low j h').2
      omega
    · have := (h.top.low j h').2
      omega
  · have := (h.tvl ht b hb).1
    omega
end Go.Proofs.YtenanfkmmkmolaaGreatDoor
