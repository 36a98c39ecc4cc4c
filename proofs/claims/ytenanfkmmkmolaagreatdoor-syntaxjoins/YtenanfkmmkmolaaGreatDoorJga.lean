/- HELPERS: two trees are the same: whole. -/
import Derived.Test.YtenanfkmmkmolaaGreatDoorK10
import Derived.Laws.StructEq
import Derived.Deep.DrawnRows
/- HELPERS: trees in memory, one by one; has a tree capture groups. -/
namespace Go.Proofs.YtenanfkmmkmolaaGreatDoor
open Go.RowKit Go.Mx
set_option linter.unusedVariables false
set_option linter.unusedSimpArgs false
mutual
/-- how many nodes -/
def tsize : Tree → Nat
  | .node _ _ _ subs _ _ _ _ _ => 1 + tsizes subs
def tsizes : List Tree → Nat
  | [] => 0
  | t :: ts => tsize t + tsizes ts
end
mutual
def groupedT : Tree → Bool
  | .node kind _ _ subs _ _ _ _ _ => (kind == 7) || groupedTs subs
def groupedTs : List Tree → Bool
  | [] => false
  | t :: ts => groupedT t || groupedTs ts
end
theorem tsize_mem : ∀ {ts : List Tree} {i : Nat} (hi : i < ts.length), tsize (ts[i]'hi) ≤ tsizes ts := by
  intro ts
  induction ts with
  | nil => intro i hi; simp at hi
  | cons t ts ih =>
    intro i hi
    cases i with
    | zero => simp [tsizes]
    | succ i =>
      have := ih (i := i) (by simpa using hi)
      simp [tsizes]
      omega
theorem groupedTs_app (a b : List Tree) : groupedTs (a ++ b) = (groupedTs a || groupedTs b) := by
  induction a with
  | nil => simp [groupedTs]
  | cons t ts ih => simp [groupedTs, ih, Bool.or_assoc]
theorem groupedTs_take {ts : List Tree} {i : Nat} (hi : i < ts.length) : groupedTs (ts.take (i + 1)) = (groupedTs (ts.take i) || groupedT (ts[i]'hi)) := by
  rw [List.take_add_one, List.getElem?_eq_getElem hi, groupedTs_app]
  simp [groupedTs]
theorem groupedTs_mem : ∀ {ts : List Tree} {i : Nat} (hi : i < ts.length), groupedT (ts[i]'hi) = true → groupedTs ts = true := by
  intro ts
  induction ts with
  | nil => intro i hi; simp at hi
  | cons t ts ih =>
    intro i hi h
    cases i with
    | zero => simp at h; simp [groupedTs, h]
    | succ i => have := ih (i := i) (by simpa using hi) (by simpa using h); simp [groupedTs, this]
/-- the i-th of a row of nodes -/
theorem TVs.get {N : Nat} {w : World} : ∀ {ts : List Tree} {c : List Value} {F : List Nat}, TVs N w c ts F → ∀ (i : Nat) (hi : i < ts.length), ∃ Fi, TV N w ((c.drop (i * 9)).take 9) (ts[i]'hi) Fi ∧ ∀ k ∈ Fi, k ∈ F := by
  intro ts
  induction ts with
  | nil => intro c F h i hi; simp at hi
  | cons t ts ih =>
    intro c F h i hi
    cases h with
    | @cons c1 cs _ _ F1 G1 h1 h2 =>
      have h9 := h1.nine
      cases i with
      | zero =>
        refine ⟨F1, ?_, fun k hk => List.mem_append_left _ hk⟩
        simp only [Nat.zero_mul, List.drop_zero]
        rw [← h9, List.take_left']
        · exact h1
        · rfl
      | succ i =>
        obtain ⟨Fi, q1, q2⟩ := ih h2 i (by simpa using hi)
        refine ⟨Fi, ?_, fun k hk => List.mem_append_right _ (q2 k hk)⟩
        rw [show (i + 1) * 9 = c1.length + i * 9 by omega, ← List.drop_drop, List.drop_left']
        · exact q1
        · rfl
/-- the cells of the i-th node of a row that has a block -/
theorem node_cells {N : Nat} {w : World} {b cap n i : Nat} {c ci : List Value} (h : w.ownsRow N 26 9 (.slice (some ⟨b, 0, none⟩) n cap) n c) (hi : i < n) (hci : ci = (c.drop (i * 9)).take 9) : ∀ m, m < 9 → w.cell? ⟨b, i * 9 + m, none⟩ = ci[m]? := by
  intro m hm
  rw [h.cellAt (i * 9 + m) (by omega), hci, List.getElem?_take, if_pos hm, List.getElem?_drop]
set_option maxRecDepth 100000 in
set_option maxHeartbeats 2000000 in
theorem grouped14_all : ∀ (z : Nat) (x : Tree) (N : Nat) (w : World) (cells : List Value) (F : List Nat), tsize x ≤ z → TV N w cells x F → Calls Tryz.prog 14 #[.agg cells.toArray] w fun e w' => e = .returned (.bool (groupedT x)) ∧ Below w.heap.size w w' := by
  intro z
  induction z with
  | zero =>
    intro x N w cells F hz hT
    cases x
    simp [tsize] at hz
  | succ z ih =>
    intro x N w cells F hz hT
    cases hT with
    | @mk a0 rg a2 sb a4 a5 a6 a7 a8 rv sv cl F1 hr hs ht =>
      obtain ⟨r1, r2, r3, rfl⟩ := row_slice hr
      by_cases h7 : a0 = 7
      · subst h7
        have hg : groupedT (.node 7 rg a2 sb a4 a5 a6 a7 a8) = true := by simp [groupedT]
        rw [hg]
        obtain ⟨s1, s2, s3, rfl⟩ := row_slice hs
        clear hr hs ht
        go_enter Tryz.func14, Tryz.ntmps14
        go_wp2
        go_ret
        exact ⟨rfl, Joins.below_alloc1 w _⟩
      · have hk : (a0 == 7) = false := by simpa using h7
        have hg : groupedT (.node a0 rg a2 sb a4 a5 a6 a7 a8) = groupedTs sb := by simp [groupedT, hk]
        rw [hg]
        have hsz : tsizes sb ≤ z := by simp [tsize] at hz; omega
        obtain ⟨s1, s3, rfl⟩ : ∃ s1 s3, sv = .slice s1 sb.length s3 := by
          rcases Joins.ownsRow_forms hs with ⟨rfl, h⟩ | ⟨b, cap, rfl⟩
          · exact ⟨none, 0, by rw [h]⟩
          · exact ⟨_, _, rfl⟩
        obtain ⟨W, hW⟩ : ∃ W, W = w.alloc (.cells #[.int .i64 a0, .slice r1 r2 r3, .int .i64 a2, .slice s1 sb.length s3, .int .i64 a4, .int .i64 a5, .bool a6, .int .i64 a7, .string a8] 26) := ⟨_, rfl⟩
        have hBW : Below w.heap.size w W := by rw [hW]; exact Joins.below_alloc1 w _
        have hbx : W.heap[w.heap.size]? = some (.cells #[.int .i64 a0, .slice r1 r2 r3, .int .i64 a2, .slice s1 sb.length s3, .int .i64 a4, .int .i64 a5, .bool a6, .int .i64 a7, .string a8] 26 (0, 0)) := by rw [hW]; exact heap_alloc_new w _
        have HS := hid hs
        have HTs := hid ht
        have HBX := hid hbx
        have HBW := hid hBW
        have hWl : w.heap.size < W.heap.size := (Array.getElem?_eq_some_iff.1 hbx).1
        have kn : sb.length ≤ 9223372036854775807 := by
          rcases hs.2 with ⟨_, h⟩ | ⟨g, cap, cur, he, h1, h2, h3, h4, h5, h6⟩
          · omega
          · unfold maxLen at h4
            omega
        clear hr hs ht hbx hBW
        go_enter Tryz.func14, Tryz.ntmps14
        go_wp2_with fail
        rw [← hW]
        have HW := hid hW
        clear hW
        obtain ⟨bx, hbx⟩ : ∃ bx, bx = w.heap.size := ⟨_, rfl⟩
        rw [← hbx] at HBX hWl ⊢
        have HBXE := hid hbx
        clear hbx
        go_loopw [3] (fun x wq => ∃ i : Nat, x = .int .i64 (i : Int) ∧ i ≤ sb.length ∧ Hid (Below W.heap.size W wq) ∧ Hid (groupedTs (sb.take i) = false)) (fun x _ => sb.length - (intOf x).toNat)
        case atStart => exact ⟨0, rfl, by omega, Below.refl _ _, by show groupedTs (sb.take 0) = false; simp [groupedTs]⟩
        case round =>
          obtain ⟨i, rfl, hi, BK, HG⟩ := hrel
          obtain ⟨o0, o1, o2, o3, o4, o5, o6, o7, o8⟩ := blk9 ((BK.out.block bx hWl).trans HBX.out)
          by_cases hil : i < sb.length
          · have b1 : decide ((i : Int) < (sb.length : Int)) = true := by simp; omega
            have b2 : (i : Int) < (sb.length : Int) := by omega
            obtain ⟨b, rfl⟩ : ∃ b, s1 = some ⟨b, 0, none⟩ := by
              rcases HS.out.2 with ⟨_, h⟩ | ⟨g, cap, cur, he, _⟩
              · omega
              · simp only [Value.slice.injEq] at he
                exact ⟨g, he.1⟩
            have hwW : ∀ k, k < w.heap.size → wr.heap[k]? = w.heap[k]? := fun k hk => (BK.out.block k (by have := HBW.out.size; omega)).trans (HBW.out.block k hk)
            obtain ⟨Fi, hTi0, hFi⟩ := HTs.out.get i hil
            have hTi : TV N wr ((cl.drop (i * 9)).take 9) (sb[i]'hil) Fi := hTi0.kept fun k hk => hwW k (hTi0.low k hk).2
            have hrow : wr.ownsRow N 26 9 (.slice (some ⟨b, 0, none⟩) sb.length s3) sb.length cl := row_kept HS.out fun k hk => hwW k (HS.out.lt k hk).2
            have hcap : sb.length ≤ s3 := by obtain ⟨cur, hc⟩ := row_some hrow; exact (row_blk hrow hc).2.1
            have hnc := node_cells hrow hil rfl
            obtain ⟨ci, hci⟩ : ∃ ci, ci = (cl.drop (i * 9)).take 9 := ⟨_, rfl⟩
            rw [← hci] at hTi hnc
            have C1 := ih (sb[i]'hil) N wr ci Fi (by have := tsize_mem hil; omega) hTi
            obtain ⟨c0, c2, c4, c5, c7, c6, c8, q1, t1, q2, q3, t2, t3, rfl⟩ := tv_cells hTi
            have n0 : wr.cell? ⟨b, i * 9, none⟩ = some (.int .i64 c0) := hnc 0 (by decide)
            have n1 : wr.cell? ⟨b, i * 9 + 1, none⟩ = some (.slice q1 q2 q3) := hnc 1 (by decide)
            have n2 : wr.cell? ⟨b, i * 9 + 2, none⟩ = some (.int .i64 c2) := hnc 2 (by decide)
            have n3 : wr.cell? ⟨b, i * 9 + 3, none⟩ = some (.slice t1 t2 t3) := hnc 3 (by decide)
            have n4 : wr.cell? ⟨b, i * 9 + 4, none⟩ = some (.int .i64 c4) := hnc 4 (by decide)
            have n5 : wr.cell? ⟨b, i * 9 + 5, none⟩ = some (.int .i64 c5) := hnc 5 (by decide)
            have n6 : wr.cell? ⟨b, i * 9 + 6, none⟩ = some (.bool c6) := hnc 6 (by decide)
            have n7 : wr.cell? ⟨b, i * 9 + 7, none⟩ = some (.int .i64 c7) := hnc 7 (by decide)
            have n8 : wr.cell? ⟨b, i * 9 + 8, none⟩ = some (.string c8) := hnc 8 (by decide)
            clear hnc hci hTi hTi0 hrow hwW
            have ad1 : IntKind.i64.wrap ((i : Int) + 1) = (i : Int) + 1 := by simp [IntKind.wrap, IntKind.bits, IntKind.signed]; omega
            obtain ⟨gb, hgb⟩ : ∃ gb, groupedT (sb[i]'hil) = gb := ⟨_, rfl⟩
            rw [hgb] at C1
            have HGB := hid hgb
            clear hgb
            cases gb with
            | false =>
              go_wp2_with (go_at_call 14; (with_reducible refine C1.mono ?_); rintro e w6 ⟨rfl, B6⟩; have HB6 := hid B6; clear B6)
              refine ⟨⟨i + 1, by push_cast; rfl, by omega, BK.out.trans (Joins.below_le HB6.out BK.out.size), ?_⟩, ?_⟩
              · show groupedTs (sb.take (i + 1)) = false
                rw [groupedTs_take hil, HG.out, HGB.out]
                rfl
              · simp [intOf]
                omega
            | true =>
              go_wp2_with (go_at_call 14; (with_reducible refine C1.mono ?_); rintro e w6 ⟨rfl, B6⟩; have HB6 := hid B6; clear B6)
              go_ret
              refine ⟨by rw [groupedTs_mem hil HGB.out]; rfl, ?_⟩
              exact (HBW.out.trans (Joins.below_le BK.out HBW.out.size)).trans (Joins.below_le HB6.out (Nat.le_trans HBW.out.size BK.out.size))
          · have b1 : decide ((i : Int) < (sb.length : Int)) = false := by simp; omega
            have hgs : groupedTs sb = false := by
              have := HG.out
              rw [List.take_of_length_le (by omega)] at this
              exact this
            go_wp2
            go_ret
            exact ⟨by rw [hgs]; rfl, HBW.out.trans (Joins.below_le BK.out HBW.out.size)⟩
end Go.Proofs.YtenanfkmmkmolaaGreatDoor
/- HELPERS: two trees are the same: where they differ in a node's own fields. -/
namespace Go.Proofs.YtenanfkmmkmolaaGreatDoor
open Go.RowKit Go.Mx
set_option linter.unusedVariables false
set_option linter.unusedSimpArgs false
set_option maxRecDepth 100000 in
set_option maxHeartbeats 2000000 in
theorem same10_d0 (a0 a2 a4 a5 a7 b0 b2 b4 b5 b7 : Int) (a6 b6 : Bool) (a8 b8 : ByteArray) (r1 s1 p1 q1 : Option Addr) (r2 r3 s2 s3 p2 p3 q2 q3 : Nat) (w : World) (h : ¬ a0 = b0) :
    Calls Tryz.prog 10 #[.agg #[.int .i64 a0, .slice r1 r2 r3, .int .i64 a2, .slice s1 s2 s3, .int .i64 a4, .int .i64 a5, .bool a6, .int .i64 a7, .string a8], .agg #[.int .i64 b0, .slice p1 p2 p3, .int .i64 b2, .slice q1 q2 q3, .int .i64 b4, .int .i64 b5, .bool b6, .int .i64 b7, .string b8]] w fun e w' => e = .returned (.bool false) ∧ Below w.heap.size w w' := by
  have h1 : (a0 == b0) = false := by simpa using h
  go_enter Tryz.func10, Tryz.ntmps10
  go_wp2
  go_ret
  exact ⟨rfl, Joins.below_alloc2 w _ _⟩
set_option maxRecDepth 100000 in
set_option maxHeartbeats 2000000 in
theorem same10_d1 (a0 a2 a4 a5 a7 b0 b2 b4 b5 b7 : Int) (a6 b6 : Bool) (a8 b8 : ByteArray) (r1 s1 p1 q1 : Option Addr) (r2 r3 s2 s3 p2 p3 q2 q3 : Nat) (w : World) (h : ¬ a2 = b2) :
    Calls Tryz.prog 10 #[.agg #[.int .i64 a0, .slice r1 r2 r3, .int .i64 a2, .slice s1 s2 s3, .int .i64 a4, .int .i64 a5, .bool a6, .int .i64 a7, .string a8], .agg #[.int .i64 a0, .slice p1 p2 p3, .int .i64 b2, .slice q1 q2 q3, .int .i64 b4, .int .i64 b5, .bool b6, .int .i64 b7, .string b8]] w fun e w' => e = .returned (.bool false) ∧ Below w.heap.size w w' := by
  have h1 : (a2 == b2) = false := by simpa using h
  go_enter Tryz.func10, Tryz.ntmps10
  go_wp2
  go_ret
  exact ⟨rfl, Joins.below_alloc2 w _ _⟩
set_option maxRecDepth 100000 in
set_option maxHeartbeats 2000000 in
theorem same10_d2 (a0 a2 a4 a5 a7 b0 b2 b4 b5 b7 : Int) (a6 b6 : Bool) (a8 b8 : ByteArray) (r1 s1 p1 q1 : Option Addr) (r2 r3 s2 s3 p2 p3 q2 q3 : Nat) (w : World) (h : ¬ a4 = b4) :
    Calls Tryz.prog 10 #[.agg #[.int .i64 a0, .slice r1 r2 r3, .int .i64 a2, .slice s1 s2 s3, .int .i64 a4, .int .i64 a5, .bool a6, .int .i64 a7, .string a8], .agg #[.int .i64 a0, .slice p1 p2 p3, .int .i64 a2, .slice q1 q2 q3, .int .i64 b4, .int .i64 b5, .bool b6, .int .i64 b7, .string b8]] w fun e w' => e = .returned (.bool false) ∧ Below w.heap.size w w' := by
  have h1 : (a4 == b4) = false := by simpa using h
  go_enter Tryz.func10, Tryz.ntmps10
  go_wp2
  go_ret
  exact ⟨rfl, Joins.below_alloc2 w _ _⟩
set_option maxRecDepth 100000 in
set_option maxHeartbeats 2000000 in
theorem same10_d3 (a0 a2 a4 a5 a7 b0 b2 b4 b5 b7 : Int) (a6 b6 : Bool) (a8 b8 : ByteArray) (r1 s1 p1 q1 : Option Addr) (r2 r3 s2 s3 p2 p3 q2 q3 : Nat) (w : World) (h : ¬ a5 = b5) :
    Calls Tryz.prog 10 #[.agg #[.int .i64 a0, .slice r1 r2 r3, .int .i64 a2, .slice s1 s2 s3, .int .i64 a4, .int .i64 a5, .bool a6, .int .i64 a7, .string a8], .agg #[.int .i64 a0, .slice p1 p2 p3, .int .i64 a2, .slice q1 q2 q3, .int .i64 a4, .int .i64 b5, .bool b6, .int .i64 b7, .string b8]] w fun e w' => e = .returned (.bool false) ∧ Below w.heap.size w w' := by
  have h1 : (a5 == b5) = false := by simpa using h
  go_enter Tryz.func10, Tryz.ntmps10
  go_wp2
  go_ret
  exact ⟨rfl, Joins.below_alloc2 w _ _⟩
set_option maxRecDepth 100000 in
set_option maxHeartbeats 2000000 in
theorem same10_d4 (a0 a2 a4 a5 a7 b0 b2 b4 b5 b7 : Int) (a6 b6 : Bool) (a8 b8 : ByteArray) (r1 s1 p1 q1 : Option Addr) (r2 r3 s2 s3 p2 p3 q2 q3 : Nat) (w : World) (h : ¬ a6 = b6) :
    Calls Tryz.prog 10 #[.agg #[.int .i64 a0, .slice r1 r2 r3, .int .i64 a2, .slice s1 s2 s3, .int .i64 a4, .int .i64 a5, .bool a6, .int .i64 a7, .string a8], .agg #[.int .i64 a0, .slice p1 p2 p3, .int .i64 a2, .slice q1 q2 q3, .int .i64 a4, .int .i64 a5, .bool b6, .int .i64 b7, .string b8]] w fun e w' => e = .returned (.bool false) ∧ Below w.heap.size w w' := by
  have h1 : (a6 == b6) = false := by simpa using h
  go_enter Tryz.func10, Tryz.ntmps10
  go_wp2
  go_ret
  exact ⟨rfl, Joins.below_alloc2 w _ _⟩
set_option maxRecDepth 100000 in
set_option maxHeartbeats 2000000 in
theorem same10_d5 (a0 a2 a4 a5 a7 b0 b2 b4 b5 b7 : Int) (a6 b6 : Bool) (a8 b8 : ByteArray) (r1 s1 p1 q1 : Option Addr) (r2 r3 s2 s3 p2 p3 q2 q3 : Nat) (w : World) (h : ¬ a7 = b7) :
    Calls Tryz.prog 10 #[.agg #[.int .i64 a0, .slice r1 r2 r3, .int .i64 a2, .slice s1 s2 s3, .int .i64 a4, .int .i64 a5, .bool a6, .int .i64 a7, .string a8], .agg #[.int .i64 a0, .slice p1 p2 p3, .int .i64 a2, .slice q1 q2 q3, .int .i64 a4, .int .i64 a5, .bool a6, .int .i64 b7, .string b8]] w fun e w' => e = .returned (.bool false) ∧ Below w.heap.size w w' := by
  have h1 : (a7 == b7) = false := by simpa using h
  go_enter Tryz.func10, Tryz.ntmps10
  go_wp2
  go_ret
  exact ⟨rfl, Joins.below_alloc2 w _ _⟩
set_option maxRecDepth 100000 in
set_option maxHeartbeats 2000000 in
theorem same10_d6 (a0 a2 a4 a5 a7 b0 b2 b4 b5 b7 : Int) (a6 b6 : Bool) (a8 b8 : ByteArray) (r1 s1 p1 q1 : Option Addr) (r2 r3 s2 s3 p2 p3 q2 q3 : Nat) (w : World) (h : ¬ a8.toList = b8.toList) :
    Calls Tryz.prog 10 #[.agg #[.int .i64 a0, .slice r1 r2 r3, .int .i64 a2, .slice s1 s2 s3, .int .i64 a4, .int .i64 a5, .bool a6, .int .i64 a7, .string a8], .agg #[.int .i64 a0, .slice p1 p2 p3, .int .i64 a2, .slice q1 q2 q3, .int .i64 a4, .int .i64 a5, .bool a6, .int .i64 a7, .string b8]] w fun e w' => e = .returned (.bool false) ∧ Below w.heap.size w w' := by
  go_enter Tryz.func10, Tryz.ntmps10
  go_wp2
  go_ret
  exact ⟨rfl, Joins.below_alloc2 w _ _⟩
set_option maxRecDepth 100000 in
set_option maxHeartbeats 2000000 in
theorem same10_d7 (a0 a2 a4 a5 a7 b0 b2 b4 b5 b7 : Int) (a6 b6 : Bool) (a8 b8 : ByteArray) (r1 s1 p1 q1 : Option Addr) (r2 r3 s2 s3 p2 p3 q2 q3 : Nat) (w : World) (h : ¬ r2 = p2) :
    Calls Tryz.prog 10 #[.agg #[.int .i64 a0, .slice r1 r2 r3, .int .i64 a2, .slice s1 s2 s3, .int .i64 a4, .int .i64 a5, .bool a6, .int .i64 a7, .string a8], .agg #[.int .i64 a0, .slice p1 p2 p3, .int .i64 a2, .slice q1 q2 q3, .int .i64 a4, .int .i64 a5, .bool a6, .int .i64 a7, .string a8]] w fun e w' => e = .returned (.bool false) ∧ Below w.heap.size w w' := by
  have h1 : ((r2 : Int) == (p2 : Int)) = false := by simp; omega
  have h2 : ¬ (r2 : Int) = (p2 : Int) := by omega
  go_enter Tryz.func10, Tryz.ntmps10
  go_wp2
  go_ret
  exact ⟨rfl, Joins.below_alloc2 w _ _⟩
set_option maxRecDepth 100000 in
set_option maxHeartbeats 2000000 in
theorem same10_d8 (a0 a2 a4 a5 a7 b0 b2 b4 b5 b7 : Int) (a6 b6 : Bool) (a8 b8 : ByteArray) (r1 s1 p1 q1 : Option Addr) (r2 r3 s2 s3 p2 p3 q2 q3 : Nat) (w : World) (h : ¬ s2 = q2) :
    Calls Tryz.prog 10 #[.agg #[.int .i64 a0, .slice r1 r2 r3, .int .i64 a2, .slice s1 s2 s3, .int .i64 a4, .int .i64 a5, .bool a6, .int .i64 a7, .string a8], .agg #[.int .i64 a0, .slice p1 r2 p3, .int .i64 a2, .slice q1 q2 q3, .int .i64 a4, .int .i64 a5, .bool a6, .int .i64 a7, .string a8]] w fun e w' => e = .returned (.bool false) ∧ Below w.heap.size w w' := by
  have h1 : ((s2 : Int) == (q2 : Int)) = false := by simp; omega
  have h2 : ¬ (s2 : Int) = (q2 : Int) := by omega
  go_enter Tryz.func10, Tryz.ntmps10
  go_wp2
  go_ret
  exact ⟨rfl, Joins.below_alloc2 w _ _⟩
end Go.Proofs.YtenanfkmmkmolaaGreatDoor
/- HELPERS: two trees are the same: the walk where a node's own fields are. -/
namespace Go.Proofs.YtenanfkmmkmolaaGreatDoor
open Go.RowKit Go.Mx
set_option linter.unusedVariables false
set_option linter.unusedSimpArgs false
attribute [local go_sem ↓] Go.wp_at_zero Go.wp_at_succ
theorem fields62 : Tryz.prog.underlying 62 = some (.struct (Tryz.prog.fieldsOf 62)) := by kernel_rfl
theorem held62 : Tryz.prog.stoodInHeld 62 = false := by kernel_rfl
theorem guard62 : Tryz.prog.eqGuardType Tryz.prog.depth 62 = false := by kernel_rfl
set_option maxRecDepth 100000 in
theorem rng_neq (lo hi lo' hi' : Int) (W : World) : (binOp .neq 62 (.agg #[.int .i64 lo, .int .i64 hi]) (.agg #[.int .i64 lo', .int .i64 hi'])).run Tryz.prog W = .ok (.bool (!((lo == lo') && (hi == hi')))) W := by
  have he : ∀ (a b : Int), (Op.equalIn 9999 3 (.int .i64 a) (.int .i64 b)).run Tryz.prog W = .ok (a == b) W := fun a b => run_equalIn_int W 9998 3 .i64 .i64 a b Tryz.underlying3
  rw [run_neq_struct, show Op.equalIn 10000 62 = Op.equalIn (9999 + 1) 62 from rfl, run_equalIn_agg W 9999 62 _ _ fields62 held62]
  have hp : ∀ (xs : Array Value) (o : Nat) (v : Value), xs[o]? = some v → (part 3 xs o).run Tryz.prog W = .ok v W := by
    intro xs o v h
    simp [part, Tryz.isAgg3, h, Result.andThen]
  cases h1 : (lo == lo') <;> cases h2 : (hi == hi') <;> simp [Program.fieldsOf, Tryz.underlying62, Op.eqFields, hp, he, Result.andThen, h1, h2]
theorem rng_guard (x y : Operand) (lo hi lo' hi' : Int) (W : World) : (eqGuard .neq 62 x y (.agg #[.int .i64 lo, .int .i64 hi]) (.agg #[.int .i64 lo', .int .i64 hi'])).run Tryz.prog W = .ok () W := run_eqGuard_agg W .neq 62 x y _ _ guard62
theorem fl_at : ∀ {L : Rng} {i : Nat} (hi : i < L.length), (fl L)[i * 2]? = some (.int .i64 (L[i]'hi).1) ∧ (fl L)[i * 2 + 1]? = some (.int .i64 (L[i]'hi).2) := by
  intro L
  induction L with
  | nil => intro i hi; simp at hi
  | cons x L ih =>
    intro i hi
    cases i with
    | zero => simp [fl, encR]
    | succ i =>
      have := ih (i := i) (by simpa using hi)
      have e1 : (i + 1) * 2 = i * 2 + 2 := by omega
      have e2 : (i + 1) * 2 + 1 = i * 2 + 1 + 2 := by omega
      rw [e1, show i * 2 + 2 + 1 = i * 2 + 1 + 2 by omega]
      have hf : fl (x :: L) = [.int .i64 x.1, .int .i64 x.2] ++ fl L := by simp [fl, encR]
      rw [hf, List.getElem?_append_right (by simp), List.getElem?_append_right (by simp)]
      simpa using this
mutual
def sameT : Tree → Tree → Bool
  | .node k r a s mi ma l i n, .node k' r' a' s' mi' ma' l' i' n' => (k == k') && ((a == a') && ((mi == mi') && ((ma == ma') && ((l == l') && ((i == i') && ((n.data == n'.data) && ((r == r') && sameTs s s')))))))
def sameTs : List Tree → List Tree → Bool
  | [], [] => true
  | t :: ts, u :: us => sameT t u && sameTs ts us
  | _, _ => false
end
theorem sameTs_at : ∀ {s t : List Tree}, s.length = t.length → (sameTs s t = true ↔ ∀ i (h1 : i < s.length) (h2 : i < t.length), sameT (s[i]'h1) (t[i]'h2) = true) := by
  intro s
  induction s with
  | nil => intro t h; cases t with | nil => simp [sameTs] | cons a b => simp at h
  | cons x s ih =>
    intro t h
    cases t with
    | nil => simp at h
    | cons y t =>
      have hl : s.length = t.length := by simpa using h
      simp only [sameTs, Bool.and_eq_true]
      constructor
      · rintro ⟨h1, h2⟩ i g1 g2
        cases i with
        | zero => exact h1
        | succ i => exact (ih hl).1 h2 i (by simpa using g1) (by simpa using g2)
      · intro hh
        refine ⟨hh 0 (by simp) (by simp), (ih hl).2 fun i g1 g2 => ?_⟩
        exact hh (i + 1) (by simpa using g1) (by simpa using g2)
set_option maxRecDepth 100000 in
set_option maxHeartbeats 4000000 in
theorem same10_e (z : Nat) (ih : Hid (∀ (x y : Tree) (N : Nat) (w : World) (cx cy : List Value) (F G : List Nat), tsize x ≤ z → TV N w cx x F → TV N w cy y G → Calls Tryz.prog 10 #[.agg cx.toArray, .agg cy.toArray] w fun e w' => e = .returned (.bool (sameT x y)) ∧ Below w.heap.size w w'))
    (a0 a2 a4 a5 a7 : Int) (a6 : Bool) (a8 : ByteArray) (r1 s1 p1 q1 : Option Addr) (r3 s3 p3 q3 : Nat) (rg rg' : Rng) (sb sb' : List Tree) (N : Nat) (w : World) (cl cl' : List Value) (F F' : List Nat) (HL1 : Hid (rg.length = rg'.length)) (HL2 : Hid (sb.length = sb'.length)) (hz : tsizes sb ≤ z)
    (HR : Hid (w.ownsRow N 62 2 (.slice r1 rg.length r3) rg.length (fl rg))) (HS : Hid (w.ownsRow N 26 9 (.slice s1 sb.length s3) sb.length cl)) (HT : Hid (TVs N w cl sb F)) (HR' : Hid (w.ownsRow N 62 2 (.slice p1 rg.length p3) rg.length (fl rg'))) (HS' : Hid (w.ownsRow N 26 9 (.slice q1 sb.length q3) sb.length cl')) (HT' : Hid (TVs N w cl' sb' F')) {res : Bool} (hres : Hid (((rg == rg') && sameTs sb sb') = res)) :
    Calls Tryz.prog 10 #[.agg #[.int .i64 a0, .slice r1 rg.length r3, .int .i64 a2, .slice s1 sb.length s3, .int .i64 a4, .int .i64 a5, .bool a6, .int .i64 a7, .string a8], .agg #[.int .i64 a0, .slice p1 rg.length p3, .int .i64 a2, .slice q1 sb.length q3, .int .i64 a4, .int .i64 a5, .bool a6, .int .i64 a7, .string a8]] w fun e w' => e = .returned (.bool res) ∧ Below w.heap.size w w' := by
  go_enter Tryz.func10, Tryz.ntmps10
  go_wp2_with fail
  obtain ⟨W, hW⟩ : ∃ W, W = (w.alloc (.cells #[.int .i64 a0, .slice r1 rg.length r3, .int .i64 a2, .slice s1 sb.length s3, .int .i64 a4, .int .i64 a5, .bool a6, .int .i64 a7, .string a8] 26)).alloc (.cells #[.int .i64 a0, .slice p1 rg.length p3, .int .i64 a2, .slice q1 sb.length q3, .int .i64 a4, .int .i64 a5, .bool a6, .int .i64 a7, .string a8] 26) := ⟨_, rfl⟩
  have HBW : Hid (Below w.heap.size w W) := by rw [hW]; exact Joins.below_alloc2 w _ _
  obtain ⟨x1, hx1⟩ : ∃ x1, x1 = w.heap.size := ⟨_, rfl⟩
  obtain ⟨x2, hx2⟩ : ∃ x2, x2 = w.heap.size + 1 := ⟨_, rfl⟩
  have HX1 : Hid (W.heap[x1]? = some (.cells #[.int .i64 a0, .slice r1 rg.length r3, .int .i64 a2, .slice s1 sb.length s3, .int .i64 a4, .int .i64 a5, .bool a6, .int .i64 a7, .string a8] 26 (0, 0))) := by
    rw [hW, hx1]
    exact (heap_alloc_old _ _ (by simp)).trans (heap_alloc_new w _)
  have HX2' : W.heap[x2]? = some (.cells #[.int .i64 a0, .slice p1 rg.length p3, .int .i64 a2, .slice q1 sb.length q3, .int .i64 a4, .int .i64 a5, .bool a6, .int .i64 a7, .string a8] 26 (0, 0)) := by
    rw [hW, hx2]
    have := heap_alloc_new (w.alloc (.cells #[.int .i64 a0, .slice r1 rg.length r3, .int .i64 a2, .slice s1 sb.length s3, .int .i64 a4, .int .i64 a5, .bool a6, .int .i64 a7, .string a8] 26)) (.cells #[.int .i64 a0, .slice p1 rg.length p3, .int .i64 a2, .slice q1 sb.length q3, .int .i64 a4, .int .i64 a5, .bool a6, .int .i64 a7, .string a8] 26)
    simpa using this
  have HX2 := hid HX2'
  clear HX2'
  have l1 : x1 < W.heap.size := (Array.getElem?_eq_some_iff.1 HX1.out).1
  have l2 : x2 < W.heap.size := (Array.getElem?_eq_some_iff.1 HX2.out).1
  have kr : rg.length ≤ 9223372036854775807 := by
    rcases HR.out.2 with ⟨_, h⟩ | ⟨g, cap, cur, he, h1, h2, h3, h4, h5, h6⟩
    · omega
    · unfold maxLen at h4
      omega
  have ks : sb.length ≤ 9223372036854775807 := by
    rcases HS.out.2 with ⟨_, h⟩ | ⟨g, cap, cur, he, h1, h2, h3, h4, h5, h6⟩
    · omega
    · unfold maxLen at h4
      omega
  rw [← hW, ← hx2, ← hx1]
  have HW := hid hW
  have E1 := hid hx1
  have E2 := hid hx2
  clear hW hx1 hx2
  go_loopw [5] (fun x wq => ∃ i : Nat, x = .int .i64 (i : Int) ∧ i ≤ rg.length ∧ Hid (Below W.heap.size W wq) ∧ Hid (∀ m (g1 : m < rg.length) (g2 : m < rg'.length), m < i → rg[m]'g1 = rg'[m]'g2)) (fun x _ => rg.length - (intOf x).toNat)
  case atStart => exact ⟨0, rfl, by omega, Below.refl _ _, fun m _ _ h => by omega⟩
  case round =>
    obtain ⟨i, rfl, hi, BK, HG⟩ := hrel
    obtain ⟨o0, o1, o2, o3, o4, o5, o6, o7, o8⟩ := blk9 ((BK.out.block x1 l1).trans HX1.out)
    obtain ⟨u0, u1, u2, u3, u4, u5, u6, u7, u8⟩ := blk9 ((BK.out.block x2 l2).trans HX2.out)
    by_cases hil : i < rg.length
    · have b1 : decide ((i : Int) < (rg.length : Int)) = true := by simp; omega
      have b2 : (i : Int) < (rg.length : Int) := by omega
      have hil' : i < rg'.length := by have := HL1.out; omega
      have some_of : ∀ {a : Option Addr} {c e sz : Nat} {xs : List Value}, w.ownsRow N e sz (.slice a rg.length c) rg.length xs → ∃ b, a = some ⟨b, 0, none⟩ := by
        intro a c e sz xs h
        rcases h.2 with ⟨_, h⟩ | ⟨g, cap, cur, he, _⟩
        · omega
        · simp only [Value.slice.injEq] at he
          exact ⟨g, he.1⟩
      obtain ⟨rb, rfl⟩ := some_of HR.out
      obtain ⟨pb, rfl⟩ := some_of HR'.out
      have hwW : ∀ k, k < w.heap.size → wr.heap[k]? = w.heap[k]? := fun k hk => (BK.out.block k (by have := HBW.out.size; omega)).trans (HBW.out.block k hk)
      have hR : wr.ownsRow N 62 2 (.slice (some ⟨rb, 0, none⟩) rg.length r3) rg.length (fl rg) := row_kept HR.out fun k hk => hwW k (HR.out.lt k hk).2
      have hR' : wr.ownsRow N 62 2 (.slice (some ⟨pb, 0, none⟩) rg.length p3) rg.length (fl rg') := row_kept HR'.out fun k hk => hwW k (HR'.out.lt k hk).2
      have m0 := (hR.cellAt (i * 2) (by omega)).trans (fl_at hil).1
      have m1 := (hR.cellAt (i * 2 + 1) (by omega)).trans (fl_at hil).2
      have v0 := (hR'.cellAt (i * 2) (by omega)).trans (fl_at hil').1
      have v1 := (hR'.cellAt (i * 2 + 1) (by omega)).trans (fl_at hil').2
      have c1 : rg.length ≤ r3 := by obtain ⟨cur, hc⟩ := row_some hR; exact (row_blk hR hc).2.1
      have c2 : rg.length ≤ p3 := by obtain ⟨cur, hc⟩ := row_some hR'; exact (row_blk hR' hc).2.1
      clear hR hR' hwW some_of
      obtain ⟨⟨lo, hi'⟩, hv⟩ : ∃ v, rg[i]'hil = v := ⟨_, rfl⟩
      obtain ⟨⟨lo', hi''⟩, hv'⟩ : ∃ v, rg'[i]'hil' = v := ⟨_, rfl⟩
      rw [hv] at m0 m1
      rw [hv'] at v0 v1
      simp only at m0 m1 v0 v1
      have ad1 : IntKind.i64.wrap ((i : Int) + 1) = (i : Int) + 1 := by simp [IntKind.wrap, IntKind.bits, IntKind.signed]; omega
      obtain ⟨bv, hbv⟩ : ∃ bv, (!((lo == lo') && (hi' == hi''))) = bv := ⟨_, rfl⟩
      have hneq := fun W' => rng_neq lo hi' lo' hi'' W'
      rw [hbv] at hneq
      have hgd := fun x y W' => rng_guard x y lo hi' lo' hi'' W'
      have HBV := hid hbv
      clear hbv
      cases bv with
      | true =>
        have hr0 : res = false := by
          rw [← hres.out]
          have : ¬ rg = rg' := fun e => by
            subst e
            rw [hv] at hv'
            injection hv' with q1 q2
            subst q1 q2
            have := HBV.out
            simp at this
          simp [this]
        go_wp2_with fail
        go_quiet (fail)
        go_wp2
        go_ret
        exact ⟨by rw [hr0]; rfl, (HBW.out.trans (Joins.below_le BK.out HBW.out.size)).trans ⟨rfl, rfl, rfl, Nat.le_refl _, fun _ _ => rfl⟩⟩
      | false =>
        have heq : rg[i]'hil = rg'[i]'hil' := by
          rw [hv, hv']
          have := HBV.out
          simp at this
          rw [this.1, this.2]
        have HEQ := hid heq
        clear heq
        go_wp2_with fail
        go_quiet (fail)
        go_wp2
        refine ⟨⟨i + 1, by push_cast; rfl, by omega, BK.out.trans ⟨rfl, rfl, rfl, Nat.le_refl _, fun _ _ => rfl⟩, fun m g1 g2 hm => ?_⟩, ?_⟩
        · rcases Nat.lt_or_ge m i with h | h
          · exact HG.out m g1 g2 h
          · obtain rfl : m = i := by omega
            exact HEQ.out
        · simp [intOf]
          omega
    · have b1 : decide ((i : Int) < (rg.length : Int)) = false := by simp; omega
      have hrr : rg = rg' := List.ext_getElem HL1.out fun m g1 g2 => HG.out m g1 g2 (by omega)
      have HRR := hid hrr
      have hres2 : Hid (sameTs sb sb' = res) := by
        show sameTs sb sb' = res
        rw [← hres.out, hrr]
        simp
      clear hrr hres
      go_wp2_with fail
      clear b1 o0 o1 o2 o3 o4 o5 o6 o7 o8 u0 u1 u2 u3 u4 u5 u6 u7 u8
      go_loopw [6] (fun x wq => ∃ i2 : Nat, x = .int .i64 (i2 : Int) ∧ i2 ≤ sb.length ∧ Hid (Below W.heap.size W wq) ∧ Hid (∀ m (g1 : m < sb.length) (g2 : m < sb'.length), m < i2 → sameT (sb[m]'g1) (sb'[m]'g2) = true)) (fun x _ => sb.length - (intOf x).toNat)
      case atStart => exact ⟨0, rfl, by omega, BK, fun m _ _ h => by omega⟩
      case round =>
        clear BK HG
        obtain ⟨i2, rfl, hi2, BK, HG⟩ := hrel
        obtain ⟨o0, o1, o2, o3, o4, o5, o6, o7, o8⟩ := blk9 ((BK.out.block x1 l1).trans HX1.out)
        obtain ⟨u0, u1, u2, u3, u4, u5, u6, u7, u8⟩ := blk9 ((BK.out.block x2 l2).trans HX2.out)
        by_cases hil2 : i2 < sb.length
        · have b1 : decide ((i2 : Int) < (sb.length : Int)) = true := by simp; omega
          have b2 : (i2 : Int) < (sb.length : Int) := by omega
          have hil2' : i2 < sb'.length := by have := HL2.out; omega
          have some_of : ∀ {a : Option Addr} {c e sz : Nat} {xs : List Value}, w.ownsRow N e sz (.slice a sb.length c) sb.length xs → ∃ b, a = some ⟨b, 0, none⟩ := by
            intro a c e sz xs h
            rcases h.2 with ⟨_, h⟩ | ⟨g, cap, cur, he, _⟩
            · omega
            · simp only [Value.slice.injEq] at he
              exact ⟨g, he.1⟩
          obtain ⟨b, rfl⟩ := some_of HS.out
          obtain ⟨b', rfl⟩ := some_of HS'.out
          have hwW : ∀ k, k < w.heap.size → wr.heap[k]? = w.heap[k]? := fun k hk => (BK.out.block k (by have := HBW.out.size; omega)).trans (HBW.out.block k hk)
          obtain ⟨Fi, hTi0, hFi⟩ := HT.out.get i2 hil2
          obtain ⟨Gi, hUi0, hGi⟩ := HT'.out.get i2 hil2'
          have hTi : TV N wr ((cl.drop (i2 * 9)).take 9) (sb[i2]'hil2) Fi := hTi0.kept fun k hk => hwW k (hTi0.low k hk).2
          have hUi : TV N wr ((cl'.drop (i2 * 9)).take 9) (sb'[i2]'hil2') Gi := hUi0.kept fun k hk => hwW k (hUi0.low k hk).2
          have hrow : wr.ownsRow N 26 9 (.slice (some ⟨b, 0, none⟩) sb.length s3) sb.length cl := row_kept HS.out fun k hk => hwW k (HS.out.lt k hk).2
          have hrow' : wr.ownsRow N 26 9 (.slice (some ⟨b', 0, none⟩) sb.length q3) sb.length cl' := row_kept HS'.out fun k hk => hwW k (HS'.out.lt k hk).2
          have hcap : sb.length ≤ s3 := by obtain ⟨cur, hc⟩ := row_some hrow; exact (row_blk hrow hc).2.1
          have hcap' : sb.length ≤ q3 := by obtain ⟨cur, hc⟩ := row_some hrow'; exact (row_blk hrow' hc).2.1
          have hnc := node_cells hrow hil2 rfl
          have hnc' := node_cells hrow' hil2 rfl
          obtain ⟨ci, hci⟩ : ∃ ci, ci = (cl.drop (i2 * 9)).take 9 := ⟨_, rfl⟩
          obtain ⟨di, hdi⟩ : ∃ di, di = (cl'.drop (i2 * 9)).take 9 := ⟨_, rfl⟩
          rw [← hci] at hTi hnc
          rw [← hdi] at hUi hnc'
          have C1 : ∀ W', Below wr.heap.size wr W' → Calls Tryz.prog 10 #[.agg ci.toArray, .agg di.toArray] W' fun e w' => e = .returned (.bool (sameT (sb[i2]'hil2) (sb'[i2]'hil2'))) ∧ Hid (Below wr.heap.size wr w') := fun W' hB =>
            (ih.out (sb[i2]'hil2) (sb'[i2]'hil2') N W' ci di Fi Gi (by have := tsize_mem hil2; omega) (hTi.kept fun k hk => hB.block k (hTi.low k hk).2) (hUi.kept fun k hk => hB.block k (hUi.low k hk).2)).mono fun e w' h => ⟨h.1, hB.trans (Joins.below_le h.2 hB.size)⟩
          obtain ⟨c0, c2, c4, c5, c7, c6, c8, e1, f1, e2, e3, f2, f3, rfl⟩ := tv_cells hTi
          obtain ⟨d0, d2, d4, d5, d7, d6, d8, g1, j1, g2, g3, j2, j3, rfl⟩ := tv_cells hUi
          have n0 : wr.cell? ⟨b, i2 * 9, none⟩ = some (.int .i64 c0) := hnc 0 (by decide)
          have n1 : wr.cell? ⟨b, i2 * 9 + 1, none⟩ = some (.slice e1 e2 e3) := hnc 1 (by decide)
          have n2 : wr.cell? ⟨b, i2 * 9 + 2, none⟩ = some (.int .i64 c2) := hnc 2 (by decide)
          have n3 : wr.cell? ⟨b, i2 * 9 + 3, none⟩ = some (.slice f1 f2 f3) := hnc 3 (by decide)
          have n4 : wr.cell? ⟨b, i2 * 9 + 4, none⟩ = some (.int .i64 c4) := hnc 4 (by decide)
          have n5 : wr.cell? ⟨b, i2 * 9 + 5, none⟩ = some (.int .i64 c5) := hnc 5 (by decide)
          have n6 : wr.cell? ⟨b, i2 * 9 + 6, none⟩ = some (.bool c6) := hnc 6 (by decide)
          have n7 : wr.cell? ⟨b, i2 * 9 + 7, none⟩ = some (.int .i64 c7) := hnc 7 (by decide)
          have n8 : wr.cell? ⟨b, i2 * 9 + 8, none⟩ = some (.string c8) := hnc 8 (by decide)
          have k0 : wr.cell? ⟨b', i2 * 9, none⟩ = some (.int .i64 d0) := hnc' 0 (by decide)
          have k1 : wr.cell? ⟨b', i2 * 9 + 1, none⟩ = some (.slice g1 g2 g3) := hnc' 1 (by decide)
          have k2 : wr.cell? ⟨b', i2 * 9 + 2, none⟩ = some (.int .i64 d2) := hnc' 2 (by decide)
          have k3 : wr.cell? ⟨b', i2 * 9 + 3, none⟩ = some (.slice j1 j2 j3) := hnc' 3 (by decide)
          have k4 : wr.cell? ⟨b', i2 * 9 + 4, none⟩ = some (.int .i64 d4) := hnc' 4 (by decide)
          have k5 : wr.cell? ⟨b', i2 * 9 + 5, none⟩ = some (.int .i64 d5) := hnc' 5 (by decide)
          have k6 : wr.cell? ⟨b', i2 * 9 + 6, none⟩ = some (.bool d6) := hnc' 6 (by decide)
          have k7 : wr.cell? ⟨b', i2 * 9 + 7, none⟩ = some (.int .i64 d7) := hnc' 7 (by decide)
          have k8 : wr.cell? ⟨b', i2 * 9 + 8, none⟩ = some (.string d8) := hnc' 8 (by decide)
          clear hnc hci hTi hTi0 hrow hnc' hdi hUi hUi0 hrow' hwW some_of
          have ad1 : IntKind.i64.wrap ((i2 : Int) + 1) = (i2 : Int) + 1 := by simp [IntKind.wrap, IntKind.bits, IntKind.signed]; omega
          obtain ⟨gb, hgb⟩ : ∃ gb, sameT (sb[i2]'hil2) (sb'[i2]'hil2') = gb := ⟨_, rfl⟩
          rw [hgb] at C1
          have HGB := hid hgb
          clear hgb
          cases gb with
          | true =>
            go_wp2_with fail
            go_region_with (go_at_call 10; (with_reducible refine (C1 _ ?_).mono ?_); (exact ⟨rfl, rfl, rfl, Nat.le_refl _, fun _ _ => rfl⟩); rintro e w6 ⟨rfl, HB6⟩)
            all_goals go_wp2
            all_goals
              refine ⟨⟨i2 + 1, by push_cast; rfl, by omega, BK.out.trans (Joins.below_le HB6.out BK.out.size), fun m g1 g2 hm => ?_⟩, ?_⟩
              · rcases Nat.lt_or_ge m i2 with h | h
                · exact HG.out m g1 g2 h
                · obtain rfl : m = i2 := by omega
                  exact HGB.out
              · simp [intOf]
                omega
          | false =>
            have hr0 : res = false := by
              rw [← hres2.out]
              cases hq : sameTs sb sb' with
              | false => rfl
              | true =>
                have := (sameTs_at HL2.out).1 hq i2 hil2 hil2'
                rw [HGB.out] at this
                exact absurd this (by decide)
            go_wp2_with fail
            go_region_with (go_at_call 10; (with_reducible refine (C1 _ ?_).mono ?_); (exact ⟨rfl, rfl, rfl, Nat.le_refl _, fun _ _ => rfl⟩); rintro e w6 ⟨rfl, HB6⟩)
            all_goals go_wp2
            all_goals
              go_ret
              refine ⟨by rw [hr0]; rfl, ?_⟩
              exact (HBW.out.trans (Joins.below_le BK.out HBW.out.size)).trans (Joins.below_le HB6.out (Nat.le_trans HBW.out.size BK.out.size))
        · have b1 : decide ((i2 : Int) < (sb.length : Int)) = false := by simp; omega
          have hr1 : res = true := by
            rw [← hres2.out]
            exact (sameTs_at HL2.out).2 fun m g1 g2 => HG.out m g1 g2 (by omega)
          go_wp2
          go_ret
          exact ⟨by rw [hr1]; rfl, HBW.out.trans (Joins.below_le BK.out HBW.out.size)⟩
end Go.Proofs.YtenanfkmmkmolaaGreatDoor
namespace Go.Proofs.YtenanfkmmkmolaaGreatDoor
open Go.RowKit Go.Mx
set_option linter.unusedVariables false
set_option linter.unusedSimpArgs false
theorem bytes_same {a b : ByteArray} (h : a.toList = b.toList) : a = b := by
  rw [ByteArray.toList_eq, ByteArray.toList_eq] at h
  cases a
  cases b
  simp at h
  rw [h]
theorem bytes_ne {a b : ByteArray} (h : ¬ a = b) : ¬ a.data = b.data := fun e => h (by cases a; cases b; simp at e; rw [e])
theorem same10_all : ∀ (z : Nat) (x y : Tree) (N : Nat) (w : World) (cx cy : List Value) (F G : List Nat), tsize x ≤ z → TV N w cx x F → TV N w cy y G → Calls Tryz.prog 10 #[.agg cx.toArray, .agg cy.toArray] w fun e w' => e = .returned (.bool (sameT x y)) ∧ Below w.heap.size w w' := by
  intro z
  induction z with
  | zero =>
    intro x y N w cx cy F G hz hT hU
    cases x
    simp [tsize] at hz
  | succ z ih =>
    intro x y N w cx cy F G hz hT hU
    cases hT with
    | @mk a0 rg a2 sb a4 a5 a6 a7 a8 rv sv cl F1 hr hs ht =>
    cases hU with
    | @mk b0 rg' b2 sb' b4 b5 b6 b7 b8 rv' sv' cl' G1 hr' hs' ht' =>
    have form : ∀ {e sz n : Nat} {v : Value} {xs : List Value}, w.ownsRow N e sz v n xs → ∃ s1 s3, v = .slice s1 n s3 := by
      intro e sz n v xs h
      rcases Joins.ownsRow_forms h with ⟨rfl, h0⟩ | ⟨b, cap, rfl⟩
      · exact ⟨none, 0, by rw [h0]⟩
      · exact ⟨_, _, rfl⟩
    obtain ⟨r1, r3, rfl⟩ := form hr
    obtain ⟨s1, s3, rfl⟩ := form hs
    obtain ⟨p1, p3, rfl⟩ := form hr'
    obtain ⟨q1, q3, rfl⟩ := form hs'
    by_cases h0 : a0 = b0
    rotate_left
    · have e : sameT (.node a0 rg a2 sb a4 a5 a6 a7 a8) (.node b0 rg' b2 sb' b4 b5 b6 b7 b8) = false := by simp [sameT, h0]
      rw [e]
      exact same10_d0 a0 a2 a4 a5 a7 b0 b2 b4 b5 b7 a6 b6 a8 b8 r1 s1 p1 q1 _ _ _ _ _ _ _ _ w h0
    subst h0
    by_cases h1 : a2 = b2
    rotate_left
    · have e : sameT (.node a0 rg a2 sb a4 a5 a6 a7 a8) (.node a0 rg' b2 sb' b4 b5 b6 b7 b8) = false := by simp [sameT, h1]
      rw [e]
      exact same10_d1 a0 a2 a4 a5 a7 a0 b2 b4 b5 b7 a6 b6 a8 b8 r1 s1 p1 q1 _ _ _ _ _ _ _ _ w h1
    subst h1
    by_cases h2 : a4 = b4
    rotate_left
    · have e : sameT (.node a0 rg a2 sb a4 a5 a6 a7 a8) (.node a0 rg' a2 sb' b4 b5 b6 b7 b8) = false := by simp [sameT, h2]
      rw [e]
      exact same10_d2 a0 a2 a4 a5 a7 a0 a2 b4 b5 b7 a6 b6 a8 b8 r1 s1 p1 q1 _ _ _ _ _ _ _ _ w h2
    subst h2
    by_cases h3 : a5 = b5
    rotate_left
    · have e : sameT (.node a0 rg a2 sb a4 a5 a6 a7 a8) (.node a0 rg' a2 sb' a4 b5 b6 b7 b8) = false := by simp [sameT, h3]
      rw [e]
      exact same10_d3 a0 a2 a4 a5 a7 a0 a2 a4 b5 b7 a6 b6 a8 b8 r1 s1 p1 q1 _ _ _ _ _ _ _ _ w h3
    subst h3
    by_cases h4 : a6 = b6
    rotate_left
    · have e : sameT (.node a0 rg a2 sb a4 a5 a6 a7 a8) (.node a0 rg' a2 sb' a4 a5 b6 b7 b8) = false := by simp [sameT, h4]
      rw [e]
      exact same10_d4 a0 a2 a4 a5 a7 a0 a2 a4 a5 b7 a6 b6 a8 b8 r1 s1 p1 q1 _ _ _ _ _ _ _ _ w h4
    subst h4
    by_cases h5 : a7 = b7
    rotate_left
    · have e : sameT (.node a0 rg a2 sb a4 a5 a6 a7 a8) (.node a0 rg' a2 sb' a4 a5 a6 b7 b8) = false := by simp [sameT, h5]
      rw [e]
      exact same10_d5 a0 a2 a4 a5 a7 a0 a2 a4 a5 b7 a6 a6 a8 b8 r1 s1 p1 q1 _ _ _ _ _ _ _ _ w h5
    subst h5
    by_cases h6 : a8 = b8
    rotate_left
    · have e : sameT (.node a0 rg a2 sb a4 a5 a6 a7 a8) (.node a0 rg' a2 sb' a4 a5 a6 a7 b8) = false := by simp [sameT, bytes_ne h6]
      rw [e]
      exact same10_d6 a0 a2 a4 a5 a7 a0 a2 a4 a5 a7 a6 a6 a8 b8 r1 s1 p1 q1 _ _ _ _ _ _ _ _ w (fun h => h6 (bytes_same h))
    subst h6
    have e : sameT (.node a0 rg a2 sb a4 a5 a6 a7 a8) (.node a0 rg' a2 sb' a4 a5 a6 a7 a8) = ((rg == rg') && sameTs sb sb') := by simp [sameT]
    rw [e]
    by_cases h7 : rg.length = rg'.length
    rotate_left
    · have e : ((rg == rg') && sameTs sb sb') = false := by
        have : ¬ rg = rg' := fun h => h7 (by rw [h])
        simp [this]
      rw [e]
      exact same10_d7 a0 a2 a4 a5 a7 a0 a2 a4 a5 a7 a6 a6 a8 a8 r1 s1 p1 q1 _ _ _ _ _ _ _ _ w h7
    by_cases h8 : sb.length = sb'.length
    rotate_left
    · have e : ((rg == rg') && sameTs sb sb') = false := by
        have : ∀ {s t : List Tree}, ¬ s.length = t.length → sameTs s t = false := by
          intro s
          induction s with
          | nil => intro t h; cases t with | nil => simp at h | cons a b => simp [sameTs]
          | cons x s ih =>
            intro t h
            cases t with
            | nil => simp [sameTs]
            | cons y t => simp [sameTs, ih (t := t) (by simpa using h)]
        rw [this h8]
        simp
      rw [e, ← h7]
      exact same10_d8 a0 a2 a4 a5 a7 a0 a2 a4 a5 a7 a6 a6 a8 a8 r1 s1 p1 q1 _ _ _ _ 0 _ _ _ w h8
    have hz2 : tsizes sb ≤ z := by simp [tsize] at hz; omega
    have hr2 : w.ownsRow N 62 2 (.slice p1 rg.length p3) rg.length (fl rg') := by rw [h7]; exact hr'
    have hs2 : w.ownsRow N 26 9 (.slice q1 sb.length q3) sb.length cl' := by rw [h8]; exact hs'
    have := same10_e z (hid ih) a0 a2 a4 a5 a7 a6 a8 r1 s1 p1 q1 r3 s3 p3 q3 rg rg' sb sb' N w cl cl' F1 G1 (hid h7) (hid h8) hz2 (hid hr) (hid hs) (hid ht) (hid hr2) (hid hs2) (hid ht') (hid rfl)
    rw [h7, h8] at this
    rw [h7, h8]
    exact this
end Go.Proofs.YtenanfkmmkmolaaGreatDoor
