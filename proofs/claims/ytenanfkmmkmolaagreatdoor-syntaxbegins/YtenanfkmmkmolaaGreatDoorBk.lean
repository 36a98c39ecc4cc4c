/- PROVED: the law SyntaxBegins of layer 4 answers true for all bytes p and more and every number at: a pattern of over MaxPattern bytes is told so; each beginning of what is of the grammar is a pattern or ends too early; a byte that cannot stand stays so, at the same place, whatever stands behind it; and the arguments read afterwards as they read before.
   CONDITIONS: the form's own (each string at most 2^47 - 4096 bytes); the variables errors.errorType, runes.forms and runes.sizes start as the program's text lays them (the given card ties that); the card speaks of the pruned copy of the project that the seat holds. -/
import Derived.Test.YtenanfkmmkmolaaGreatDoorK10
import Derived.Laws.Concat
import Derived.Laws.Strings
import Derived.Lib.MinMax
import Derived.Test.YtenanfkmmkmolaaGreatDoorCards
import Derived.Test.YtenanfkmmkmolaaGreatDoorTie
import Derived.SizedLaws
import Derived.ChangeMaps5
/- HELPERS: the walk of the law SyntaxBegins. -/
namespace Go.Proofs.YtenanfkmmkmolaaGreatDoor
open Go.RowKit Go.Mx
set_option linter.unusedVariables false
set_option linter.unusedSimpArgs false
theorem txt_bytes (p : ByteArray) : ∀ x ∈ txt p, 0 ≤ x ∧ x < 256 := by
  intro x hx
  simp only [txt, List.mem_map] at hx
  obtain ⟨b, _, rfl⟩ := hx
  have := b.toNat_lt
  omega
theorem txt_nx (p : ByteArray) (i : Nat) (h : i < p.size) : nx (txt p) i = (p.data[i]'h).toNat := by
  rw [nx_in (by rw [txt_len]; exact h)]
  simp [txt]
theorem txt_extract (p : ByteArray) (k : Nat) (h : k ≤ p.size) : (p.extract 0 k).size = k ∧ ∀ i, i < k → nx (txt (p.extract 0 k)) i = nx (txt p) i := by
  have hs : (p.extract 0 k).size = k := by simp [ByteArray.size_extract]; omega
  refine ⟨hs, fun i hi => ?_⟩
  rw [txt_nx _ _ (by omega), txt_nx _ _ (by omega)]
  simp [ByteArray.data_extract]
theorem txt_append (p q : ByteArray) : (p ++ q).size = p.size + q.size ∧ ∀ i, i < p.size → nx (txt (p ++ q)) i = nx (txt p) i := by
  have hs : (p ++ q).size = p.size + q.size := ByteArray.size_append
  refine ⟨hs, fun i hi => ?_⟩
  rw [txt_nx _ _ (by omega), txt_nx _ _ (by omega)]
  simp [ByteArray.data_append, Array.getElem_append_left, hi]
theorem code_cases (p : ByteArray) : (codeP p = (2, -1) ∧ 65536 < p.size) ∨ (p.size ≤ 65536 ∧ ∃ k : Nat, codeP p = (40, (k : Int)) ∧ k ≤ p.size ∧ patternP (txt p) = .error k) ∨ (p.size ≤ 65536 ∧ (codeP p).1 ≠ 2 ∧ (codeP p).1 ≠ 40 ∧ ∀ k, patternP (txt p) ≠ .error k) := by
  unfold codeP
  cases h : faultP p with
  | none =>
    obtain ⟨hp, x, hx⟩ := faultP_none h
    exact .inr (.inr ⟨hp, by simp, by simp, fun k hk => by rw [hx] at hk; cases hk⟩)
  | some y =>
    obtain ⟨co, at_⟩ := y
    rcases faultP_ok h with ⟨h1, h2, h3⟩ | ⟨hp, k, h1, h2, h3⟩ | ⟨hp, h1, x, h2⟩
    · subst h1 h2
      exact .inl ⟨rfl, h3⟩
    · subst h1 h2
      refine .inr (.inl ⟨hp, k, rfl, ?_, h3⟩)
      have := (dead_stays (txt_bytes p) h3).1
      rw [txt_len] at this
      exact this
    · refine .inr (.inr ⟨hp, ?_, ?_, fun k hk => by rw [h2] at hk; cases hk⟩)
      · show co ≠ 2
        unfold okC at h1
        omega
      · show co ≠ 40
        unfold okC at h1
        omega
/-- a beginning of what has no dead byte -/
theorem begin_code (p : ByteArray) (hp : p.size ≤ 65536) (hd : ∀ k, patternP (txt p) ≠ .error k) (k : Nat) (hk : k ≤ p.size) : (codeP (p.extract 0 k)).1 ≠ 2 ∧ ((codeP (p.extract 0 k)).1 ≠ 40 ∨ codeP (p.extract 0 k) = (40, (k : Int))) := by
  obtain ⟨hs, hx⟩ := txt_extract p k hk
  rcases code_cases (p.extract 0 k) with ⟨_, h2⟩ | ⟨_, j, h1, h2, h3⟩ | ⟨_, h1, h2, _⟩
  · omega
  · rw [h1]
    refine ⟨by simp, .inr ?_⟩
    rw [hs] at h2
    rcases Nat.lt_or_ge j k with hj | hj
    · exact absurd ((dead_stays (txt_bytes _) h3).2 (txt p) (txt_bytes p) (fun i hi => by first | exact hx i (by omega) | exact (hx i (by omega)).symm)) (hd j)
    · rw [show j = k by omega]
  · exact ⟨h1, .inl h2⟩
/-- a dead byte stays dead -/
theorem dead_code (p more : ByteArray) (j : Nat) (hj : j < p.size) (h : patternP (txt p) = .error j) : (65536 < (p.extract 0 (j + 1) ++ more).size ∧ (codeP (p.extract 0 (j + 1) ++ more)).1 = 2) ∨ ((p.extract 0 (j + 1) ++ more).size ≤ 65536 ∧ codeP (p.extract 0 (j + 1) ++ more) = (40, (j : Int))) := by
  obtain ⟨hs, hx⟩ := txt_extract p (j + 1) (by omega)
  obtain ⟨ha, hy⟩ := txt_append (p.extract 0 (j + 1)) more
  have hdead : patternP (txt (p.extract 0 (j + 1) ++ more)) = .error j := (dead_stays (txt_bytes _) h).2 _ (txt_bytes _) (fun i hi => by
    have e := (hy i (by omega)).trans (hx i (by omega))
    first | exact e | exact e.symm)
  rcases code_cases (p.extract 0 (j + 1) ++ more) with ⟨h1, h2⟩ | ⟨hp, k, h1, h2, h3⟩ | ⟨_, _, _, h3⟩
  · exact .inl ⟨h2, by rw [h1]⟩
  · rw [hdead] at h3
    injection h3 with h3
    subst h3
    exact .inr ⟨hp, h1⟩
  · exact absurd hdead (h3 j)
end Go.Proofs.YtenanfkmmkmolaaGreatDoor
/- HELPERS: the walk of the law SyntaxBegins. -/
namespace Go.Proofs.YtenanfkmmkmolaaGreatDoor
open Go.RowKit Go.Mx
set_option linter.unusedVariables false
set_option linter.unusedSimpArgs false
set_option maxRecDepth 100000 in
set_option maxHeartbeats 2000000 in
theorem begins4_long (p more : ByteArray) (at_ : Int) (w : World) (hgl : Gl w) (hp : p.size ≤ 140737488355328) (hc : codeP p = (2, -1)) (hl : 65536 < p.size) :
    Calls Tryz.prog 4 #[.string p, .int .i64 at_, .string more] w fun e w' => e = .returned (.bool true) ∧ Below w.heap.size w w' := by
  have C0 := awake7 w hgl
  have hb : decide (65536 < (p.size : Int)) = true := by simp; omega
  go_enter Tryz.func4, Tryz.ntmps4
  go_wp2_with (go_at_call 7; (with_reducible refine C0.mono ?_); rintro e w1 ⟨rfl, B1⟩; have G1 := hgl.below B1 (by have := hgl.big; omega); have C1 := parsed9_any p (by omega) w1 G1; rw [hc] at C1; have HB1 := hid B1; clear B1)
  go_wp2_with (go_at_call 9; (with_reducible refine C1.mono ?_); rintro e w2 ⟨a0, a2, a4, a5, a7, a6, a8, r1, s1, r2, r3, s2, s3, rfl, B2⟩; have HB2 := hid B2; clear B2)
  go_ret
  exact ⟨rfl, (HB1.out.trans (Joins.below_le HB2.out HB1.out.size)).trans (Joins.below_le (Joins.below_alloc2 w2 _ _) (Nat.le_trans HB1.out.size HB2.out.size))⟩
set_option maxRecDepth 100000 in
set_option maxHeartbeats 2000000 in
theorem begins4_live (p more : ByteArray) (at_ : Int) (w : World) (hgl : Gl w) (hp : p.size ≤ 65536) {co ca : Int} (hc : codeP p = (co, ca)) (h2 : co ≠ 2) (h40 : co ≠ 40) {k : Nat} (hk : k ≤ p.size) (hkv : (max 0 at_).tmod ((p.size : Int) + 1) = (k : Int)) {go ga : Int} (hg : codeP (p.extract 0 k) = (go, ga)) (g2 : go ≠ 2) (g40 : go ≠ 40 ∨ ga = k) :
    Calls Tryz.prog 4 #[.string p, .int .i64 at_, .string more] w fun e w' => e = .returned (.bool true) ∧ Below w.heap.size w w' := by
  by_cases g : go = 40
  · subst g
    have hga : ga = k := by omega
    subst hga
    have C0 := awake7 w hgl
    have e2 : (co == 2) = false := by simpa using h2
    have e40 : (co == 40) = false := by simpa using h40
    go_enter Tryz.func4, Tryz.ntmps4
    go_wp2_with (go_at_call 7; (with_reducible refine C0.mono ?_); rintro e w1 ⟨rfl, B1⟩; have G1 := hgl.below B1 (by have := hgl.big; omega); have C1 := parsed9_any p (by omega) w1 G1; rw [hc] at C1; have HB1 := hid B1; clear B1)
    go_wp2_with (go_at_call 9; (with_reducible refine C1.mono ?_); rintro e w2 ⟨a0, a2, a4, a5, a7, a6, a8, r1, s1, r2, r3, s2, s3, rfl, B2⟩; have HB2 := hid B2; clear B2)
    obtain ⟨W, hW⟩ : ∃ W, W = ((w2.alloc (.cells #[.int .i64 a0, .slice r1 r2 r3, .int .i64 a2, .slice s1 s2 s3, .int .i64 a4, .int .i64 a5, .bool a6, .int .i64 a7, .string a8] 26)).alloc (.cells #[.int .i64 co, .int .i64 ca] 29)) := ⟨_, rfl⟩
    have BW : Below w.heap.size w W := by rw [hW]; exact (HB1.out.trans (Joins.below_le HB2.out HB1.out.size)).trans (Joins.below_le (Joins.below_alloc2 w2 _ _) (Nat.le_trans HB1.out.size HB2.out.size))
    have C2 := parsed9_any (p.extract 0 k) (by have := (txt_extract p k hk).1; omega) W (hgl.below BW (by have := hgl.big; omega))
    rw [hg] at C2
    rw [← hW]
    refine C2.mono ?_
    rintro e w3 ⟨b0, b2, b4, b5, b7, b6, b8, q1, t1, q2, q3, t2, t3, rfl, B3⟩
    have HB3 := hid B3
    have HBW := hid BW
    clear B3 BW
    go_wp2
    go_ret
    exact ⟨rfl, (HBW.out.trans (Joins.below_le HB3.out HBW.out.size)).trans (Joins.below_le (Joins.below_alloc2 w3 _ _) (Nat.le_trans HBW.out.size HB3.out.size))⟩
  · have f40 : (go == 40) = false := by simpa using g
    have C0 := awake7 w hgl
    have e2 : (co == 2) = false := by simpa using h2
    have e40 : (co == 40) = false := by simpa using h40
    have f2 : (go != 2) = true := by simpa using g2
    go_enter Tryz.func4, Tryz.ntmps4
    go_wp2_with (go_at_call 7; (with_reducible refine C0.mono ?_); rintro e w1 ⟨rfl, B1⟩; have G1 := hgl.below B1 (by have := hgl.big; omega); have C1 := parsed9_any p (by omega) w1 G1; rw [hc] at C1; have HB1 := hid B1; clear B1)
    go_wp2_with (go_at_call 9; (with_reducible refine C1.mono ?_); rintro e w2 ⟨a0, a2, a4, a5, a7, a6, a8, r1, s1, r2, r3, s2, s3, rfl, B2⟩; have HB2 := hid B2; clear B2)
    obtain ⟨W, hW⟩ : ∃ W, W = ((w2.alloc (.cells #[.int .i64 a0, .slice r1 r2 r3, .int .i64 a2, .slice s1 s2 s3, .int .i64 a4, .int .i64 a5, .bool a6, .int .i64 a7, .string a8] 26)).alloc (.cells #[.int .i64 co, .int .i64 ca] 29)) := ⟨_, rfl⟩
    have BW : Below w.heap.size w W := by rw [hW]; exact (HB1.out.trans (Joins.below_le HB2.out HB1.out.size)).trans (Joins.below_le (Joins.below_alloc2 w2 _ _) (Nat.le_trans HB1.out.size HB2.out.size))
    have C2 := parsed9_any (p.extract 0 k) (by have := (txt_extract p k hk).1; omega) W (hgl.below BW (by have := hgl.big; omega))
    rw [hg] at C2
    rw [← hW]
    refine C2.mono ?_
    rintro e w3 ⟨b0, b2, b4, b5, b7, b6, b8, q1, t1, q2, q3, t2, t3, rfl, B3⟩
    have HB3 := hid B3
    have HBW := hid BW
    clear B3 BW
    go_wp2
    go_ret
    exact ⟨rfl, (HBW.out.trans (Joins.below_le HB3.out HBW.out.size)).trans (Joins.below_le (Joins.below_alloc2 w3 _ _) (Nat.le_trans HBW.out.size HB3.out.size))⟩
set_option maxRecDepth 100000 in
set_option maxHeartbeats 2000000 in
theorem begins4_end (p more : ByteArray) (at_ : Int) (w : World) (hgl : Gl w) (hp : p.size ≤ 65536) (hc : codeP p = (40, (p.size : Int))) :
    Calls Tryz.prog 4 #[.string p, .int .i64 at_, .string more] w fun e w' => e = .returned (.bool true) ∧ Below w.heap.size w w' := by
  have C0 := awake7 w hgl
  go_enter Tryz.func4, Tryz.ntmps4
  go_wp2_with (go_at_call 7; (with_reducible refine C0.mono ?_); rintro e w1 ⟨rfl, B1⟩; have G1 := hgl.below B1 (by have := hgl.big; omega); have C1 := parsed9_any p (by omega) w1 G1; rw [hc] at C1; have HB1 := hid B1; clear B1)
  go_wp2_with (go_at_call 9; (with_reducible refine C1.mono ?_); rintro e w2 ⟨a0, a2, a4, a5, a7, a6, a8, r1, s1, r2, r3, s2, s3, rfl, B2⟩; have HB2 := hid B2; clear B2)
  go_ret
  exact ⟨rfl, (HB1.out.trans (Joins.below_le HB2.out HB1.out.size)).trans (Joins.below_le (Joins.below_alloc2 w2 _ _) (Nat.le_trans HB1.out.size HB2.out.size))⟩
set_option maxRecDepth 100000 in
set_option maxHeartbeats 2000000 in
theorem begins4_dead (p more : ByteArray) (at_ : Int) (w : World) (hgl : Gl w) (hp : p.size ≤ 65536) (hm : more.size ≤ 140737488355328) {j : Nat} (hj : j < p.size) (hc : codeP p = (40, (j : Int))) {go ga : Int} {Q : ByteArray} (hQ : p.extract 0 (j + 1) ++ more = Q) (hn2 : Q.size ≤ 140737488455328) (hg : codeP Q = (go, ga)) (h : (65536 < Q.size ∧ go = 2) ∨ (Q.size ≤ 65536 ∧ go = 40 ∧ ga = (j : Int))) :
    Calls Tryz.prog 4 #[.string p, .int .i64 at_, .string more] w fun e w' => e = .returned (.bool true) ∧ Below w.heap.size w w' := by
  have C0 := awake7 w hgl
  have l1 : decide ((p.size : Int) < (j : Int)) = false := by simp; omega
  have l2 : decide ((j : Int) < 0) = false := by simp
  have l3 : ((j : Int) == (p.size : Int)) = false := by simp; omega
  have l4 : IntKind.i64.wrap ((j : Int) + 1) = (j : Int) + 1 := i64_small _ (by omega) (by omega)
  have l5 : ((j : Int) + 1).toNat = j + 1 := by omega
  have l6 : (j : Int) + 1 ≤ (p.size : Int) := by omega
  have l7 : (0 : Int) ≤ (j : Int) + 1 := by omega
  have hes := (txt_extract p (j + 1) (by omega)).1
  have hadd : ∀ W : World, (Op.stringOp .add (p.extract 0 (j + 1)) more).run Tryz.prog W = .ok (.string Q) W := fun W => by rw [← hQ]; exact run_string_add_sum (P := Tryz.prog) (w := W) (p.extract 0 (j + 1)) more (by omega)
  clear hQ
  rcases h with ⟨h1, rfl⟩ | ⟨h1, rfl, rfl⟩
  · have m1 : decide (65536 < (Q.size : Int)) = true := by simp; omega
    go_enter Tryz.func4, Tryz.ntmps4
    go_wp2_with (go_at_call 7; (with_reducible refine C0.mono ?_); rintro e w1 ⟨rfl, B1⟩; have G1 := hgl.below B1 (by have := hgl.big; omega); have C1 := parsed9_any p (by omega) w1 G1; rw [hc] at C1; have HB1 := hid B1; clear B1)
    go_wp2_with (go_at_call 9; (with_reducible refine C1.mono ?_); rintro e w2 ⟨a0, a2, a4, a5, a7, a6, a8, r1, s1, r2, r3, s2, s3, rfl, B2⟩; have HB2 := hid B2; clear B2)
    obtain ⟨W, hW⟩ : ∃ W, W = ((w2.alloc (.cells #[.int .i64 a0, .slice r1 r2 r3, .int .i64 a2, .slice s1 s2 s3, .int .i64 a4, .int .i64 a5, .bool a6, .int .i64 a7, .string a8] 26)).alloc (.cells #[.int .i64 40, .int .i64 (j : Int)] 29)) := ⟨_, rfl⟩
    have BW : Below w.heap.size w W := by rw [hW]; exact (HB1.out.trans (Joins.below_le HB2.out HB1.out.size)).trans (Joins.below_le (Joins.below_alloc2 w2 _ _) (Nat.le_trans HB1.out.size HB2.out.size))
    have C2 := parsed9_any Q (by omega) W (hgl.below BW (by have := hgl.big; omega))
    rw [hg] at C2
    rw [← hW]
    refine C2.mono ?_
    rintro e w3 ⟨b0, b2, b4, b5, b7, b6, b8, q1, t1, q2, q3, t2, t3, rfl, B3⟩
    have HB3 := hid B3
    have HBW := hid BW
    clear B3 BW
    go_wp2
    go_ret
    exact ⟨rfl, (HBW.out.trans (Joins.below_le HB3.out HBW.out.size)).trans (Joins.below_le (Joins.below_alloc2 w3 _ _) (Nat.le_trans HBW.out.size HB3.out.size))⟩
  · have m1 : decide (65536 < (Q.size : Int)) = false := by simp; omega
    go_enter Tryz.func4, Tryz.ntmps4
    go_wp2_with (go_at_call 7; (with_reducible refine C0.mono ?_); rintro e w1 ⟨rfl, B1⟩; have G1 := hgl.below B1 (by have := hgl.big; omega); have C1 := parsed9_any p (by omega) w1 G1; rw [hc] at C1; have HB1 := hid B1; clear B1)
    go_wp2_with (go_at_call 9; (with_reducible refine C1.mono ?_); rintro e w2 ⟨a0, a2, a4, a5, a7, a6, a8, r1, s1, r2, r3, s2, s3, rfl, B2⟩; have HB2 := hid B2; clear B2)
    obtain ⟨W, hW⟩ : ∃ W, W = ((w2.alloc (.cells #[.int .i64 a0, .slice r1 r2 r3, .int .i64 a2, .slice s1 s2 s3, .int .i64 a4, .int .i64 a5, .bool a6, .int .i64 a7, .string a8] 26)).alloc (.cells #[.int .i64 40, .int .i64 (j : Int)] 29)) := ⟨_, rfl⟩
    have BW : Below w.heap.size w W := by rw [hW]; exact (HB1.out.trans (Joins.below_le HB2.out HB1.out.size)).trans (Joins.below_le (Joins.below_alloc2 w2 _ _) (Nat.le_trans HB1.out.size HB2.out.size))
    have C2 := parsed9_any Q (by omega) W (hgl.below BW (by have := hgl.big; omega))
    rw [hg] at C2
    rw [← hW]
    refine C2.mono ?_
    rintro e w3 ⟨b0, b2, b4, b5, b7, b6, b8, q1, t1, q2, q3, t2, t3, rfl, B3⟩
    have kf : w3.heap[w2.heap.size + 1]? = some (.cells #[.int .i64 40, .int .i64 (j : Int)] 29 (0, 0)) := (B3.block _ (by rw [hW]; simp)).trans (by rw [hW]; have := heap_alloc_new (w2.alloc (.cells #[.int .i64 a0, .slice r1 r2 r3, .int .i64 a2, .slice s1 s2 s3, .int .i64 a4, .int .i64 a5, .bool a6, .int .i64 a7, .string a8] 26)) (.cells #[.int .i64 40, .int .i64 (j : Int)] 29); simpa using this)
    obtain ⟨kf0, kf1⟩ := blk2 kf
    have lf := (Array.getElem?_eq_some_iff.1 kf).1
    have kf2 := fun o1 o2 => (World.cell?_alloc_lt (w3.alloc o1) o2 ⟨w2.heap.size + 1, 1, none⟩ (by show w2.heap.size + 1 < (w3.alloc o1).heap.size; simp; omega)).trans ((World.cell?_alloc_lt w3 o1 ⟨w2.heap.size + 1, 1, none⟩ lf).trans kf1)
    have ne1 : ¬ w2.heap.size + 1 = w3.heap.size := by omega
    have ne2 : ¬ w2.heap.size = w3.heap.size := by omega
    have lf2 : w2.heap.size < w3.heap.size := by omega
    clear kf
    have HB3 := hid B3
    have HBW := hid BW
    clear B3 BW
    go_wp2
    go_ret
    exact ⟨rfl, (HBW.out.trans (Joins.below_le HB3.out HBW.out.size)).trans (Joins.below_le (Joins.below_alloc2 w3 _ _) (Nat.le_trans HBW.out.size HB3.out.size))⟩
theorem begins4 (p more : ByteArray) (at_ : Int) (w : World) (hgl : Gl w) (hp : p.size ≤ 140737488355328) (hm : more.size ≤ 140737488355328) :
    Calls Tryz.prog 4 #[.string p, .int .i64 at_, .string more] w fun e w' => e = .returned (.bool true) ∧ Below w.heap.size w w' := by
  rcases code_cases p with ⟨h1, h2⟩ | ⟨h1, j, h2, h3, h4⟩ | ⟨h1, h2, h3, h4⟩
  · exact begins4_long p more at_ w hgl hp h1 h2
  · rcases Nat.lt_or_ge j p.size with hj | hj
    · have hs := (txt_append (p.extract 0 (j + 1)) more).1
      have hes := (txt_extract p (j + 1) (by omega)).1
      obtain ⟨go, ga, hg⟩ : ∃ go ga, codeP (p.extract 0 (j + 1) ++ more) = (go, ga) := ⟨_, _, rfl⟩
      refine begins4_dead p more at_ w hgl h1 hm hj h2 rfl (by omega) hg ?_
      rcases dead_code p more j hj h4 with ⟨h5, h6⟩ | ⟨h5, h6⟩
      · rw [hg] at h6
        exact .inl ⟨h5, h6⟩
      · rw [hg] at h6
        injection h6 with h6 h7
        exact .inr ⟨h5, h6, h7⟩
    · have : j = p.size := by omega
      subst this
      exact begins4_end p more at_ w hgl h1 h2
  · have hm0 : (0 : Int) ≤ max 0 at_ := by omega
    have hlt := Int.tmod_lt_of_pos (max 0 at_) (show (0 : Int) < (p.size : Int) + 1 by omega)
    have hge := Int.tmod_nonneg ((p.size : Int) + 1) hm0
    obtain ⟨k, hk⟩ : ∃ k : Nat, (max 0 at_).tmod ((p.size : Int) + 1) = (k : Int) := ⟨((max 0 at_).tmod ((p.size : Int) + 1)).toNat, by omega⟩
    have hk2 : k ≤ p.size := by omega
    obtain ⟨b1, b2⟩ := begin_code p h1 h4 k hk2
    obtain ⟨co, ca, hc⟩ : ∃ co ca, codeP p = (co, ca) := ⟨_, _, rfl⟩
    obtain ⟨go, ga, hg⟩ : ∃ go ga, codeP (p.extract 0 k) = (go, ga) := ⟨_, _, rfl⟩
    rw [hc] at h2 h3
    rw [hg] at b1 b2
    refine begins4_live p more at_ w hgl h1 hc h2 h3 hk2 hk hg b1 ?_
    rcases b2 with b2 | b2
    · exact .inl b2
    · injection b2 with b2 b3
      exact .inr b3
end Go.Proofs.YtenanfkmmkmolaaGreatDoor
namespace Go.Proofs.YtenanfkmmkmolaaGreatDoor
open Go.ChangeShapes Go.WideShapes Go.ChangeAt Go.RowKit Go.Mx
open Go.ChangeMaps (open_string shut_string)
set_option linter.unusedVariables false
set_option linter.unusedSimpArgs false
theorem big_of_shaped {W : World} (h : W.ShapedOpen Tryz.prog) : 4 ≤ W.heap.size := by
  obtain ⟨cs, hc, _⟩ := h.1 3 #[.int .i64 0] 3 (of_decide_eq_true (by kernel_rfl)) (by kernel_rfl)
  have := (Array.getElem?_eq_some_iff.1 hc).1
  omega
set_option maxRecDepth 100000 in
theorem beginsContract (H : Type) (enc : TypeId × Value → H) (W : World) (base : Nat) (args : Array Value) (ds gs : List (DataW H)) (before : List MemPlace)
    (hval : ∀ (j : Nat) t v, Tryz.f4.params[j]? = some t → args[j]? = some v → Value.okWide Tryz.prog W .any base t v)
    (hW : DataW.Whole enc Tryz.prog Tryz.f4.params.toList Rows.syntaxBeginsSpec.vars false W args.toList ds gs before)
    (hsz : (DataW.weightsEach Tryz.prog (Tryz.f4.params.toList ++ Rows.syntaxBeginsSpec.plain.varTypes Tryz.prog) (ds ++ gs)).all (· ≤ reachBytes) = true)
    (hL : laidMetH Tryz.prog Rows.syntaxBeginsRow.laid W) (hS : W.ShapedOpen Tryz.prog) :
    Calls Tryz.prog 4 args W fun e W' => ∃ v, e = .returned v ∧ Rows.syntaxBeginsSpec.post enc Tryz.prog Tryz.f4 false true false false W args v W' := by
  have hW' := hW
  obtain ⟨p, q, hA0, hV, rfl, hfz, hnd⟩ := hW
  have hA : DataW.TrodAll enc Tryz.prog W 0 (fun _ => true) true Tryz.f4.params.toList args.toList ds p := hA0
  rw [Tryz.params4] at hA hval hsz
  obtain ⟨v0, vs0, d0, ds0, p0, q0, hargs, rfl, rfl, h0, r0⟩ := trodAll_cons hA
  obtain ⟨v1, vs1, d1, ds1, p1, q1, rfl, rfl, rfl, h1, r1⟩ := trodAll_cons r0
  obtain ⟨v2, vs2, d2, ds2, p2, q2, rfl, rfl, rfl, h2, r2⟩ := trodAll_cons r1
  obtain ⟨rfl, rfl, rfl⟩ := trodAll_nil r2
  obtain rfl : args = #[v0, v1, v2] := by cases args; simp_all
  obtain ⟨rfl, rfl⟩ := trodVars_none hV
  obtain ⟨s0, rfl, rfl, rfl, hs0⟩ := open_string Tryz.underlying9 (hval 0 9 v0 rfl rfl) h0
  obtain ⟨n, rfl, rfl, rfl, hwn⟩ := open_int Tryz.underlying3 (hval 1 3 v1 rfl rfl) h1
  obtain ⟨s2, rfl, rfl, rfl, hs2⟩ := open_string Tryz.underlying9 (hval 2 9 v2 rfl rfl) h2
  have z0 : s0.size ≤ reachBytes := by
    have := sized_string hsz (j := 0) (t := 9) (bytes := s0.data.toList) rfl rfl
    simpa using this
  have z2 : s2.size ≤ reachBytes := by
    have := sized_string hsz (j := 2) (t := 9) (bytes := s2.data.toList) rfl rfl
    simpa using this
  unfold reachBytes at z0 z2
  refine (begins4 s0 s2 n W (gl_of_laid hL (big_of_shaped hS)) (by omega) (by omega)).mono fun e W' ⟨he, hb⟩ => ?_
  subst he
  exact ⟨_, rfl, _, _, _, [], [], [], hW', trodAll_cons_mk (shut_bool Tryz.underlying4 _) trodAll_mk0, trodAll_cons_mk (shut_string Tryz.underlying9 hs0) (trodAll_cons_mk (shut_int Tryz.underlying3 hwn) (trodAll_cons_mk (shut_string Tryz.underlying9 hs2) trodAll_mk0)), rfl, hb.frame _, fun h => by cases h⟩
theorem beginsLaid (os : Os) : laidMetH Tryz.prog Rows.syntaxBeginsRow.laid ((fixWorld (World.holding Tryz.prog os ⟨#[], #[], []⟩)).forCall (fun _ _ => 0) ⟨#[], #[.string ⟨#[]⟩, .int .i64 0, .string ⟨#[]⟩], []⟩).memory :=
  laidMetH_of_parts (laidMet_of_run' 8 (by kernel_rfl) (by kernel_rfl)) (by kernel_rfl)
theorem beginsReads (os : Os) {H : Type} (enc : TypeId × Value → H) : ∃ places, DataW.whole enc Tryz.prog ((fixWorld (World.holding Tryz.prog os ⟨#[], #[], []⟩)).forCall (fun _ _ => 0) ⟨#[], #[.string ⟨#[]⟩, .int .i64 0, .string ⟨#[]⟩], []⟩).memory Tryz.f4.params.toList Rows.syntaxBeginsSpec.vars false (#[Value.string ⟨#[]⟩, .int .i64 0, .string ⟨#[]⟩] : Array Value).toList 8 = some ([.lit (.string []), .lit (.int .i64 0), .lit (.string [])], [], places) :=
  ⟨[], by kernel_rfl⟩
set_option maxRecDepth 100000 in
theorem beginsLifted (os : Os) (started : os.Started) (H : Type) (enc : TypeId × Value → H) (F : Stop.Interp) :
    ReturnsInHanded {} Tryz.checked os 4 .any ((OpenSpec.ofChange Rows.syntaxBeginsSpec).preRow enc Tryz.prog Tryz.f4 Rows.syntaxBeginsRow.domain false Rows.syntaxBeginsRow.laid) (((OpenSpec.ofChange Rows.syntaxBeginsSpec).at F).post enc Tryz.prog Tryz.f4 false true false false) := by
  obtain ⟨places, hx⟩ := beginsReads os enc
  refine returnsInHanded_of_row (C := Tryz.checked) (s := OpenSpec.ofChange Rows.syntaxBeginsSpec) own started (by kernel_rfl) Tryz.func4
    (witness_row_at (enc := enc) (C := Tryz.checked) false (fixWorld (World.holding Tryz.prog os ⟨#[], #[], []⟩)) #[.string ⟨#[]⟩, .int .i64 0, .string ⟨#[]⟩] rfl (by kernel_rfl) (by kernel_rfl) (by kernel_rfl)
      (OpenSpec.preRow_of_cond 8 hx (by kernel_rfl) (fun k hk => by cases hk) (by kernel_rfl) (beginsLaid os))) ?_
  intro W base args ds gs before hval hW _ _ hsz hL hS _
  exact beginsContract H enc W base args ds gs before hval hW hsz hL hS
theorem beginsSaid : Rows.SyntaxBeginsSaid :=
  OpenClaim.holds_of_cond 4 Tryz.f4 rfl rfl rfl rfl rfl rfl rfl ⟨rfl, rfl, rfl, rfl, rfl⟩ rfl rfl rfl rfl rfl (by kernel_rfl) Tryz.func4 (by kernel_rfl)
    (of_decide_eq_true (by kernel_rfl)) (by unfold Func.isWrapper; first | (rw [if_pos (by decide +kernel)]; kernel_rfl) | (rw [if_neg (by decide +kernel)]; exact ⟨rfl, rfl⟩))
    (fun os started H enc _ F => by rw [OpenClaim.pre_eq_preRow]; exact beginsLifted os started H enc F)
theorem beginsPlain (f : FuncId) (fn : Func) (hf : Tryz.pinned.checked.prog.funcNamed Tryz.f4.name = some f) (hfn : Tryz.pinned.checked.prog.funcs[f]? = some fn) :
    true = Tryz.pinned.checked.prog.looks [] ∧ ∀ (j : Nat) t, fn.params[j]? = some t → Tryz.pinned.checked.prog.wantsStandIn t = false := by
  obtain rfl : f = 4 := Option.some.inj ((show Tryz.prog.funcNamed Tryz.f4.name = some 4 by kernel_rfl).symm.trans hf) |>.symm
  obtain rfl : fn = Tryz.f4 := (Option.some.inj (Tryz.func4.symm.trans hfn)).symm
  refine ⟨by kernel_rfl, fun j t ht => ?_⟩
  rw [Tryz.params4] at ht
  have hm : t = 9 ∨ t = 3 := by
    rcases j with _ | _ | _ | j
    · exact .inl (by simpa using ht.symm)
    · exact .inr (by simpa using ht.symm)
    · exact .inl (by simpa using ht.symm)
    · simp at ht
  rcases hm with rfl | rfl
  · exact (show Tryz.prog.wantsStandIn 9 = false by kernel_rfl)
  · exact (show Tryz.prog.wantsStandIn 3 = false by kernel_rfl)
theorem syntaxBegins_holds : Rows.SyntaxBeginsCardSaid :=
  Claim7.holds_tied_plain_at .later [] _ _ _ _ beginsSaid (fun _ h => by cases h) (by kernel_rfl) (fun _ h => by cases h) syntaxBegins_row_tie rfl ⟨rfl, rfl⟩ (by kernel_rfl) rfl beginsPlain (by kernel_rfl)
end Go.Proofs.YtenanfkmmkmolaaGreatDoor
