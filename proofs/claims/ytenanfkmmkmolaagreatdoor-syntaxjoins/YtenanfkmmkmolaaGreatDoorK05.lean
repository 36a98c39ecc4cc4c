/- HELPERS: Ctquest, Ctbrace, Ctnone, Ctdead, Ct, Lv, Ar. -/
import Derived.Test.YtenanfkmmkmolaaGreatDoorK04
import Derived.Maps.AppendAt
import Derived.Deep.RegionLaw
/- HELPERS: an atom with its count. -/
namespace Go.Proofs.YtenanfkmmkmolaaGreatDoor
open Go.RowKit Go.Mx
set_option linter.unusedVariables false
set_option linter.unusedSimpArgs false
set_option maxHeartbeats 8000000 in
theorem counted65_quest_n {g : Nat} {t : List Int} {i : Nat} {c : Cs} {w : World} {wr : Wr} (R0 : Hid (RW w g t i c wr)) (a0 a2 a4 a5 a7 : Int) (a6 : Bool) (a8 : ByteArray) (r1 s1 : Option Addr) (r2 r3 s2 s3 : Nat) {N : Nat} {x : Tree} {F : List Nat} (HT : Hid (TV N w [.int .i64 a0, .slice r1 r2 r3, .int .i64 a2, .slice s1 s2 s3, .int .i64 a4, .int .i64 a5, .bool a6, .int .i64 a7, .string a8] x F)) (HF : Hid (F.Nodup)) (HG : Hid (g ∉ F)) (hN : N ≤ w.heap.size) (n1 : ¬ nx t i = 42) (n2 : ¬ nx t i = 43) (h : nx t i = 63) (hl : ¬ nx t (i + 1) = 63) :
    Calls Tryz.prog 65 #[.pointer (some ⟨g, 0, none⟩), .agg #[.int .i64 a0, .slice r1 r2 r3, .int .i64 a2, .slice s1 s2 s3, .int .i64 a4, .int .i64 a5, .bool a6, .int .i64 a7, .string a8]] w fun e w' => ∃ v, e = .returned v ∧ valU N w F (.rep 0 (1) false x) w' v ∧ Mo w w' g ∧ RW w' g t (i + 1) c wr := by
  have hle := R0.out.rd.le
  have hgl := R0.out.rd.gl
  have RW1 : Hid (RW ((w.alloc (.cells #[.int .i64 a0, .slice r1 r2 r3, .int .i64 a2, .slice s1 s2 s3, .int .i64 a4, .int .i64 a5, .bool a6, .int .i64 a7, .string a8] 26)).alloc (.cells Z9 26)) g t i c wr) := rwBelow R0 (Joins.below_alloc2 w _ _)
  have hi := nx_lt (t := t) (i := i) (by omega)
  go_enter Tryz.func65, Tryz.ntmps65
  have C5 := tookN (rdC RW1) 42 (by decide) n1
  go_wp2_with (go_at_call 60; (with_reducible refine C5.mono ?_); rintro e v0 ⟨rfl, H0⟩; have Q0 := rwOn RW1 H0 (by omega))
  have C6 := tookN (rdC Q0) 43 (by decide) n2
  go_wp2_with (go_at_call 60; (with_reducible refine C6.mono ?_); rintro e v1 ⟨rfl, H1⟩; have Q1 := rwOn Q0 H1 (by omega))
  have C7 := tookE (rdC Q1) 63 (by decide) h
  go_wp2_with (go_at_call 60; (with_reducible refine C7.mono ?_); rintro e w1 ⟨rfl, G1⟩; have R1 := rwOn Q1 G1 (by omega))
  have MM := ((H0.mo).trans H1.mo).trans G1.mo
  have hb1 : w1.heap[w.heap.size]? = some (.cells #[.int .i64 a0, .slice r1 r2 r3, .int .i64 a2, .slice s1 s2 s3, .int .i64 a4, .int .i64 a5, .bool a6, .int .i64 a7, .string a8] 26 (0, 0)) := (MM.block _ (by simp; omega) (by omega)).trans ((heap_alloc_old _ _ (by simp)).trans (heap_alloc_new w _))
  have hb2 : w1.heap[w.heap.size + 1]? = some (.cells Z9 26 (0, 0)) := (MM.block _ (by simp) (by omega)).trans (by have := heap_alloc_new (w.alloc (.cells #[.int .i64 a0, .slice r1 r2 r3, .int .i64 a2, .slice s1 s2 s3, .int .i64 a4, .int .i64 a5, .bool a6, .int .i64 a7, .string a8] 26)) (.cells Z9 26); simpa using this)
  obtain ⟨x0, x1, x2, x3, x4, x5, x6, x7, x8⟩ := blk9 hb1
  obtain ⟨y0, y1, y2, y3, y4, y5, y6, y7, y8⟩ := blk9 hb2
  obtain ⟨f0, f1, f2, f3, f4, f5, f6, f7, f8⟩ := frz9 hb2
  have hb1l := (Array.getElem?_eq_some_iff.1 hb2).1
  have t1' : w.heap.size < w1.heap.size := by omega
  have t3' : ¬ w.heap.size + 1 = w1.heap.size := by omega
  have t4' : ¬ w.heap.size = w1.heap.size := by omega
  have HM : Hid (Mo ((w.alloc (.cells #[.int .i64 a0, .slice r1 r2 r3, .int .i64 a2, .slice s1 s2 s3, .int .i64 a4, .int .i64 a5, .bool a6, .int .i64 a7, .string a8] 26)).alloc (.cells Z9 26)) w1 g) := MM
  have HB1 : Hid (w1.heap[w.heap.size]? = _) := hb1
  have HB2 : Hid (w1.heap[w.heap.size + 1]? = _) := hb2
  have C2 : ∀ W, Rd W g t (i + 1) c.tv c.ov c.gv c.mv (wrV wr) → Calls Tryz.prog 60 #[.pointer (some ⟨g, 0, none⟩), .int .u8 63] W fun e w' => e = .returned (.bool false) ∧ Go1 W w' g (i + 1) := fun W hW => tookN (c := c.at wr) hW 63 (by decide) hl
  have RA := R1.out.rd.drew
  have RB : ∀ o, Rd (w1.drew.alloc o) g t (i + 1) c.tv c.ov c.gv c.mv (wrV wr) := fun o => R1.out.rd.drew.alloc o
  have hkk : i + 1 ≤ t.length := by exact R1.out.rd.le
  clear hb1 hb2 MM
  go_region_with (go_at_call 60; first | (refine (C2 _ RA).mono ?_; rintro e w2 ⟨rfl, G2⟩; obtain ⟨E1, E2, l1', l2', l3', l4'⟩ := two_blk G2.mo HB1.out HB2.out hgl; obtain ⟨p0, p1, p2, p3, p4, p5, p6, p7, p8⟩ := blk9 E1; obtain ⟨o0, o1, o2, o3, o4, o5, o6, o7, o8⟩ := blk9 E2; obtain ⟨z0, z1, z2, z3, z4, z5, z6, z7, z8⟩ := frz9 E2; have HE2 : Hid (w2.heap[w.heap.size + 1]? = _) := E2; clear E1 E2; have SA := shapeA (V := (repL (0) (1) false w2.heap.size).toArray) R0.out (HM.out.trans ((Mo.drewN w1 g 1).trans G2.mo)) ((R1.out.mo (Mo.drewN w1 g 1) R1.out.rd.blk R1.out.rd.le).go1 G2 hkk)) | (refine (C2 _ (RB _)).mono ?_; rintro e w2 ⟨rfl, G2⟩; obtain ⟨E1, E2, l1', l2', l3', l4'⟩ := two_blk G2.mo ((heap_alloc_old w1.drew _ t1').trans HB1.out) ((heap_alloc_old w1.drew _ hb1l).trans HB2.out) hgl; obtain ⟨p0, p1, p2, p3, p4, p5, p6, p7, p8⟩ := blk9 E1; obtain ⟨o0, o1, o2, o3, o4, o5, o6, o7, o8⟩ := blk9 E2; obtain ⟨z0, z1, z2, z3, z4, z5, z6, z7, z8⟩ := frz9 E2; have HE2 : Hid (w2.heap[w.heap.size + 1]? = _) := E2; clear E1 E2; have SA := shapeB (V := (repL (0) (1) false w1.heap.size).toArray) R0.out HM.out G2.mo ((RB _).go1 G2 hkk)))
  all_goals go_wp2
  all_goals rw [set9_eq HE2.out]
  all_goals (refine bodyPost_ret (results_node rfl _ _ (w.heap.size + 1) _ rfl SA.2.2.1 rfl) rfl ?_)
  all_goals exact ⟨_, rfl, fin_rep HT.out HF.out HG.out hN SA.1 SA.2.2.2.2 SA.2.2.2.1 _ _ _, SA.1, SA.2.1⟩
set_option maxHeartbeats 8000000 in
theorem counted65_quest_y {g : Nat} {t : List Int} {i : Nat} {c : Cs} {w : World} {wr : Wr} (R0 : Hid (RW w g t i c wr)) (a0 a2 a4 a5 a7 : Int) (a6 : Bool) (a8 : ByteArray) (r1 s1 : Option Addr) (r2 r3 s2 s3 : Nat) {N : Nat} {x : Tree} {F : List Nat} (HT : Hid (TV N w [.int .i64 a0, .slice r1 r2 r3, .int .i64 a2, .slice s1 s2 s3, .int .i64 a4, .int .i64 a5, .bool a6, .int .i64 a7, .string a8] x F)) (HF : Hid (F.Nodup)) (HG : Hid (g ∉ F)) (hN : N ≤ w.heap.size) (n1 : ¬ nx t i = 42) (n2 : ¬ nx t i = 43) (h : nx t i = 63) (hl : nx t (i + 1) = 63) :
    Calls Tryz.prog 65 #[.pointer (some ⟨g, 0, none⟩), .agg #[.int .i64 a0, .slice r1 r2 r3, .int .i64 a2, .slice s1 s2 s3, .int .i64 a4, .int .i64 a5, .bool a6, .int .i64 a7, .string a8]] w fun e w' => ∃ v, e = .returned v ∧ valU N w F (.rep 0 (1) true x) w' v ∧ Mo w w' g ∧ RW w' g t (i + 1 + 1) c wr := by
  have hle := R0.out.rd.le
  have hgl := R0.out.rd.gl
  have RW1 : Hid (RW ((w.alloc (.cells #[.int .i64 a0, .slice r1 r2 r3, .int .i64 a2, .slice s1 s2 s3, .int .i64 a4, .int .i64 a5, .bool a6, .int .i64 a7, .string a8] 26)).alloc (.cells Z9 26)) g t i c wr) := rwBelow R0 (Joins.below_alloc2 w _ _)
  have hi := nx_lt (t := t) (i := i) (by omega)
  go_enter Tryz.func65, Tryz.ntmps65
  have C5 := tookN (rdC RW1) 42 (by decide) n1
  go_wp2_with (go_at_call 60; (with_reducible refine C5.mono ?_); rintro e v0 ⟨rfl, H0⟩; have Q0 := rwOn RW1 H0 (by omega))
  have C6 := tookN (rdC Q0) 43 (by decide) n2
  go_wp2_with (go_at_call 60; (with_reducible refine C6.mono ?_); rintro e v1 ⟨rfl, H1⟩; have Q1 := rwOn Q0 H1 (by omega))
  have C7 := tookE (rdC Q1) 63 (by decide) h
  go_wp2_with (go_at_call 60; (with_reducible refine C7.mono ?_); rintro e w1 ⟨rfl, G1⟩; have R1 := rwOn Q1 G1 (by omega))
  have MM := ((H0.mo).trans H1.mo).trans G1.mo
  have hb1 : w1.heap[w.heap.size]? = some (.cells #[.int .i64 a0, .slice r1 r2 r3, .int .i64 a2, .slice s1 s2 s3, .int .i64 a4, .int .i64 a5, .bool a6, .int .i64 a7, .string a8] 26 (0, 0)) := (MM.block _ (by simp; omega) (by omega)).trans ((heap_alloc_old _ _ (by simp)).trans (heap_alloc_new w _))
  have hb2 : w1.heap[w.heap.size + 1]? = some (.cells Z9 26 (0, 0)) := (MM.block _ (by simp) (by omega)).trans (by have := heap_alloc_new (w.alloc (.cells #[.int .i64 a0, .slice r1 r2 r3, .int .i64 a2, .slice s1 s2 s3, .int .i64 a4, .int .i64 a5, .bool a6, .int .i64 a7, .string a8] 26)) (.cells Z9 26); simpa using this)
  obtain ⟨x0, x1, x2, x3, x4, x5, x6, x7, x8⟩ := blk9 hb1
  obtain ⟨y0, y1, y2, y3, y4, y5, y6, y7, y8⟩ := blk9 hb2
  obtain ⟨f0, f1, f2, f3, f4, f5, f6, f7, f8⟩ := frz9 hb2
  have hb1l := (Array.getElem?_eq_some_iff.1 hb2).1
  have t1' : w.heap.size < w1.heap.size := by omega
  have t3' : ¬ w.heap.size + 1 = w1.heap.size := by omega
  have t4' : ¬ w.heap.size = w1.heap.size := by omega
  have HM : Hid (Mo ((w.alloc (.cells #[.int .i64 a0, .slice r1 r2 r3, .int .i64 a2, .slice s1 s2 s3, .int .i64 a4, .int .i64 a5, .bool a6, .int .i64 a7, .string a8] 26)).alloc (.cells Z9 26)) w1 g) := MM
  have HB1 : Hid (w1.heap[w.heap.size]? = _) := hb1
  have HB2 : Hid (w1.heap[w.heap.size + 1]? = _) := hb2
  have C2 : ∀ W, Rd W g t (i + 1) c.tv c.ov c.gv c.mv (wrV wr) → Calls Tryz.prog 60 #[.pointer (some ⟨g, 0, none⟩), .int .u8 63] W fun e w' => e = .returned (.bool true) ∧ Go1 W w' g (i + 1 + 1) := fun W hW => tookE (c := c.at wr) hW 63 (by decide) hl
  have RA := R1.out.rd.drew
  have RB : ∀ o, Rd (w1.drew.alloc o) g t (i + 1) c.tv c.ov c.gv c.mv (wrV wr) := fun o => R1.out.rd.drew.alloc o
  have hkk : i + 1 + 1 ≤ t.length := by have := nx_lt (t := t) (i := i + 1) (by omega); omega
  clear hb1 hb2 MM
  go_region_with (go_at_call 60; first | (refine (C2 _ RA).mono ?_; rintro e w2 ⟨rfl, G2⟩; obtain ⟨E1, E2, l1', l2', l3', l4'⟩ := two_blk G2.mo HB1.out HB2.out hgl; obtain ⟨p0, p1, p2, p3, p4, p5, p6, p7, p8⟩ := blk9 E1; obtain ⟨o0, o1, o2, o3, o4, o5, o6, o7, o8⟩ := blk9 E2; obtain ⟨z0, z1, z2, z3, z4, z5, z6, z7, z8⟩ := frz9 E2; have HE2 : Hid (w2.heap[w.heap.size + 1]? = _) := E2; clear E1 E2; have SA := shapeA (V := (repL (0) (1) true w2.heap.size).toArray) R0.out (HM.out.trans ((Mo.drewN w1 g 1).trans G2.mo)) ((R1.out.mo (Mo.drewN w1 g 1) R1.out.rd.blk R1.out.rd.le).go1 G2 hkk)) | (refine (C2 _ (RB _)).mono ?_; rintro e w2 ⟨rfl, G2⟩; obtain ⟨E1, E2, l1', l2', l3', l4'⟩ := two_blk G2.mo ((heap_alloc_old w1.drew _ t1').trans HB1.out) ((heap_alloc_old w1.drew _ hb1l).trans HB2.out) hgl; obtain ⟨p0, p1, p2, p3, p4, p5, p6, p7, p8⟩ := blk9 E1; obtain ⟨o0, o1, o2, o3, o4, o5, o6, o7, o8⟩ := blk9 E2; obtain ⟨z0, z1, z2, z3, z4, z5, z6, z7, z8⟩ := frz9 E2; have HE2 : Hid (w2.heap[w.heap.size + 1]? = _) := E2; clear E1 E2; have SA := shapeB (V := (repL (0) (1) true w1.heap.size).toArray) R0.out HM.out G2.mo ((RB _).go1 G2 hkk)))
  all_goals go_wp2
  all_goals rw [set9_eq HE2.out]
  all_goals (refine bodyPost_ret (results_node rfl _ _ (w.heap.size + 1) _ rfl SA.2.2.1 rfl) rfl ?_)
  all_goals exact ⟨_, rfl, fin_rep HT.out HF.out HG.out hN SA.1 SA.2.2.2.2 SA.2.2.2.1 _ _ _, SA.1, SA.2.1⟩
end Go.Proofs.YtenanfkmmkmolaaGreatDoor
/- HELPERS: an atom with its count. -/
namespace Go.Proofs.YtenanfkmmkmolaaGreatDoor
open Go.RowKit Go.Mx
set_option linter.unusedVariables false
set_option linter.unusedSimpArgs false
set_option maxHeartbeats 8000000 in
theorem counted65_brace_n {g : Nat} {t : List Int} {i : Nat} {c : Cs} {w : World} {wr : Wr} (R0 : Hid (RW w g t i c wr)) (a0 a2 a4 a5 a7 : Int) (a6 : Bool) (a8 : ByteArray) (r1 s1 : Option Addr) (r2 r3 s2 s3 : Nat) {N : Nat} {x : Tree} {F : List Nat} (HT : Hid (TV N w [.int .i64 a0, .slice r1 r2 r3, .int .i64 a2, .slice s1 s2 s3, .int .i64 a4, .int .i64 a5, .bool a6, .int .i64 a7, .string a8] x F)) (HF : Hid (F.Nodup)) (HG : Hid (g ∉ F)) (hN : N ≤ w.heap.size) (n1 : ¬ nx t i = 42) (n2 : ¬ nx t i = 43) (n3 : ¬ nx t i = 63) (h : nx t i = 123) {lo hi : Int} {k : Nat} {wr2 : Wr} (hz : numbers t i wr = .ok ((lo, hi), k, wr2)) (hl : ¬ nx t k = 63) :
    Calls Tryz.prog 65 #[.pointer (some ⟨g, 0, none⟩), .agg #[.int .i64 a0, .slice r1 r2 r3, .int .i64 a2, .slice s1 s2 s3, .int .i64 a4, .int .i64 a5, .bool a6, .int .i64 a7, .string a8]] w fun e w' => ∃ v, e = .returned v ∧ valU N w F (.rep lo hi false x) w' v ∧ Mo w w' g ∧ RW w' g t k c wr2 := by
  have hle := R0.out.rd.le
  have hgl := R0.out.rd.gl
  have RW1 : Hid (RW ((w.alloc (.cells #[.int .i64 a0, .slice r1 r2 r3, .int .i64 a2, .slice s1 s2 s3, .int .i64 a4, .int .i64 a5, .bool a6, .int .i64 a7, .string a8] 26)).alloc (.cells Z9 26)) g t i c wr) := rwBelow R0 (Joins.below_alloc2 w _ _)
  go_enter Tryz.func65, Tryz.ntmps65
  have C5 := tookN (rdC RW1) 42 (by decide) n1
  go_wp2_with (go_at_call 60; (with_reducible refine C5.mono ?_); rintro e v0 ⟨rfl, H0⟩; have Q0 := rwOn RW1 H0 (by omega))
  have C6 := tookN (rdC Q0) 43 (by decide) n2
  go_wp2_with (go_at_call 60; (with_reducible refine C6.mono ?_); rintro e v1 ⟨rfl, H1⟩; have Q1 := rwOn Q0 H1 (by omega))
  have C7 := tookN (rdC Q1) 63 (by decide) n3
  go_wp2_with (go_at_call 60; (with_reducible refine C7.mono ?_); rintro e v2 ⟨rfl, H2⟩; have Q2 := rwOn Q1 H2 (by omega))
  have C8 := seesE (rdC Q2) 123 123 true (by decide) (decide_eq_true (by omega))
  go_wp2_with (go_at_call 83; (with_reducible refine C8.mono ?_); rintro e v3 ⟨rfl, H3⟩; have Q3 := rwOn Q2 H3 (by omega))
  have C9 := endON (numbers86 Q3) hz
  go_wp2_with (go_at_call 86; (with_reducible refine C9.mono ?_); rintro e w1 ⟨rfl, M1, RR1⟩; have R1 := hid RR1)
  have MM := (((H0.mo.trans H1.mo).trans H2.mo).trans H3.mo).trans M1
  have hb1 : w1.heap[w.heap.size]? = some (.cells #[.int .i64 a0, .slice r1 r2 r3, .int .i64 a2, .slice s1 s2 s3, .int .i64 a4, .int .i64 a5, .bool a6, .int .i64 a7, .string a8] 26 (0, 0)) := (MM.block _ (by simp; omega) (by omega)).trans ((heap_alloc_old _ _ (by simp)).trans (heap_alloc_new w _))
  have hb2 : w1.heap[w.heap.size + 1]? = some (.cells Z9 26 (0, 0)) := (MM.block _ (by simp) (by omega)).trans (by have := heap_alloc_new (w.alloc (.cells #[.int .i64 a0, .slice r1 r2 r3, .int .i64 a2, .slice s1 s2 s3, .int .i64 a4, .int .i64 a5, .bool a6, .int .i64 a7, .string a8] 26)) (.cells Z9 26); simpa using this)
  obtain ⟨x0, x1, x2, x3, x4, x5, x6, x7, x8⟩ := blk9 hb1
  obtain ⟨y0, y1, y2, y3, y4, y5, y6, y7, y8⟩ := blk9 hb2
  obtain ⟨f0, f1, f2, f3, f4, f5, f6, f7, f8⟩ := frz9 hb2
  have hb1l := (Array.getElem?_eq_some_iff.1 hb2).1
  have t1' : w.heap.size < w1.heap.size := by omega
  have t3' : ¬ w.heap.size + 1 = w1.heap.size := by omega
  have t4' : ¬ w.heap.size = w1.heap.size := by omega
  have HM : Hid (Mo ((w.alloc (.cells #[.int .i64 a0, .slice r1 r2 r3, .int .i64 a2, .slice s1 s2 s3, .int .i64 a4, .int .i64 a5, .bool a6, .int .i64 a7, .string a8] 26)).alloc (.cells Z9 26)) w1 g) := MM
  have HB1 : Hid (w1.heap[w.heap.size]? = _) := hb1
  have HB2 : Hid (w1.heap[w.heap.size + 1]? = _) := hb2
  have C2 : ∀ W, Rd W g t (k) c.tv c.ov c.gv c.mv (wrV wr2) → Calls Tryz.prog 60 #[.pointer (some ⟨g, 0, none⟩), .int .u8 63] W fun e w' => e = .returned (.bool false) ∧ Go1 W w' g (k) := fun W hW => tookN (c := c.at wr2) hW 63 (by decide) hl
  have RA := R1.out.rd.drew
  have RB : ∀ o, Rd (w1.drew.alloc o) g t (k) c.tv c.ov c.gv c.mv (wrV wr2) := fun o => R1.out.rd.drew.alloc o
  have hkk : k ≤ t.length := by exact R1.out.rd.le
  clear hb1 hb2 MM
  go_region_with (go_at_call 60; first | (refine (C2 _ RA).mono ?_; rintro e w2 ⟨rfl, G2⟩; obtain ⟨E1, E2, l1', l2', l3', l4'⟩ := two_blk G2.mo HB1.out HB2.out hgl; obtain ⟨p0, p1, p2, p3, p4, p5, p6, p7, p8⟩ := blk9 E1; obtain ⟨o0, o1, o2, o3, o4, o5, o6, o7, o8⟩ := blk9 E2; obtain ⟨z0, z1, z2, z3, z4, z5, z6, z7, z8⟩ := frz9 E2; have HE2 : Hid (w2.heap[w.heap.size + 1]? = _) := E2; clear E1 E2; have SA := shapeA (V := (repL (lo) (hi) false w2.heap.size).toArray) R0.out (HM.out.trans ((Mo.drewN w1 g 1).trans G2.mo)) ((R1.out.mo (Mo.drewN w1 g 1) R1.out.rd.blk R1.out.rd.le).go1 G2 hkk)) | (refine (C2 _ (RB _)).mono ?_; rintro e w2 ⟨rfl, G2⟩; obtain ⟨E1, E2, l1', l2', l3', l4'⟩ := two_blk G2.mo ((heap_alloc_old w1.drew _ t1').trans HB1.out) ((heap_alloc_old w1.drew _ hb1l).trans HB2.out) hgl; obtain ⟨p0, p1, p2, p3, p4, p5, p6, p7, p8⟩ := blk9 E1; obtain ⟨o0, o1, o2, o3, o4, o5, o6, o7, o8⟩ := blk9 E2; obtain ⟨z0, z1, z2, z3, z4, z5, z6, z7, z8⟩ := frz9 E2; have HE2 : Hid (w2.heap[w.heap.size + 1]? = _) := E2; clear E1 E2; have SA := shapeB (V := (repL (lo) (hi) false w1.heap.size).toArray) R0.out HM.out G2.mo ((RB _).go1 G2 hkk)))
  all_goals go_wp2
  all_goals rw [set9_eq HE2.out]
  all_goals (refine bodyPost_ret (results_node rfl _ _ (w.heap.size + 1) _ rfl SA.2.2.1 rfl) rfl ?_)
  all_goals exact ⟨_, rfl, fin_rep HT.out HF.out HG.out hN SA.1 SA.2.2.2.2 SA.2.2.2.1 _ _ _, SA.1, SA.2.1⟩
set_option maxHeartbeats 8000000 in
theorem counted65_brace_y {g : Nat} {t : List Int} {i : Nat} {c : Cs} {w : World} {wr : Wr} (R0 : Hid (RW w g t i c wr)) (a0 a2 a4 a5 a7 : Int) (a6 : Bool) (a8 : ByteArray) (r1 s1 : Option Addr) (r2 r3 s2 s3 : Nat) {N : Nat} {x : Tree} {F : List Nat} (HT : Hid (TV N w [.int .i64 a0, .slice r1 r2 r3, .int .i64 a2, .slice s1 s2 s3, .int .i64 a4, .int .i64 a5, .bool a6, .int .i64 a7, .string a8] x F)) (HF : Hid (F.Nodup)) (HG : Hid (g ∉ F)) (hN : N ≤ w.heap.size) (n1 : ¬ nx t i = 42) (n2 : ¬ nx t i = 43) (n3 : ¬ nx t i = 63) (h : nx t i = 123) {lo hi : Int} {k : Nat} {wr2 : Wr} (hz : numbers t i wr = .ok ((lo, hi), k, wr2)) (hl : nx t k = 63) :
    Calls Tryz.prog 65 #[.pointer (some ⟨g, 0, none⟩), .agg #[.int .i64 a0, .slice r1 r2 r3, .int .i64 a2, .slice s1 s2 s3, .int .i64 a4, .int .i64 a5, .bool a6, .int .i64 a7, .string a8]] w fun e w' => ∃ v, e = .returned v ∧ valU N w F (.rep lo hi true x) w' v ∧ Mo w w' g ∧ RW w' g t (k + 1) c wr2 := by
  have hle := R0.out.rd.le
  have hgl := R0.out.rd.gl
  have RW1 : Hid (RW ((w.alloc (.cells #[.int .i64 a0, .slice r1 r2 r3, .int .i64 a2, .slice s1 s2 s3, .int .i64 a4, .int .i64 a5, .bool a6, .int .i64 a7, .string a8] 26)).alloc (.cells Z9 26)) g t i c wr) := rwBelow R0 (Joins.below_alloc2 w _ _)
  go_enter Tryz.func65, Tryz.ntmps65
  have C5 := tookN (rdC RW1) 42 (by decide) n1
  go_wp2_with (go_at_call 60; (with_reducible refine C5.mono ?_); rintro e v0 ⟨rfl, H0⟩; have Q0 := rwOn RW1 H0 (by omega))
  have C6 := tookN (rdC Q0) 43 (by decide) n2
  go_wp2_with (go_at_call 60; (with_reducible refine C6.mono ?_); rintro e v1 ⟨rfl, H1⟩; have Q1 := rwOn Q0 H1 (by omega))
  have C7 := tookN (rdC Q1) 63 (by decide) n3
  go_wp2_with (go_at_call 60; (with_reducible refine C7.mono ?_); rintro e v2 ⟨rfl, H2⟩; have Q2 := rwOn Q1 H2 (by omega))
  have C8 := seesE (rdC Q2) 123 123 true (by decide) (decide_eq_true (by omega))
  go_wp2_with (go_at_call 83; (with_reducible refine C8.mono ?_); rintro e v3 ⟨rfl, H3⟩; have Q3 := rwOn Q2 H3 (by omega))
  have C9 := endON (numbers86 Q3) hz
  go_wp2_with (go_at_call 86; (with_reducible refine C9.mono ?_); rintro e w1 ⟨rfl, M1, RR1⟩; have R1 := hid RR1)
  have MM := (((H0.mo.trans H1.mo).trans H2.mo).trans H3.mo).trans M1
  have hb1 : w1.heap[w.heap.size]? = some (.cells #[.int .i64 a0, .slice r1 r2 r3, .int .i64 a2, .slice s1 s2 s3, .int .i64 a4, .int .i64 a5, .bool a6, .int .i64 a7, .string a8] 26 (0, 0)) := (MM.block _ (by simp; omega) (by omega)).trans ((heap_alloc_old _ _ (by simp)).trans (heap_alloc_new w _))
  have hb2 : w1.heap[w.heap.size + 1]? = some (.cells Z9 26 (0, 0)) := (MM.block _ (by simp) (by omega)).trans (by have := heap_alloc_new (w.alloc (.cells #[.int .i64 a0, .slice r1 r2 r3, .int .i64 a2, .slice s1 s2 s3, .int .i64 a4, .int .i64 a5, .bool a6, .int .i64 a7, .string a8] 26)) (.cells Z9 26); simpa using this)
  obtain ⟨x0, x1, x2, x3, x4, x5, x6, x7, x8⟩ := blk9 hb1
  obtain ⟨y0, y1, y2, y3, y4, y5, y6, y7, y8⟩ := blk9 hb2
  obtain ⟨f0, f1, f2, f3, f4, f5, f6, f7, f8⟩ := frz9 hb2
  have hb1l := (Array.getElem?_eq_some_iff.1 hb2).1
  have t1' : w.heap.size < w1.heap.size := by omega
  have t3' : ¬ w.heap.size + 1 = w1.heap.size := by omega
  have t4' : ¬ w.heap.size = w1.heap.size := by omega
  have HM : Hid (Mo ((w.alloc (.cells #[.int .i64 a0, .slice r1 r2 r3, .int .i64 a2, .slice s1 s2 s3, .int .i64 a4, .int .i64 a5, .bool a6, .int .i64 a7, .string a8] 26)).alloc (.cells Z9 26)) w1 g) := MM
  have HB1 : Hid (w1.heap[w.heap.size]? = _) := hb1
  have HB2 : Hid (w1.heap[w.heap.size + 1]? = _) := hb2
  have C2 : ∀ W, Rd W g t (k) c.tv c.ov c.gv c.mv (wrV wr2) → Calls Tryz.prog 60 #[.pointer (some ⟨g, 0, none⟩), .int .u8 63] W fun e w' => e = .returned (.bool true) ∧ Go1 W w' g (k + 1) := fun W hW => tookE (c := c.at wr2) hW 63 (by decide) hl
  have RA := R1.out.rd.drew
  have RB : ∀ o, Rd (w1.drew.alloc o) g t (k) c.tv c.ov c.gv c.mv (wrV wr2) := fun o => R1.out.rd.drew.alloc o
  have hkk : k + 1 ≤ t.length := by have := nx_lt (t := t) (i := k) (by omega); omega
  clear hb1 hb2 MM
  go_region_with (go_at_call 60; first | (refine (C2 _ RA).mono ?_; rintro e w2 ⟨rfl, G2⟩; obtain ⟨E1, E2, l1', l2', l3', l4'⟩ := two_blk G2.mo HB1.out HB2.out hgl; obtain ⟨p0, p1, p2, p3, p4, p5, p6, p7, p8⟩ := blk9 E1; obtain ⟨o0, o1, o2, o3, o4, o5, o6, o7, o8⟩ := blk9 E2; obtain ⟨z0, z1, z2, z3, z4, z5, z6, z7, z8⟩ := frz9 E2; have HE2 : Hid (w2.heap[w.heap.size + 1]? = _) := E2; clear E1 E2; have SA := shapeA (V := (repL (lo) (hi) true w2.heap.size).toArray) R0.out (HM.out.trans ((Mo.drewN w1 g 1).trans G2.mo)) ((R1.out.mo (Mo.drewN w1 g 1) R1.out.rd.blk R1.out.rd.le).go1 G2 hkk)) | (refine (C2 _ (RB _)).mono ?_; rintro e w2 ⟨rfl, G2⟩; obtain ⟨E1, E2, l1', l2', l3', l4'⟩ := two_blk G2.mo ((heap_alloc_old w1.drew _ t1').trans HB1.out) ((heap_alloc_old w1.drew _ hb1l).trans HB2.out) hgl; obtain ⟨p0, p1, p2, p3, p4, p5, p6, p7, p8⟩ := blk9 E1; obtain ⟨o0, o1, o2, o3, o4, o5, o6, o7, o8⟩ := blk9 E2; obtain ⟨z0, z1, z2, z3, z4, z5, z6, z7, z8⟩ := frz9 E2; have HE2 : Hid (w2.heap[w.heap.size + 1]? = _) := E2; clear E1 E2; have SA := shapeB (V := (repL (lo) (hi) true w1.heap.size).toArray) R0.out HM.out G2.mo ((RB _).go1 G2 hkk)))
  all_goals go_wp2
  all_goals rw [set9_eq HE2.out]
  all_goals (refine bodyPost_ret (results_node rfl _ _ (w.heap.size + 1) _ rfl SA.2.2.1 rfl) rfl ?_)
  all_goals exact ⟨_, rfl, fin_rep HT.out HF.out HG.out hN SA.1 SA.2.2.2.2 SA.2.2.2.1 _ _ _, SA.1, SA.2.1⟩
end Go.Proofs.YtenanfkmmkmolaaGreatDoor
/- HELPERS: an atom with its count. -/
namespace Go.Proofs.YtenanfkmmkmolaaGreatDoor
open Go.RowKit Go.Mx
set_option linter.unusedVariables false
set_option linter.unusedSimpArgs false
set_option maxHeartbeats 8000000 in
theorem counted65_none_n {g : Nat} {t : List Int} {i : Nat} {c : Cs} {w : World} {wr : Wr} (R0 : Hid (RW w g t i c wr)) (a0 a2 a4 a5 a7 : Int) (a6 : Bool) (a8 : ByteArray) (r1 s1 : Option Addr) (r2 r3 s2 s3 : Nat) {N : Nat} {x : Tree} {F : List Nat} (HT : Hid (TV N w [.int .i64 a0, .slice r1 r2 r3, .int .i64 a2, .slice s1 s2 s3, .int .i64 a4, .int .i64 a5, .bool a6, .int .i64 a7, .string a8] x F)) (HF : Hid (F.Nodup)) (HG : Hid (g ∉ F)) (hN : N ≤ w.heap.size) (n1 : ¬ nx t i = 42) (n2 : ¬ nx t i = 43) (n3 : ¬ nx t i = 63) (h : ¬ nx t i = 123) :
    Calls Tryz.prog 65 #[.pointer (some ⟨g, 0, none⟩), .agg #[.int .i64 a0, .slice r1 r2 r3, .int .i64 a2, .slice s1 s2 s3, .int .i64 a4, .int .i64 a5, .bool a6, .int .i64 a7, .string a8]] w fun e w' => ∃ v, e = .returned v ∧ valU N w F (x) w' v ∧ Mo w w' g ∧ RW w' g t i c wr := by
  have hle := R0.out.rd.le
  have hgl := R0.out.rd.gl
  have RW1 : Hid (RW ((w.alloc (.cells #[.int .i64 a0, .slice r1 r2 r3, .int .i64 a2, .slice s1 s2 s3, .int .i64 a4, .int .i64 a5, .bool a6, .int .i64 a7, .string a8] 26)).alloc (.cells Z9 26)) g t i c wr) := rwBelow R0 (Joins.below_alloc2 w _ _)
  go_enter Tryz.func65, Tryz.ntmps65
  have C5 := tookN (rdC RW1) 42 (by decide) n1
  go_wp2_with (go_at_call 60; (with_reducible refine C5.mono ?_); rintro e v0 ⟨rfl, H0⟩; have Q0 := rwOn RW1 H0 (by omega))
  have C6 := tookN (rdC Q0) 43 (by decide) n2
  go_wp2_with (go_at_call 60; (with_reducible refine C6.mono ?_); rintro e v1 ⟨rfl, H1⟩; have Q1 := rwOn Q0 H1 (by omega))
  have C7 := tookN (rdC Q1) 63 (by decide) n3
  go_wp2_with (go_at_call 60; (with_reducible refine C7.mono ?_); rintro e v2 ⟨rfl, H2⟩; have Q2 := rwOn Q1 H2 (by omega))
  have C8 := seesE (rdC Q2) 123 123 false (by decide) (decide_eq_false (by omega))
  go_wp2_with (go_at_call 83; (with_reducible refine C8.mono ?_); rintro e w1 ⟨rfl, H3⟩; obtain ⟨M0, R1, E1, E2, HM⟩ := none_facts R0.out (((H0.mo.trans H1.mo).trans H2.mo).trans H3.mo) (rwOn Q2 H3 (by omega)).out (A := #[.int .i64 a0, .slice r1 r2 r3, .int .i64 a2, .slice s1 s2 s3, .int .i64 a4, .int .i64 a5, .bool a6, .int .i64 a7, .string a8]); obtain ⟨p0, p1, p2, p3, p4, p5, p6, p7, p8⟩ := blk9 E1; obtain ⟨o0, o1, o2, o3, o4, o5, o6, o7, o8⟩ := blk9 E2; obtain ⟨z0, z1, z2, z3, z4, z5, z6, z7, z8⟩ := frz9 E2; have HE2 : Hid (w1.heap[w.heap.size + 1]? = _) := E2; clear E1 E2)
  rw [set9_eq HE2.out]
  refine bodyPost_ret (results_node rfl _ _ (w.heap.size + 1) [.int .i64 a0, .slice r1 r2 r3, .int .i64 a2, .slice s1 s2 s3, .int .i64 a4, .int .i64 a5, .bool a6, .int .i64 a7, .string a8] rfl (setRow_heap _ _ _ _ _ _ HE2.out) rfl) rfl ?_
  exact ⟨_, rfl, ⟨_, F, rfl, HT.out.mo (HM _) HG.out, HF.out, fun k hk => .inl hk⟩, HM _, M0 _⟩
end Go.Proofs.YtenanfkmmkmolaaGreatDoor
/- HELPERS: an atom with its count. -/
namespace Go.Proofs.YtenanfkmmkmolaaGreatDoor
open Go.RowKit Go.Mx
set_option linter.unusedVariables false
set_option linter.unusedSimpArgs false
set_option maxHeartbeats 8000000 in
theorem counted65_dead_n {g : Nat} {t : List Int} {i : Nat} {c : Cs} {w : World} {wr : Wr} (R0 : Hid (RW w g t i c wr)) (a0 a2 a4 a5 a7 : Int) (a6 : Bool) (a8 : ByteArray) (r1 s1 : Option Addr) (r2 r3 s2 s3 : Nat) {N : Nat} {x : Tree} {F : List Nat} (HT : Hid (TV N w [.int .i64 a0, .slice r1 r2 r3, .int .i64 a2, .slice s1 s2 s3, .int .i64 a4, .int .i64 a5, .bool a6, .int .i64 a7, .string a8] x F)) (HF : Hid (F.Nodup)) (HG : Hid (g ∉ F)) (hN : N ≤ w.heap.size) (n1 : ¬ nx t i = 42) (n2 : ¬ nx t i = 43) (n3 : ¬ nx t i = 63) (h : nx t i = 123) {k : Nat} (hz : numbers t i wr = .error k) :
    Calls Tryz.prog 65 #[.pointer (some ⟨g, 0, none⟩), .agg #[.int .i64 a0, .slice r1 r2 r3, .int .i64 a2, .slice s1 s2 s3, .int .i64 a4, .int .i64 a5, .bool a6, .int .i64 a7, .string a8]] w fun e w' => e = Gave k ∧ Mo w w' g := by
  have hle := R0.out.rd.le
  have hgl := R0.out.rd.gl
  have RW1 : Hid (RW ((w.alloc (.cells #[.int .i64 a0, .slice r1 r2 r3, .int .i64 a2, .slice s1 s2 s3, .int .i64 a4, .int .i64 a5, .bool a6, .int .i64 a7, .string a8] 26)).alloc (.cells Z9 26)) g t i c wr) := rwBelow R0 (Joins.below_alloc2 w _ _)
  go_enter Tryz.func65, Tryz.ntmps65
  have C5 := tookN (rdC RW1) 42 (by decide) n1
  go_wp2_with (go_at_call 60; (with_reducible refine C5.mono ?_); rintro e v0 ⟨rfl, H0⟩; have Q0 := rwOn RW1 H0 (by omega))
  have C6 := tookN (rdC Q0) 43 (by decide) n2
  go_wp2_with (go_at_call 60; (with_reducible refine C6.mono ?_); rintro e v1 ⟨rfl, H1⟩; have Q1 := rwOn Q0 H1 (by omega))
  have C7 := tookN (rdC Q1) 63 (by decide) n3
  go_wp2_with (go_at_call 60; (with_reducible refine C7.mono ?_); rintro e v2 ⟨rfl, H2⟩; have Q2 := rwOn Q1 H2 (by omega))
  have C8 := seesE (rdC Q2) 123 123 true (by decide) (decide_eq_true (by omega))
  go_wp2_with (go_at_call 83; (with_reducible refine C8.mono ?_); rintro e v3 ⟨rfl, H3⟩; have Q3 := rwOn Q2 H3 (by omega))
  have C9 := endE (numbers86 Q3) hz
  go_wp2_with (go_at_call 86; (with_reducible refine C9.mono ?_); rintro e w1 ⟨rfl, M1⟩)
  exact ⟨rfl, rfl, ((Mo.alloc w g _).trans (Mo.alloc _ g _)).trans ((((H0.mo.trans H1.mo).trans H2.mo).trans H3.mo).trans M1)⟩
end Go.Proofs.YtenanfkmmkmolaaGreatDoor
/- HELPERS: an atom with its count, whole; an atom, whole. -/
namespace Go.Proofs.YtenanfkmmkmolaaGreatDoor
open Go.RowKit Go.Mx
set_option linter.unusedVariables false
set_option linter.unusedSimpArgs false
theorem row_slice {w : World} {N e size n : Nat} {v : Value} {xs : List Value} (h : w.ownsRow N e size v n xs) : ∃ a l c, v = .slice a l c := by
  rcases Joins.ownsRow_forms h with ⟨rfl, _⟩ | ⟨b, cap, rfl⟩
  · exact ⟨_, _, _, rfl⟩
  · exact ⟨_, _, _, rfl⟩
theorem counted65 {g : Nat} {t : List Int} {i : Nat} {c : Cs} {w : World} {wr : Wr} (R0 : Hid (RW w g t i c wr)) {N : Nat} {x : Tree} {F : List Nat} {cells : List Value} (HT : Hid (TV N w cells x F)) (HF : Hid (F.Nodup)) (HG : Hid (g ∉ F)) (hN : N ≤ w.heap.size) :
    Calls Tryz.prog 65 #[.pointer (some ⟨g, 0, none⟩), .agg cells.toArray] w fun e w' => EndW e w w' g t c (valU N w F) (counted t x i wr) := by
  have h0 := HT.out
  cases h0 with
  | @mk a0 rg a2 sb a4 a5 a6 a7 a8 rv sv cl F1 hr hs ht =>
    obtain ⟨r1, r2, r3, rfl⟩ := row_slice hr
    obtain ⟨s1, s2, s3, rfl⟩ := row_slice hs
    unfold counted lazyAt
    by_cases h1 : nx t i = 42
    · rw [if_pos h1]
      by_cases hl : nx t (i + 1) = 63
      · rw [if_pos hl]; exact counted65_star_y R0 a0 a2 a4 a5 a7 a6 a8 r1 s1 r2 r3 s2 s3 HT HF HG hN h1 hl
      · rw [if_neg hl]; exact counted65_star_n R0 a0 a2 a4 a5 a7 a6 a8 r1 s1 r2 r3 s2 s3 HT HF HG hN h1 hl
    · rw [if_neg h1]
      by_cases h2 : nx t i = 43
      · rw [if_pos h2]
        by_cases hl : nx t (i + 1) = 63
        · rw [if_pos hl]; exact counted65_plus_y R0 a0 a2 a4 a5 a7 a6 a8 r1 s1 r2 r3 s2 s3 HT HF HG hN h1 h2 hl
        · rw [if_neg hl]; exact counted65_plus_n R0 a0 a2 a4 a5 a7 a6 a8 r1 s1 r2 r3 s2 s3 HT HF HG hN h1 h2 hl
      · rw [if_neg h2]
        by_cases h3 : nx t i = 63
        · rw [if_pos h3]
          by_cases hl : nx t (i + 1) = 63
          · rw [if_pos hl]; exact counted65_quest_y R0 a0 a2 a4 a5 a7 a6 a8 r1 s1 r2 r3 s2 s3 HT HF HG hN h1 h2 h3 hl
          · rw [if_neg hl]; exact counted65_quest_n R0 a0 a2 a4 a5 a7 a6 a8 r1 s1 r2 r3 s2 s3 HT HF HG hN h1 h2 h3 hl
        · rw [if_neg h3]
          by_cases h4 : nx t i = 123
          · rw [if_pos h4]
            cases hz : numbers t i wr with
            | error k => exact counted65_dead_n R0 a0 a2 a4 a5 a7 a6 a8 r1 s1 r2 r3 s2 s3 HT HF HG hN h1 h2 h3 h4 hz
            | ok y =>
              obtain ⟨⟨lo, hi⟩, k, wr2⟩ := y
              simp only
              by_cases hl : nx t k = 63
              · rw [if_pos hl]; exact counted65_brace_y R0 a0 a2 a4 a5 a7 a6 a8 r1 s1 r2 r3 s2 s3 HT HF HG hN h1 h2 h3 h4 hz hl
              · rw [if_neg hl]; exact counted65_brace_n R0 a0 a2 a4 a5 a7 a6 a8 r1 s1 r2 r3 s2 s3 HT HF HG hN h1 h2 h3 h4 hz hl
          · rw [if_neg h4]
            exact counted65_none_n R0 a0 a2 a4 a5 a7 a6 a8 r1 s1 r2 r3 s2 s3 HT HF HG hN h1 h2 h3 h4
theorem atom46 {g : Nat} {t : List Int} {i : Nat} {c : Cs} {w : World} {wr : Wr} (R0 : Hid (RW w g t i c wr)) {fold all : Bool} (L0 : Hid (Fl w g c fold all)) (hi : i < t.length) :
    Calls Tryz.prog 46 #[.pointer (some ⟨g, 0, none⟩)] w fun e w' => EndW e w w' g t c (valT w.heap.size) (atomP t fold all i wr) := by
  unfold atomP
  by_cases h1 : nx t i = 46
  · rw [if_pos h1]
    cases all
    · exact atom46_dot_false R0 L0 hi rfl h1
    · exact atom46_dot_true R0 L0 hi rfl h1
  · rw [if_neg h1]
    by_cases h2 : nx t i = 94
    · rw [if_pos h2]; exact atom46_hat R0 L0 hi h2
    · rw [if_neg h2]
      by_cases h3 : nx t i = 36
      · rw [if_pos h3]; exact atom46_dol R0 L0 hi h3
      · rw [if_neg h3]
        by_cases h4 : nx t i = 91
        · rw [if_pos h4]
          cases hz : classP t fold i wr with
          | error k => exact atom46_cls_e R0 L0 hi h4 hz
          | ok y => obtain ⟨L, k, wr2⟩ := y; exact atom46_cls_o R0 L0 hi h4 hz
        · rw [if_neg h4]
          by_cases h5 : nx t i = 92
          · rw [if_pos h5]
            by_cases ha : assertL (t.getD (i + 1) 0) = 0
            · rw [if_pos ha]
              cases hs : setL (t.getD (i + 1) 0) with
              | some L => exact atom46_esc_b R0 L0 hi h5 rfl ha hs
              | none =>
                simp only
                cases hz : single2 t i wr with
                | error k => exact atom46_esc_c R0 L0 hi h5 rfl ha hs hz
                | ok y => obtain ⟨⟨cd, b⟩, k, wr2⟩ := y; exact atom46_esc_d R0 L0 hi h5 rfl ha hs hz
            · rw [if_neg ha]; exact atom46_esc_a R0 L0 hi h5 rfl rfl ha
          · rw [if_neg h5]
            cases hz : runeBut t notPlain i with
            | error k => exact atom46_lit_e R0 L0 hi h1 h2 h3 h4 h5 hz
            | ok y => obtain ⟨cd, k⟩ := y; exact atom46_lit_o R0 L0 hi h1 h2 h3 h4 h5 hz
end Go.Proofs.YtenanfkmmkmolaaGreatDoor
/- HELPERS: rows of nodes that grow; levels in memory. -/
namespace Go.Proofs.YtenanfkmmkmolaaGreatDoor
open Go.RowKit Go.Mx
set_option linter.unusedVariables false
set_option linter.unusedSimpArgs false
/-- what an append onto an owned row leaves: in its place, or in a new block and nothing else turned -/
def Moved (w w' : World) (v v' : Value) : Prop := (v'.ownBlock = v.ownBlock ∧ w.grownBy w' v.ownBlock) ∨ (v'.ownBlock = some w.heap.size ∧ w.grownBy w' none)
theorem run_append_moveN {P : Program} (w : World) (base : Nat) (t ty e : TypeId) (i : TypeInfo) (z : Value) (size bytes : Nat) (ht : P.underlying t = some (.slice e)) (hi : P.info? e = some i) (hz : i.zero = some z)
    (hsize : i.size = size) (hby : i.bytes = bytes) (hzs : z.cells.size = size) (hpos : 0 < size)
    (v : Value) (n : Nat) (xs : List Value) (hown : w.ownsRow base e size v n xs)
    (a : Addr) (m c : Nat) (news : List Value) (hl : news.length = m * size) (hm : 0 < m) (hnews : ∀ j u, news[j]? = some u → w.cell? (a.add j) = some u) (h1 : ∀ u ∈ news, u.oneCell' = true)
    (h63 : n + m ≤ maxLen) (hbytes : (n + m) * bytes ≤ 140737488355328) (hbase : base ≤ w.heap.size) :
    ∃ v' w', (Builtin.append_ #[t, t] ty #[v, .slice (some a) m c]).run P w = .ok v' w' ∧ w'.ownsRow base e size v' (n + m) (xs ++ news) ∧ Moved w w' v v' := by
  obtain ⟨v', w', hrun, h2, h3, h4, h5⟩ := run_append_own_at (P := P) w base t ty e i z size bytes ht hi hz hsize hby hzs hpos v n xs hown a m c news hl hnews h1 h63 hbytes hbase
  refine ⟨v', w', hrun, h2, ?_⟩
  rcases hown.2 with ⟨rfl, rfl⟩ | ⟨g, cap, cur, rfl, hbg, hg, hnc, hcm, hcs, htake⟩
  · rcases h5 with h5 | h5
    · exact .inl ⟨h5, h3⟩
    · exact .inr ⟨h5, h3⟩
  · by_cases hroom : n + m ≤ cap
    · have hr := run_append_room (P := P) w t ty e i ht hi g n cap cur hg a m c news (by rw [hsize]; omega) hnews h1 hroom (by rw [hsize, hcs, hl, ← Nat.add_mul]; exact Nat.mul_le_mul_right _ hroom)
      have he := hrun.symm.trans hr
      injection he with e1 e2
      left
      exact ⟨by rw [e1]; rfl, h3⟩
    · have holds : ∀ j u, xs[j]? = some u → w.cell? ((⟨g, 0, none⟩ : Addr).add j) = some u := hown.cells (g := g) rfl
      have hr := run_append_grow (P := P) w t ty e i z ht hi hz ⟨g, 0, none⟩ n cap xs (by rw [hsize]; exact hown.1) holds a m c news (by rw [hsize]; omega) hnews (by omega) (by unfold maxLen at h63; omega) (growslice_fits (by omega) (by rw [hby]; exact hbytes))
      have he := hrun.symm.trans hr
      injection he with e1 e2
      right
      refine ⟨by rw [e1]; rfl, ?_⟩
      rw [e2]
      exact ⟨rfl, rfl, rfl, by simp, fun k hk _ => heap_alloc_old w.drew _ hk⟩
theorem step_append_moveN {P : Program} {ops : Array Oper} {o : Oper} {a : Act} {w : World} {K : Act → World → Prop} {Q : Exit → Act → World → Prop} {E : Prop}
    (hg : o.guard = none) (s x : Operand) (t : TypeId) (hop : o.op = Op.call { callee := Callee.builtin Builtin.append, args := #[s, x], argTypes := #[t, t] })
    (base : Nat) (e : TypeId) (i : TypeInfo) (z : Value) (size bytes : Nat) (h1 : P.underlying t = some (.slice e)) (h2 : P.info? e = some i) (h3 : i.zero = some z) (h4 : i.size = size) (h5 : i.bytes = bytes) (h6 : z.cells.size = size) (h7 : 0 < size)
    (v : Value) (n : Nat) (xs : List Value) (hs : a.eval s = v) (hown : w.ownsRow base e size v n xs)
    (ad : Addr) (m c : Nat) (news : List Value) (hx : a.eval x = .slice (some ad) m c) (hn : news.length = m * size) (hm : 0 < m) (hc : ∀ j u, news[j]? = some u → w.cell? (ad.add j) = some u) (h1c : ∀ u ∈ news, u.oneCell' = true)
    (b1 : n + m ≤ maxLen) (b2 : (n + m) * bytes ≤ 140737488355328) (hb : base ≤ w.heap.size)
    (hK : ∀ v' w', w'.ownsRow base e size v' (n + m) (xs ++ news) → Moved w w' v v' → K (a.put o.dst v') w') :
    if Region.wanted o (yielded ops a.tmps) = true then Oper.wp P o a w K Q else E := by
  have hw : Region.wanted o (yielded ops a.tmps) = true := by simp [Region.wanted, hg]
  rw [if_pos hw]
  obtain ⟨v', w', hrun, r1, r2⟩ := run_append_moveN (P := P) w base t o.type e i z size bytes h1 h2 h3 h4 h5 h6 h7 v n xs hown ad m c news hn hm hc h1c b1 b2 hb
  unfold Oper.wp
  simp [execOp, hop, resolve, invoke, builtin, hs, hx, hrun, Result.andThen]
  exact hK v' w' r1 r2
theorem info26 : (Tryz.prog.info? 26).map (fun i => (i.zero, i.size, i.bytes)) = some (some (.agg Z9), 9, 112) := by kernel_rfl
theorem info85 : (Tryz.prog.info? 85).map (fun i => (i.zero, i.size, i.bytes)) = some (some (.agg #[.slice none 0 0, .slice none 0 0, .bool false, .bool false, .int .i64 0, .string ⟨#[]⟩]), 6, 80) := by kernel_rfl
/-- a level's six cells -/
def LV (N : Nat) (w : World) (cells : List Value) (l : Lev) (F : List Nat) : Prop :=
  ∃ cv rv cc rc Fc Fr, cells = [cv, rv, .bool l.fold, .bool l.all, .int .i64 l.index, .string l.name] ∧ w.ownsRow N 26 9 cv l.cats.length cc ∧ TVs N w cc l.cats Fc ∧ w.ownsRow N 26 9 rv l.reps.length rc ∧ TVs N w rc l.reps Fr ∧ F = cv.ownBlock.toList ++ (rv.ownBlock.toList ++ (Fc ++ Fr))
def LVs (N : Nat) (w : World) : List Value → List Lev → List Nat → Prop
  | cells, [], F => cells = [] ∧ F = []
  | cells, l :: ls, F => ∃ c cs F1 F2, cells = c ++ cs ∧ LV N w c l F1 ∧ LVs N w cs ls F2 ∧ F = F1 ++ F2
theorem LV.kept {N : Nat} {w w' : World} {c : List Value} {l : Lev} {F : List Nat} (h : LV N w c l F) (hk : ∀ k ∈ F, w'.heap[k]? = w.heap[k]?) : LV N w' c l F := by
  obtain ⟨cv, rv, cc, rc, Fc, Fr, h1, h2, h3, h4, h5, rfl⟩ := h
  exact ⟨cv, rv, cc, rc, Fc, Fr, h1, row_kept h2 fun b hb => hk b (by simp [hb]), h3.kept fun k hkk => hk k (by simp [hkk]), row_kept h4 fun b hb => hk b (by simp [hb]), h5.kept fun k hkk => hk k (by simp [hkk]), rfl⟩
theorem LVs.kept {N : Nat} {w w' : World} : ∀ {ls : List Lev} {c : List Value} {F : List Nat}, LVs N w c ls F → (∀ k ∈ F, w'.heap[k]? = w.heap[k]?) → LVs N w' c ls F := by
  intro ls
  induction ls with
  | nil => intro c F h _; exact h
  | cons l ls ih =>
    intro c F h hk
    obtain ⟨c1, cs, F1, F2, rfl, h1, h2, rfl⟩ := h
    exact ⟨c1, cs, F1, F2, rfl, h1.kept fun k hkk => hk k (by simp [hkk]), ih h2 fun k hkk => hk k (by simp [hkk]), rfl⟩
theorem LV.low {N : Nat} {w : World} {c : List Value} {l : Lev} {F : List Nat} (h : LV N w c l F) : ∀ k ∈ F, N ≤ k ∧ k < w.heap.size := by
  obtain ⟨cv, rv, cc, rc, Fc, Fr, h1, h2, h3, h4, h5, rfl⟩ := h
  intro k hk
  simp only [List.mem_append, Option.mem_toList] at hk
  rcases hk with hk | hk | hk | hk
  · exact h2.lt k hk
  · exact h4.lt k hk
  · exact h3.low k hk
  · exact h5.low k hk
theorem LVs.low {N : Nat} {w : World} : ∀ {ls : List Lev} {c : List Value} {F : List Nat}, LVs N w c ls F → ∀ k ∈ F, N ≤ k ∧ k < w.heap.size := by
  intro ls
  induction ls with
  | nil => intro c F h k hk; rw [h.2] at hk; cases hk
  | cons l ls ih =>
    intro c F h k hk
    obtain ⟨c1, cs, F1, F2, rfl, h1, h2, rfl⟩ := h
    rcases List.mem_append.1 hk with hk | hk
    · exact h1.low k hk
    · exact ih h2 k hk
theorem LV.six {N : Nat} {w : World} {c : List Value} {l : Lev} {F : List Nat} (h : LV N w c l F) : c.length = 6 := by
  obtain ⟨cv, rv, cc, rc, Fc, Fr, rfl, _⟩ := h
  rfl
theorem LVs.len {N : Nat} {w : World} : ∀ {ls : List Lev} {c : List Value} {F : List Nat}, LVs N w c ls F → c.length = ls.length * 6 := by
  intro ls
  induction ls with
  | nil => intro c F h; rw [h.1]; rfl
  | cons l ls ih =>
    intro c F h
    obtain ⟨c1, cs, F1, F2, rfl, h1, h2, rfl⟩ := h
    have e1 := h1.six
    have e2 := ih h2
    simp only [List.length_append, List.length_cons]
    omega
theorem LVs.snoc {N : Nat} {w : World} {c : List Value} {l : Lev} {F : List Nat} (h : LV N w c l F) : ∀ {ls : List Lev} {cs : List Value} {G : List Nat}, LVs N w cs ls G → LVs N w (cs ++ c) (ls ++ [l]) (G ++ F) := by
  intro ls
  induction ls with
  | nil =>
    intro cs G hs
    obtain ⟨rfl, rfl⟩ := hs
    exact ⟨c, [], F, [], by simp, h, ⟨rfl, rfl⟩, by simp⟩
  | cons u us ih =>
    intro cs G hs
    obtain ⟨c1, cs1, F1, F2, rfl, h1, h2, rfl⟩ := hs
    exact ⟨c1, cs1 ++ c, F1, F2 ++ F, by simp, h1, ih h2, by simp⟩
theorem LVs.unsnoc {N : Nat} {w : World} {l : Lev} : ∀ {ls : List Lev} {cs : List Value} {G : List Nat}, LVs N w cs (ls ++ [l]) G → ∃ c1 c G1 F, cs = c1 ++ c ∧ LVs N w c1 ls G1 ∧ LV N w c l F ∧ G = G1 ++ F := by
  intro ls
  induction ls with
  | nil =>
    intro cs G h
    obtain ⟨c, cs1, F1, F2, rfl, h1, h2, rfl⟩ := h
    obtain ⟨rfl, rfl⟩ := h2
    exact ⟨[], c, [], F1, by simp, ⟨rfl, rfl⟩, h1, by simp⟩
  | cons u us ih =>
    intro cs G h
    obtain ⟨c, cs1, F1, F2, rfl, h1, h2, rfl⟩ := h
    obtain ⟨c1, c', G1, F, rfl, h3, h4, rfl⟩ := ih h2
    exact ⟨c ++ c1, c', F1 ++ G1, F, by simp, ⟨c, c1, F1, G1, rfl, h1, h3, rfl⟩, h4, by simp⟩
end Go.Proofs.YtenanfkmmkmolaaGreatDoor
/- HELPERS: a rep is put into the innermost level. -/
namespace Go.Proofs.YtenanfkmmkmolaaGreatDoor
open Go.RowKit Go.Mx
set_option linter.unusedVariables false
set_option linter.unusedSimpArgs false
theorem own_ne {w : World} {base e size n g : Nat} {v : Value} {xs : List Value} {c : Array Value} {t : TypeId} {fr : Nat × Nat} (ho : w.ownsRow base e size v n xs) (hg : w.heap[g]? = some (.cells c t fr)) (ht : t ≠ e) : v.ownBlock ≠ some g := by
  intro h
  rcases ho.2 with ⟨rfl, _⟩ | ⟨b, cap, cur, rfl, hb, hgg, rest⟩
  · simp [Value.ownBlock] at h
  · simp [Value.ownBlock] at h
    subst h
    rw [hgg] at hg
    simp at hg
    exact ht hg.2.1.symm
theorem own_setCell {w : World} {base e size n : Nat} {v u : Value} {xs : List Value} {a : Addr} (h : w.ownsRow base e size v n xs) (hne : v.ownBlock ≠ some a.block) : (w.setCell a u).ownsRow base e size v n xs := row_kept h fun b hb => Below.heap_setCell _ _ _ _ (fun e => hne (by rw [hb, e]))
theorem tv_cells {N : Nat} {w : World} {c : List Value} {t : Tree} {F : List Nat} (h : TV N w c t F) : ∃ (a0 a2 a4 a5 a7 : Int) (a6 : Bool) (a8 : ByteArray) (r1 s1 : Option Addr) (r2 r3 s2 s3 : Nat), c = [.int .i64 a0, .slice r1 r2 r3, .int .i64 a2, .slice s1 s2 s3, .int .i64 a4, .int .i64 a5, .bool a6, .int .i64 a7, .string a8] := by
  cases h with
  | @mk a0 rg a2 sb a4 a5 a6 a7 a8 rv sv cl F1 hr hs ht =>
    obtain ⟨r1, r2, r3, rfl⟩ := row_slice hr
    obtain ⟨s1, s2, s3, rfl⟩ := row_slice hs
    exact ⟨a0, a2, a4, a5, a7, a6, a8, r1, s1, r2, r3, s2, s3, rfl⟩
/-- nothing of what was there has turned but these blocks -/
structure Fr (w w' : World) (F : List Nat) : Prop where
  os : w'.os = w.os
  tape : w'.tape = w.tape
  output : w'.output = w.output
  size : w.heap.size ≤ w'.heap.size
  block : ∀ k, k < w.heap.size → k ∉ F → w'.heap[k]? = w.heap[k]?
/-- the nine last cells of a row of nodes -/
theorem last9 {w : World} {N b cap m : Nat} {xs : List Value} (h : w.ownsRow N 26 9 (.slice (some ⟨b, 0, none⟩) (m + 1) cap) (m + 1) (xs ++ Z9.toList)) :
    w.cell? ⟨b, m * 9, none⟩ = some (.int .i64 0) ∧ w.cell? ⟨b, m * 9 + 1, none⟩ = some (.slice none 0 0) ∧ w.cell? ⟨b, m * 9 + 2, none⟩ = some (.int .i64 0) ∧ w.cell? ⟨b, m * 9 + 3, none⟩ = some (.slice none 0 0) ∧ w.cell? ⟨b, m * 9 + 4, none⟩ = some (.int .i64 0) ∧ w.cell? ⟨b, m * 9 + 5, none⟩ = some (.int .i64 0) ∧ w.cell? ⟨b, m * 9 + 6, none⟩ = some (.bool false) ∧ w.cell? ⟨b, m * 9 + 7, none⟩ = some (.int .i64 0) ∧ w.cell? ⟨b, m * 9 + 8, none⟩ = some (.string ⟨#[]⟩) := by
  have hl : xs.length = m * 9 := by have := h.1; simp at this; omega
  have f : ∀ j, j < 9 → w.cell? ⟨b, m * 9 + j, none⟩ = Z9.toList[j]? := by
    intro j hj
    rw [h.cellAt (m * 9 + j) (by omega), List.getElem?_append_right (by omega)]
    congr 1
    omega
  exact ⟨f 0 (by decide), f 1 (by decide), f 2 (by decide), f 3 (by decide), f 4 (by decide), f 5 (by decide), f 6 (by decide), f 7 (by decide), f 8 (by decide)⟩
theorem put9 {w : World} {N b cap m : Nat} {xs : List Value} (h : w.ownsRow N 26 9 (.slice (some ⟨b, 0, none⟩) (m + 1) cap) (m + 1) (xs ++ Z9.toList)) (v0 v1 v2 v3 v4 v5 v6 v7 v8 : Value) :
    (((((((((w.setCell ⟨b, m * 9, none⟩ v0).setCell ⟨b, m * 9 + 1, none⟩ v1).setCell ⟨b, m * 9 + 2, none⟩ v2).setCell ⟨b, m * 9 + 3, none⟩ v3).setCell ⟨b, m * 9 + 4, none⟩ v4).setCell ⟨b, m * 9 + 5, none⟩ v5).setCell ⟨b, m * 9 + 6, none⟩ v6).setCell ⟨b, m * 9 + 7, none⟩ v7).setCell ⟨b, m * 9 + 8, none⟩ v8).ownsRow N 26 9 (.slice (some ⟨b, 0, none⟩) (m + 1) cap) (m + 1) (xs ++ [v0, v1, v2, v3, v4, v5, v6, v7, v8]) := by
  have hl : xs.length = m * 9 := by have := h.1; simp at this; omega
  have e := (((((((((h.stored (m * 9) v0).1.stored (m * 9 + 1) v1).1.stored (m * 9 + 2) v2).1.stored (m * 9 + 3) v3).1.stored (m * 9 + 4) v4).1.stored (m * 9 + 5) v5).1.stored (m * 9 + 6) v6).1.stored (m * 9 + 7) v7).1.stored (m * 9 + 8) v8).1
  have key : ((((((((((xs ++ Z9.toList).set (m * 9) v0).set (m * 9 + 1) v1).set (m * 9 + 2) v2).set (m * 9 + 3) v3).set (m * 9 + 4) v4).set (m * 9 + 5) v5).set (m * 9 + 6) v6).set (m * 9 + 7) v7).set (m * 9 + 8) v8) = xs ++ [v0, v1, v2, v3, v4, v5, v6, v7, v8] := by
    rw [← hl]
    have f : ∀ (l : List Value) (j : Nat) (v : Value), (xs ++ l).set (xs.length + j) v = xs ++ l.set j v := by
      intro l j v
      rw [List.set_append_right _ _ (by omega)]
      congr 2
      omega
    have f0 : ∀ (l : List Value) (v : Value), (xs ++ l).set xs.length v = xs ++ l.set 0 v := fun l v => f l 0 v
    rw [f0, f, f, f, f, f, f, f, f]
    rfl
  rw [key] at e
  exact e
/-- what stands of the rest behind a growing row -/
theorem moved_fr {w w' : World} {v v' : Value} (h : Moved w w' v v') : ∀ k, k < w.heap.size → v.ownBlock ≠ some k → w'.heap[k]? = w.heap[k]? := by
  intro k hk hne
  rcases h with ⟨_, h⟩ | ⟨_, h⟩
  · exact h.block k hk (fun e => hne e.symm)
  · exact h.block k hk (by simp)
theorem moved_sz {w w' : World} {v v' : Value} (h : Moved w w' v v') : w'.os = w.os ∧ w'.tape = w.tape ∧ w'.output = w.output ∧ w.heap.size ≤ w'.heap.size := by
  rcases h with ⟨_, h⟩ | ⟨_, h⟩ <;> exact ⟨h.os, h.tape, h.output, h.size⟩
theorem news9 (w : World) : ∀ (j : Nat) (u : Value), Z9.toList[j]? = some u → (w.alloc (.cells Z9 26)).cell? ((⟨w.heap.size, 0, none⟩ : Addr).add j) = some u := by
  intro j u h
  rw [Addr.add_lit, Nat.zero_add, World.cell?_alloc_at Z9 26 _ j rfl]
  simpa using h
theorem one9 : ∀ u ∈ Z9.toList, u.oneCell' = true := by
  intro u hu
  simp at hu
  rcases hu with rfl | rfl | rfl | rfl | rfl | rfl | rfl | rfl | rfl <;> rfl
/-- what stands behind the growing of a row of nodes -/
theorem push_facts {N : Nat} {w2 w' : World} {rv : Value} {m b' cap' rb ob : Nat} {xs : List Value} {B cur : Array Value} (ho : w'.ownsRow N 26 9 (.slice (some ⟨b', 0, none⟩) (m + 1) cap') (m + 1) (xs ++ Z9.toList)) (hM : Moved (w2.drew.alloc (.cells Z9 26)) w' rv (.slice (some ⟨b', 0, none⟩) (m + 1) cap'))
    (hbox : w2.heap[rb]? = some (.cells B 26 (0, 0))) (hob : w2.heap[ob]? = some (.cells cur 85 (0, 0))) (hr1 : rv.ownBlock ≠ some rb) (hr2 : rv.ownBlock ≠ some ob) :
    w'.heap[rb]? = some (.cells B 26 (0, 0)) ∧ w'.heap[ob]? = some (.cells cur 85 (0, 0)) ∧ ¬ b' = ob ∧ ¬ ob = b' ∧ ¬ b' = rb ∧ ¬ rb = b' ∧ m + 1 ≤ cap' := by
  have l1 := (Array.getElem?_eq_some_iff.1 hbox).1
  have l2 := (Array.getElem?_eq_some_iff.1 hob).1
  have f := moved_fr hM
  have e1 := (f rb (by simp; omega) hr1).trans ((heap_alloc_old w2.drew _ l1).trans hbox)
  have e2 := (f ob (by simp; omega) hr2).trans ((heap_alloc_old w2.drew _ l2).trans hob)
  have n1 : ¬ b' = ob ∧ ¬ b' = rb := by
    rcases hM with ⟨h, _⟩ | ⟨h, _⟩
    · have h' : some b' = rv.ownBlock := h
      exact ⟨fun e => hr2 (by rw [← h', e]), fun e => hr1 (by rw [← h', e])⟩
    · have h' : some b' = some (w2.drew.alloc (.cells Z9 26)).heap.size := h
      simp at h'
      omega
  have hcap : m + 1 ≤ cap' := by
    rcases ho.2 with ⟨h, _⟩ | ⟨g, cap, cur', he, hb, hgg, h1, h2, h3, h4⟩
    · cases h
    · simp only [Value.slice.injEq, Option.some.injEq, Addr.mk.injEq] at he
      obtain ⟨⟨rfl, _⟩, _, rfl⟩ := he
      omega
  exact ⟨e1, e2, n1.1, fun e => n1.1 e.symm, n1.2, fun e => n1.2 e.symm, hcap⟩
theorem hset (w : World) (b i : Nat) (v : Value) (k : Nat) (hk : k ≠ b) : (w.setCell ⟨b, i, none⟩ v).heap[k]? = w.heap[k]? := Below.heap_setCell _ _ _ _ hk
theorem zset (w : World) (a : Addr) (v : Value) : (w.setCell a v).heap.size = w.heap.size := by simp [World.setCell]
theorem oset (w : World) (a : Addr) (v : Value) : (w.setCell a v).os = w.os := rfl
theorem tset (w : World) (a : Addr) (v : Value) : (w.setCell a v).tape = w.tape := rfl
theorem uset (w : World) (a : Addr) (v : Value) : (w.setCell a v).output = w.output := rfl
/-- a node was put behind a row of them that hangs in a field of a level -/
structure Pushed (N : Nat) (w w' : World) (ob : Nat) (cur : Array Value) (o : Nat) (rv : Value) (m : Nat) (xs vs : List Value) : Prop where
  ex : ∃ nv, w'.ownsRow N 26 9 nv (m + 1) (xs ++ vs) ∧ w'.heap[ob]? = some (.cells (cur.setIfInBounds o nv) 85 (0, 0)) ∧ (nv.ownBlock = rv.ownBlock ∨ ∃ b, nv.ownBlock = some b ∧ w.heap.size ≤ b)
  fr : Fr w w' (ob :: rv.ownBlock.toList)
theorem push_end {N : Nat} {w2 w3 w' : World} {ob b m cap o : Nat} {cur : Array Value} {rv : Value} {xs vs : List Value} (hM : Moved (w2.drew.alloc (.cells Z9 26)) w3 rv (.slice (some ⟨b, 0, none⟩) (m + 1) cap)) (hne : ¬ ob = b) (hob : ob < w2.heap.size)
    (hrow : w'.ownsRow N 26 9 (.slice (some ⟨b, 0, none⟩) (m + 1) cap) (m + 1) (xs ++ vs)) (hblk : w'.heap[ob]? = some (.cells (cur.setIfInBounds o (.slice (some ⟨b, 0, none⟩) (m + 1) cap)) 85 (0, 0)))
    (hos : w'.os = w3.os ∧ w'.tape = w3.tape ∧ w'.output = w3.output ∧ w'.heap.size = w3.heap.size) (hfr : ∀ k, k ≠ b → k ≠ ob → w'.heap[k]? = w3.heap[k]?) : Pushed N w2 w' ob cur o rv m xs vs := by
  obtain ⟨q1, q2, q3, q4⟩ := moved_sz hM
  simp at q4
  have hb : some b = rv.ownBlock ∨ b = w2.heap.size + 1 := by
    rcases hM with ⟨h, _⟩ | ⟨h, _⟩
    · exact .inl h
    · have h' : some b = some (w2.drew.alloc (.cells Z9 26)).heap.size := h
      simp at h'
      exact .inr h'
  refine ⟨⟨_, hrow, hblk, ?_⟩, ⟨hos.1.trans q1, hos.2.1.trans q2, hos.2.2.1.trans q3, by rw [hos.2.2.2]; omega, fun k hk hn => ?_⟩⟩
  · rcases hb with h | h
    · exact .inl h
    · exact .inr ⟨b, rfl, by omega⟩
  · simp only [List.mem_cons, Option.mem_toList, not_or] at hn
    have hkb : k ≠ b := by
      rcases hb with h | h
      · exact fun e => hn.2 (by rw [← h, e])
      · omega
    rw [hfr k hkb hn.1, moved_fr hM k (by simp; omega) (fun e => hn.2 e)]
    exact heap_alloc_old w2.drew _ hk
theorem push_A {N : Nat} {w2 w3 : World} {ob b m cap o : Nat} {cur : Array Value} {rv : Value} {xs : List Value} (hM : Moved (w2.drew.alloc (.cells Z9 26)) w3 rv (.slice (some ⟨b, 0, none⟩) (m + 1) cap)) (ho : w3.ownsRow N 26 9 (.slice (some ⟨b, 0, none⟩) (m + 1) cap) (m + 1) (xs ++ Z9.toList)) (hne : ¬ ob = b) (hob : ob < w2.heap.size) (hblk : w3.heap[ob]? = some (.cells cur 85 (0, 0))) (v0 v1 v2 v3 v4 v5 v6 v7 v8 : Value) :
    Pushed N w2 (((((((((((w3).setCell ⟨b, m * 9, none⟩ v0).setCell ⟨b, m * 9 + 1, none⟩ v1).setCell ⟨b, m * 9 + 2, none⟩ v2).setCell ⟨b, m * 9 + 3, none⟩ v3).setCell ⟨b, m * 9 + 4, none⟩ v4).setCell ⟨b, m * 9 + 5, none⟩ v5).setCell ⟨b, m * 9 + 6, none⟩ v6).setCell ⟨b, m * 9 + 7, none⟩ v7).setCell ⟨b, m * 9 + 8, none⟩ v8).setCell ⟨ob, o, none⟩ (.slice (some ⟨b, 0, none⟩) (m + 1) cap)) ob cur o rv m xs [v0, v1, v2, v3, v4, v5, v6, v7, v8] := by
  have hb' : ∀ k, k ≠ b → (((((((((((w3).setCell ⟨b, m * 9, none⟩ v0).setCell ⟨b, m * 9 + 1, none⟩ v1).setCell ⟨b, m * 9 + 2, none⟩ v2).setCell ⟨b, m * 9 + 3, none⟩ v3).setCell ⟨b, m * 9 + 4, none⟩ v4).setCell ⟨b, m * 9 + 5, none⟩ v5).setCell ⟨b, m * 9 + 6, none⟩ v6).setCell ⟨b, m * 9 + 7, none⟩ v7).setCell ⟨b, m * 9 + 8, none⟩ v8)).heap[k]? = w3.heap[k]? := fun k hk => by simp only [hset _ _ _ _ k hk]
  refine push_end hM hne hob ?_ ?_ ⟨by simp only [oset], by simp only [tset], by simp only [uset], by simp only [zset]⟩ fun k h1 h2 => ?_
  · exact own_setCell (put9 ho v0 v1 v2 v3 v4 v5 v6 v7 v8) (by simp [Value.ownBlock]; exact fun e => hne e.symm)
  · exact Joins.block_setCell ((hb' ob hne).trans hblk) _
  · rw [Below.heap_setCell _ _ _ _ h2, hb' k h1]
theorem push_B {N : Nat} {w2 w3 : World} {ob b m cap o : Nat} {cur : Array Value} {rv : Value} {xs : List Value} (hM : Moved (w2.drew.alloc (.cells Z9 26)) w3 rv (.slice (some ⟨b, 0, none⟩) (m + 1) cap)) (ho : w3.ownsRow N 26 9 (.slice (some ⟨b, 0, none⟩) (m + 1) cap) (m + 1) (xs ++ Z9.toList)) (hne : ¬ ob = b) (hob : ob < w2.heap.size) (hblk : w3.heap[ob]? = some (.cells cur 85 (0, 0))) (v0 v1 v2 v3 v4 v5 v6 v7 v8 : Value) :
    Pushed N w2 (((((((((((w3.setCell ⟨ob, o, none⟩ (.slice (some ⟨b, 0, none⟩) (m + 1) cap)).setCell ⟨b, m * 9, none⟩ v0).setCell ⟨b, m * 9 + 1, none⟩ v1).setCell ⟨b, m * 9 + 2, none⟩ v2).setCell ⟨b, m * 9 + 3, none⟩ v3).setCell ⟨b, m * 9 + 4, none⟩ v4).setCell ⟨b, m * 9 + 5, none⟩ v5).setCell ⟨b, m * 9 + 6, none⟩ v6).setCell ⟨b, m * 9 + 7, none⟩ v7).setCell ⟨b, m * 9 + 8, none⟩ v8)) ob cur o rv m xs [v0, v1, v2, v3, v4, v5, v6, v7, v8] := by
  have hb' : ∀ k, k ≠ b → (((((((((((w3.setCell ⟨ob, o, none⟩ (.slice (some ⟨b, 0, none⟩) (m + 1) cap)).setCell ⟨b, m * 9, none⟩ v0).setCell ⟨b, m * 9 + 1, none⟩ v1).setCell ⟨b, m * 9 + 2, none⟩ v2).setCell ⟨b, m * 9 + 3, none⟩ v3).setCell ⟨b, m * 9 + 4, none⟩ v4).setCell ⟨b, m * 9 + 5, none⟩ v5).setCell ⟨b, m * 9 + 6, none⟩ v6).setCell ⟨b, m * 9 + 7, none⟩ v7).setCell ⟨b, m * 9 + 8, none⟩ v8)).heap[k]? = (w3.setCell ⟨ob, o, none⟩ (.slice (some ⟨b, 0, none⟩) (m + 1) cap)).heap[k]? := fun k hk => by simp only [hset _ _ _ _ k hk]
  refine push_end hM hne hob ?_ ?_ ⟨by simp only [oset], by simp only [tset], by simp only [uset], by simp only [zset]⟩ fun k h1 h2 => ?_
  · exact put9 (own_setCell ho (by simp [Value.ownBlock]; exact fun e => hne e.symm)) v0 v1 v2 v3 v4 v5 v6 v7 v8
  · exact (hb' ob hne).trans (Joins.block_setCell hblk _)
  · rw [hb' k h1, Below.heap_setCell _ _ _ _ h2]
theorem RW.fr {w w' : World} {g : Nat} {t : List Int} {i : Nat} {c : Cs} {wr : Wr} {F : List Nat} (h : RW w g t i c wr) (hf : Fr w w' F) (hg : g ∉ F) (htv : ∀ b, c.tv.ownBlock = some b → b ∉ F) (h4 : ∀ k ∈ F, 4 ≤ k) : RW w' g t i c wr := by
  have hB : Below 4 w w' := ⟨hf.os, hf.tape, hf.output, hf.size, fun k hk => hf.block k (Nat.lt_of_lt_of_le hk h.gl.big) (fun hm => by have := h4 k hm; omega)⟩
  refine ⟨⟨(hf.block g h.rd.gl hg).trans h.rd.blk, ?_, h.rd.le, h.rd.bd, h.rd.byt⟩, h.gl.below hB (by omega), h.hg⟩
  obtain ⟨ad, cap, h1, h2, h3, h4'⟩ := h.rd.txt
  refine ⟨ad, cap, h1, h2, h3, fun j hj => ?_⟩
  obtain ⟨b, e1, e2, e3⟩ := h4' j hj
  refine ⟨b, e1, e2, ?_⟩
  rw [← e3]
  unfold World.cell?
  rw [hf.block b (cell_lt e3) (htv b (by rw [h1, e1]; rfl))]
theorem TV.fr {N : Nat} {w w' : World} {c : List Value} {t : Tree} {F G : List Nat} (h : TV N w c t F) (hf : Fr w w' G) (hd : ∀ k ∈ F, k ∉ G) : TV N w' c t F := h.kept fun k hk => hf.block k (h.low k hk).2 (hd k hk)
end Go.Proofs.YtenanfkmmkmolaaGreatDoor
