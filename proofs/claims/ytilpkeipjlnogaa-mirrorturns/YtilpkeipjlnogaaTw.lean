/- HELPERS: the law MirrorTwice walked. -/
import Derived.Test.YtilpkeipjlnogaaAw
import Derived.Test.YtilpkeipjlnogaaNm
namespace Go.Proofs.Ytilpkeipjlnogaa
open Go.RowKit Go.Lk
set_option linter.unusedVariables false
set_option linter.unusedSimpArgs false
theorem lt_of_block {w : World} {b : Nat} {o : Obj} (h : w.heap[b]? = some o) : b < w.heap.size := (Array.getElem?_eq_some_iff.1 h).1
theorem bx_step {U U' : World} {b : Nat} {o : Obj} (hb : Below U.heap.size U U') (h : U.heap[b]? = some o) : U'.heap[b]? = some o := (hb.block b (lt_of_block h)).trans h
theorem ti_step {U U' : World} {N : Nv} {t : Tn} (hb : Below U.heap.size U U') (h : TI U U.heap.size N t) : TI U' U'.heap.size N t := (h.kept fun b hb' => hb.block b hb').le hb.size
theorem to_step {U U' : World} {N : Nv} {t : Tn} {A : Nat → Prop} (hb : Below U.heap.size U U') (h : TO U N t A) : TO U' N t A := h.kept fun b hb' => hb.block b (h.low b hb')
theorem bl_step {x : Nat} {w U U' : World} (hb : Below U.heap.size U U') (h : Below x w U) (hx : x ≤ U.heap.size) : Below x w U' := h.trans (Joins.below_le hb hx)
theorem sound_in {t : Tn} (h : t.sound = true) : t.fine = true ∧ t.nodes ≤ 200000 := by
  simp only [Tn.sound, Bool.and_eq_true, decide_eq_true_eq] at h
  exact ⟨h.1.1, h.2⟩
set_option maxRecDepth 100000 in
set_option maxHeartbeats 8000000 in
theorem twice5_deep {w : World} {N : Nv} {t : Tn} (h : TI w w.heap.size N t) (hd : 4194304 < t.nodes) : Calls Try.prog 5 #[N.v] w fun e w' => e = .returned (.bool true) ∧ Below w.heap.size w w' := by
  have HD := deep10 (ti_step (Joins.below_alloc1 w (.cells #[.int .i64 N.k, .slice N.r1 N.r2 N.r3, .int .i64 N.a2, .slice N.s1 N.s2 N.s3, .int .i64 N.a4, .int .i64 N.a5, .bool N.a6, .int .i64 N.a7, .string N.a8] 25)) h)
  rw [decide_eq_true hd] at HD
  have hb0 := Joins.below_alloc1 w (.cells #[.int .i64 N.k, .slice N.r1 N.r2 N.r3, .int .i64 N.a2, .slice N.s1 N.s2 N.s3, .int .i64 N.a4, .int .i64 N.a5, .bool N.a6, .int .i64 N.a7, .string N.a8] 25)
  obtain ⟨k, r1, r2, r3, a2, s1, s2, s3, a4, a5, a6, a7, a8⟩ := N
  dsimp only at HD hb0
  have HB0 := hid hb0
  clear h hb0
  go_enter Try.func5, Try.ntmps5
  go_wp2_with (first | (go_at_call 7; (with_reducible refine HD.mono ?_); rintro e w2 ⟨rfl, hb2⟩; have HB2 := hid hb2; clear hb2 HD))
  go_ret
  exact ⟨rfl, bl_step HB2.out HB0.out (by simp)⟩
set_option maxRecDepth 100000 in
set_option maxHeartbeats 16000000 in
theorem twice5_no {w : World} {N : Nv} {t : Tn} (h : TI w w.heap.size N t) (hd : t.nodes ≤ 4194304) (hs : t.sound = false) : Calls Try.prog 5 #[N.v] w fun e w' => e = .returned (.bool true) ∧ Below w.heap.size w w' := by
  have hb0 := Joins.below_alloc1 w (.cells #[.int .i64 N.k, .slice N.r1 N.r2 N.r3, .int .i64 N.a2, .slice N.s1 N.s2 N.s3, .int .i64 N.a4, .int .i64 N.a5, .bool N.a6, .int .i64 N.a7, .string N.a8] 25)
  have HT0 := hid (ti_step hb0 h)
  have HX0 : Hid (BxN (w.alloc (.cells #[.int .i64 N.k, .slice N.r1 N.r2 N.r3, .int .i64 N.a2, .slice N.s1 N.s2 N.s3, .int .i64 N.a4, .int .i64 N.a5, .bool N.a6, .int .i64 N.a7, .string N.a8] 25)) w.heap.size N) := heap_alloc_new w _
  have HD := deep10 HT0.out
  rw [decide_eq_false (by omega)] at HD
  have HB0 := hid hb0
  clear h hb0
  obtain ⟨k, r1, r2, r3, a2, s1, s2, s3, a4, a5, a6, a7, a8⟩ := N
  dsimp only at HD HT0 HX0 HB0
  have hsz0 : w.heap.size + 1 ≤ (w.alloc (.cells #[.int .i64 k, .slice r1 r2 r3, .int .i64 a2, .slice s1 s2 s3, .int .i64 a4, .int .i64 a5, .bool a6, .int .i64 a7, .string a8] 25)).heap.size := by simp
  obtain ⟨x, hx⟩ : ∃ x, x = w.heap.size := ⟨_, rfl⟩
  go_enter Try.func5, Try.ntmps5
  go_upto_region 4 with (go_at_call 7; (with_reducible refine HD.mono ?_); rintro e U1 ⟨rfl, hb⟩; have HBS := hid hb; clear hb HD)
  rw [← hx] at HX0 HB0 hsz0 ⊢
  have HXE := hid hx
  clear hx
  have HT1 := hid (ti_step HBS.out HT0.out)
  have HX1 : Hid (BxN U1 x ⟨k, r1, r2, r3, a2, s1, s2, s3, a4, a5, a6, a7, a8⟩) := bx_step HBS.out HX0.out
  have hsz1 : x + 1 ≤ U1.heap.size := Nat.le_trans hsz0 HBS.out.size
  have HB1 := hid (bl_step HBS.out HB0.out (by omega))
  clear HBS HT0 HX0 hsz0 HB0
  have HA := awake8 U1
  go_upto_region 5 with (go_at_call 8; (with_reducible refine HA.mono ?_); rintro e U2 ⟨rfl, hb⟩; have HBS := hid hb; clear hb HA)
  have HT2 := hid (ti_step HBS.out HT1.out)
  have HX2 : Hid (BxN U2 x ⟨k, r1, r2, r3, a2, s1, s2, s3, a4, a5, a6, a7, a8⟩) := bx_step HBS.out HX1.out
  have hsz2 : x + 1 ≤ U2.heap.size := Nat.le_trans hsz1 HBS.out.size
  have HB2 := hid (bl_step HBS.out HB1.out (by omega))
  clear HBS HT1 HX1 hsz1 HB1
  have HM := mirror10_no HT2.out hs
  obtain ⟨ao0, ao1, ao2, ao3, ao4, ao5, ao6, ao7, ao8⟩ := nine' HX2.out
  go_wp2_with (first | (go_at_call 10; (with_reducible refine HM.mono ?_); rintro e U3 ⟨rfl, hb⟩; have HBS := hid hb; clear hb HM))
  go_ret
  refine ⟨rfl, ?_⟩
  rw [← HXE.out]
  exact (bl_step HBS.out HB2.out (by omega)).alloc (by have := HBS.out.size; omega) _
set_option maxRecDepth 100000 in
set_option maxHeartbeats 16000000 in
theorem twice5_ok {w : World} {N : Nv} {t : Tn} (h : TI w w.heap.size N t) (hd : t.nodes ≤ 4194304) (hs : t.sound = true) : Calls Try.prog 5 #[N.v] w fun e w' => e = .returned (.bool true) ∧ Below w.heap.size w w' := by
  have hb0 := Joins.below_alloc1 w (.cells #[.int .i64 N.k, .slice N.r1 N.r2 N.r3, .int .i64 N.a2, .slice N.s1 N.s2 N.s3, .int .i64 N.a4, .int .i64 N.a5, .bool N.a6, .int .i64 N.a7, .string N.a8] 25)
  have HT0 := hid (ti_step hb0 h)
  have HX0 : Hid (BxN (w.alloc (.cells #[.int .i64 N.k, .slice N.r1 N.r2 N.r3, .int .i64 N.a2, .slice N.s1 N.s2 N.s3, .int .i64 N.a4, .int .i64 N.a5, .bool N.a6, .int .i64 N.a7, .string N.a8] 25)) w.heap.size N) := heap_alloc_new w _
  have HD := deep10 HT0.out
  rw [decide_eq_false (by omega)] at HD
  have HB0 := hid hb0
  clear h hb0
  obtain ⟨k, r1, r2, r3, a2, s1, s2, s3, a4, a5, a6, a7, a8⟩ := N
  dsimp only at HD HT0 HX0 HB0
  have hsz0 : w.heap.size + 1 ≤ (w.alloc (.cells #[.int .i64 k, .slice r1 r2 r3, .int .i64 a2, .slice s1 s2 s3, .int .i64 a4, .int .i64 a5, .bool a6, .int .i64 a7, .string a8] 25)).heap.size := by simp
  obtain ⟨x, hx⟩ : ∃ x, x = w.heap.size := ⟨_, rfl⟩
  go_enter Try.func5, Try.ntmps5
  go_upto_region 4 with (go_at_call 7; (with_reducible refine HD.mono ?_); rintro e U1 ⟨rfl, hb⟩; have HBS := hid hb; clear hb HD)
  rw [← hx] at HX0 HB0 hsz0 ⊢
  have HXE := hid hx
  clear hx
  have HT1 := hid (ti_step HBS.out HT0.out)
  have HX1 : Hid (BxN U1 x ⟨k, r1, r2, r3, a2, s1, s2, s3, a4, a5, a6, a7, a8⟩) := bx_step HBS.out HX0.out
  have hsz1 : x + 1 ≤ U1.heap.size := Nat.le_trans hsz0 HBS.out.size
  have HB1 := hid (bl_step HBS.out HB0.out (by omega))
  clear HBS HT0 HX0 hsz0 HB0
  have HA := awake8 U1
  go_upto_region 5 with (go_at_call 8; (with_reducible refine HA.mono ?_); rintro e U2 ⟨rfl, hb⟩; have HBS := hid hb; clear hb HA)
  have HT2 := hid (ti_step HBS.out HT1.out)
  have HX2 : Hid (BxN U2 x ⟨k, r1, r2, r3, a2, s1, s2, s3, a4, a5, a6, a7, a8⟩) := bx_step HBS.out HX1.out
  have hsz2 : x + 1 ≤ U2.heap.size := Nat.le_trans hsz1 HBS.out.size
  have HB2 := hid (bl_step HBS.out HB1.out (by omega))
  clear HBS HT1 HX1 hsz1 HB1
  have hs1 := Tn.mir_sound hs
  have hs2 := Tn.mir_sound hs1
  have HM := mirror10_ok HT2.out hs
  obtain ⟨ao0, ao1, ao2, ao3, ao4, ao5, ao6, ao7, ao8⟩ := nine' HX2.out
  go_upto_region 6 with (go_at_call 10; (with_reducible refine HM.mono ?_); rintro e Wa ⟨Ma, Aa, rfl, hM, hA, hb⟩; have HMM := hid hM; have HBW := hid hb; clear hM hA hb HM)
  clear ao0 ao1 ao2 ao3 ao4 ao5 ao6 ao7 ao8
  obtain ⟨U3, hU⟩ : ∃ U, U = Wa.alloc (.cells #[.int .i64 Ma.k, .slice Ma.r1 Ma.r2 Ma.r3, .int .i64 Ma.a2, .slice Ma.s1 Ma.s2 Ma.s3, .int .i64 Ma.a4, .int .i64 Ma.a5, .bool Ma.a6, .int .i64 Ma.a7, .string Ma.a8] 25) := ⟨_, rfl⟩
  rw [← hU]
  have HBS : Hid (Below U2.heap.size U2 U3) := by rw [hU]; exact HBW.out.alloc HBW.out.size _
  have HXa3 : Hid (BxN U3 Wa.heap.size Ma) := by rw [hU]; exact heap_alloc_new Wa _
  have HTa3 : Hid (TO U3 Ma t.mir Aa) := by rw [hU]; exact to_step (Joins.below_alloc1 _ _) HMM.out
  obtain ⟨za, hz⟩ : ∃ z, z = Wa.heap.size := ⟨_, rfl⟩
  rw [← hz] at HXa3 ⊢
  clear hz hU HMM HBW
  have HT3 := hid (ti_step HBS.out HT2.out)
  have HX3 : Hid (BxN U3 x ⟨k, r1, r2, r3, a2, s1, s2, s3, a4, a5, a6, a7, a8⟩) := bx_step HBS.out HX2.out
  have hsz3 : x + 1 ≤ U3.heap.size := Nat.le_trans hsz2 HBS.out.size
  have HB3 := hid (bl_step HBS.out HB2.out (by omega))
  clear HBS HT2 HX2 hsz2 HB2
  have HM := mirror10_ok (HTa3.out).ti hs1
  obtain ⟨ao0, ao1, ao2, ao3, ao4, ao5, ao6, ao7, ao8⟩ := nine' HXa3.out
  go_upto_region 9 with (go_at_call 10; (with_reducible refine HM.mono ?_); rintro e Wb ⟨Mb, Ab, rfl, hM, hA, hb⟩; have HMM := hid hM; have HBW := hid hb; clear hM hA hb HM)
  clear ao0 ao1 ao2 ao3 ao4 ao5 ao6 ao7 ao8
  obtain ⟨U4, hU⟩ : ∃ U, U = Wb.alloc (.cells #[.int .i64 Mb.k, .slice Mb.r1 Mb.r2 Mb.r3, .int .i64 Mb.a2, .slice Mb.s1 Mb.s2 Mb.s3, .int .i64 Mb.a4, .int .i64 Mb.a5, .bool Mb.a6, .int .i64 Mb.a7, .string Mb.a8] 25) := ⟨_, rfl⟩
  rw [← hU]
  have HBS : Hid (Below U3.heap.size U3 U4) := by rw [hU]; exact HBW.out.alloc HBW.out.size _
  have HXb4 : Hid (BxN U4 Wb.heap.size Mb) := by rw [hU]; exact heap_alloc_new Wb _
  have HTb4 : Hid (TO U4 Mb t.mir.mir Ab) := by rw [hU]; exact to_step (Joins.below_alloc1 _ _) HMM.out
  obtain ⟨zb, hz⟩ : ∃ z, z = Wb.heap.size := ⟨_, rfl⟩
  rw [← hz] at HXb4 ⊢
  clear hz hU HMM HBW
  have HT4 := hid (ti_step HBS.out HT3.out)
  have HX4 : Hid (BxN U4 x ⟨k, r1, r2, r3, a2, s1, s2, s3, a4, a5, a6, a7, a8⟩) := bx_step HBS.out HX3.out
  have hsz4 : x + 1 ≤ U4.heap.size := Nat.le_trans hsz3 HBS.out.size
  have HB4 := hid (bl_step HBS.out HB3.out (by omega))
  have HXa4 : Hid (BxN U4 za Ma) := bx_step HBS.out HXa3.out
  have HTa4 := hid (to_step HBS.out HTa3.out)
  clear HBS HT3 HX3 hsz3 HB3 HXa3 HTa3
  have HM := mirror10_ok (HTb4.out).ti hs2
  obtain ⟨ao0, ao1, ao2, ao3, ao4, ao5, ao6, ao7, ao8⟩ := nine' HXb4.out
  go_upto_region 10 with (go_at_call 10; (with_reducible refine HM.mono ?_); rintro e Wc ⟨Mc, Ac, rfl, hM, hA, hb⟩; have HMM := hid hM; have HBW := hid hb; clear hM hA hb HM)
  clear ao0 ao1 ao2 ao3 ao4 ao5 ao6 ao7 ao8
  obtain ⟨U5, hU⟩ : ∃ U, U = Wc.alloc (.cells #[.int .i64 Mc.k, .slice Mc.r1 Mc.r2 Mc.r3, .int .i64 Mc.a2, .slice Mc.s1 Mc.s2 Mc.s3, .int .i64 Mc.a4, .int .i64 Mc.a5, .bool Mc.a6, .int .i64 Mc.a7, .string Mc.a8] 25) := ⟨_, rfl⟩
  rw [← hU]
  have HBS : Hid (Below U4.heap.size U4 U5) := by rw [hU]; exact HBW.out.alloc HBW.out.size _
  have HXc5 : Hid (BxN U5 Wc.heap.size Mc) := by rw [hU]; exact heap_alloc_new Wc _
  have HTc5 : Hid (TO U5 Mc t.mir.mir.mir Ac) := by rw [hU]; exact to_step (Joins.below_alloc1 _ _) HMM.out
  obtain ⟨zc, hz⟩ : ∃ z, z = Wc.heap.size := ⟨_, rfl⟩
  rw [← hz] at HXc5 ⊢
  clear hz hU HMM HBW
  have HT5 := hid (ti_step HBS.out HT4.out)
  have HX5 : Hid (BxN U5 x ⟨k, r1, r2, r3, a2, s1, s2, s3, a4, a5, a6, a7, a8⟩) := bx_step HBS.out HX4.out
  have hsz5 : x + 1 ≤ U5.heap.size := Nat.le_trans hsz4 HBS.out.size
  have HB5 := hid (bl_step HBS.out HB4.out (by omega))
  have HXa5 : Hid (BxN U5 za Ma) := bx_step HBS.out HXa4.out
  have HTa5 := hid (to_step HBS.out HTa4.out)
  have HXb5 : Hid (BxN U5 zb Mb) := bx_step HBS.out HXb4.out
  have HTb5 := hid (to_step HBS.out HTb4.out)
  clear HBS HT4 HX4 hsz4 HB4 HXa4 HTa4 HXb4 HTb4
  have HC := sound25 (HTa5.out).ti
  rw [if_pos hs1] at HC
  obtain ⟨ao0, ao1, ao2, ao3, ao4, ao5, ao6, ao7, ao8⟩ := nine' HXa5.out
  go_upto_region 11 with (go_at_call 22; (with_reducible refine HC.mono ?_); rintro e U6 ⟨rfl, hb⟩; have HBS := hid hb; clear hb HC)
  clear ao0 ao1 ao2 ao3 ao4 ao5 ao6 ao7 ao8
  have HT6 := hid (ti_step HBS.out HT5.out)
  have HX6 : Hid (BxN U6 x ⟨k, r1, r2, r3, a2, s1, s2, s3, a4, a5, a6, a7, a8⟩) := bx_step HBS.out HX5.out
  have hsz6 : x + 1 ≤ U6.heap.size := Nat.le_trans hsz5 HBS.out.size
  have HB6 := hid (bl_step HBS.out HB5.out (by omega))
  have HXa6 : Hid (BxN U6 za Ma) := bx_step HBS.out HXa5.out
  have HTa6 := hid (to_step HBS.out HTa5.out)
  have HXb6 : Hid (BxN U6 zb Mb) := bx_step HBS.out HXb5.out
  have HTb6 := hid (to_step HBS.out HTb5.out)
  have HXc6 : Hid (BxN U6 zc Mc) := bx_step HBS.out HXc5.out
  have HTc6 := hid (to_step HBS.out HTc5.out)
  clear HBS HT5 HX5 hsz5 HB5 HXa5 HTa5 HXb5 HTb5 HXc5 HTc5
  have HC := names23 (HTa6.out).ti (sound_in hs1).2 U6 (Nat.le_refl _) (fun _ _ => rfl)
  rw [(t.mir_fine (sound_in hs).1).2.2.2] at HC
  obtain ⟨ao0, ao1, ao2, ao3, ao4, ao5, ao6, ao7, ao8⟩ := nine' HXa6.out
  go_upto_region 12 with (go_at_call 23; (with_reducible refine HC.mono ?_); rintro e U7 ⟨v1, v2, rfl, hTw, hb⟩; obtain ⟨e1, e2⟩ := hTw.nil rfl; subst e1 e2; have HBS := hid hb; clear hb HC hTw)
  clear ao0 ao1 ao2 ao3 ao4 ao5 ao6 ao7 ao8
  have HT7 := hid (ti_step HBS.out HT6.out)
  have HX7 : Hid (BxN U7 x ⟨k, r1, r2, r3, a2, s1, s2, s3, a4, a5, a6, a7, a8⟩) := bx_step HBS.out HX6.out
  have hsz7 : x + 1 ≤ U7.heap.size := Nat.le_trans hsz6 HBS.out.size
  have HB7 := hid (bl_step HBS.out HB6.out (by omega))
  have HXa7 : Hid (BxN U7 za Ma) := bx_step HBS.out HXa6.out
  have HTa7 := hid (to_step HBS.out HTa6.out)
  have HXb7 : Hid (BxN U7 zb Mb) := bx_step HBS.out HXb6.out
  have HTb7 := hid (to_step HBS.out HTb6.out)
  have HXc7 : Hid (BxN U7 zc Mc) := bx_step HBS.out HXc6.out
  have HTc7 := hid (to_step HBS.out HTc6.out)
  clear HBS HT6 HX6 hsz6 HB6 HXa6 HTa6 HXb6 HTb6 HXc6 HTc6
  have hca : TI U7 U7.heap.size Mc t.mir := by have := (HTc7.out).ti; rw [Tn.mir3 (sound_in hs).1] at this; exact this
  have HC := same13 hca (HTa7.out).ti
  clear hca
  obtain ⟨ao0, ao1, ao2, ao3, ao4, ao5, ao6, ao7, ao8⟩ := nine' HXc7.out
  obtain ⟨bo0, bo1, bo2, bo3, bo4, bo5, bo6, bo7, bo8⟩ := nine' HXa7.out
  go_upto_region 13 with (go_at_call 13; (with_reducible refine HC.mono ?_); rintro e U8 ⟨rfl, hb⟩; have HBS := hid hb; clear hb HC)
  clear ao0 ao1 ao2 ao3 ao4 ao5 ao6 ao7 ao8 bo0 bo1 bo2 bo3 bo4 bo5 bo6 bo7 bo8
  have HT8 := hid (ti_step HBS.out HT7.out)
  have HX8 : Hid (BxN U8 x ⟨k, r1, r2, r3, a2, s1, s2, s3, a4, a5, a6, a7, a8⟩) := bx_step HBS.out HX7.out
  have hsz8 : x + 1 ≤ U8.heap.size := Nat.le_trans hsz7 HBS.out.size
  have HB8 := hid (bl_step HBS.out HB7.out (by omega))
  have HXa8 : Hid (BxN U8 za Ma) := bx_step HBS.out HXa7.out
  have HTa8 := hid (to_step HBS.out HTa7.out)
  have HXb8 : Hid (BxN U8 zb Mb) := bx_step HBS.out HXb7.out
  have HTb8 := hid (to_step HBS.out HTb7.out)
  have HXc8 : Hid (BxN U8 zc Mc) := bx_step HBS.out HXc7.out
  have HTc8 := hid (to_step HBS.out HTc7.out)
  clear HBS HT7 HX7 hsz7 HB7 HXa7 HTa7 HXb7 HTb7 HXc7 HTc7
  have HC := names23 HT8.out (sound_in hs).2 U8 (Nat.le_refl _) (fun _ _ => rfl)
  obtain ⟨ao0, ao1, ao2, ao3, ao4, ao5, ao6, ao7, ao8⟩ := nine' HX8.out
  go_upto_region 14 with (go_at_call 23; (with_reducible refine HC.mono ?_); rintro e U9 ⟨v3, v4, rfl, hTw, hb⟩; obtain ⟨xs, ys, hr1, hr2, _, _⟩ := hTw.ex; obtain ⟨p1, p2, rfl, _⟩ := row_shape hr1; obtain ⟨p3, p4, rfl, _⟩ := row_shape hr2; have HBS := hid hb; clear hb HC hTw hr1 hr2)
  clear ao0 ao1 ao2 ao3 ao4 ao5 ao6 ao7 ao8
  have HT9 := hid (ti_step HBS.out HT8.out)
  have HX9 : Hid (BxN U9 x ⟨k, r1, r2, r3, a2, s1, s2, s3, a4, a5, a6, a7, a8⟩) := bx_step HBS.out HX8.out
  have hsz9 : x + 1 ≤ U9.heap.size := Nat.le_trans hsz8 HBS.out.size
  have HB9 := hid (bl_step HBS.out HB8.out (by omega))
  have HXa9 : Hid (BxN U9 za Ma) := bx_step HBS.out HXa8.out
  have HTa9 := hid (to_step HBS.out HTa8.out)
  have HXb9 : Hid (BxN U9 zb Mb) := bx_step HBS.out HXb8.out
  have HTb9 := hid (to_step HBS.out HTb8.out)
  have HXc9 : Hid (BxN U9 zc Mc) := bx_step HBS.out HXc8.out
  have HTc9 := hid (to_step HBS.out HTc8.out)
  clear HBS HT8 HX8 hsz8 HB8 HXa8 HTa8 HXb8 HTb8 HXc8 HTc8
  by_cases hg : t.gs = 0
  · have hbt : TI U9 U9.heap.size Mb t := by have := (HTb9.out).ti; rw [Tn.mir_mir t hg] at this; exact this
    have HC := same13 hbt HT9.out
    clear hbt
    have bg : ((t.gs : Int) == 0) = true := by rw [hg]; rfl
    obtain ⟨ao0, ao1, ao2, ao3, ao4, ao5, ao6, ao7, ao8⟩ := nine' HXb9.out
    obtain ⟨bo0, bo1, bo2, bo3, bo4, bo5, bo6, bo7, bo8⟩ := nine' HX9.out
    clear hg
    go_wp2_with (first | (go_at_call 13; (with_reducible refine HC.mono ?_); rintro e U10 ⟨rfl, hb⟩; have HBS := hid hb; clear hb HC))
    go_ret
    refine ⟨rfl, ?_⟩
    rw [← HXE.out]
    exact bl_step HBS.out HB9.out (by omega)
  · have bg : ((t.gs : Int) == 0) = false := by simpa using hg
    go_wp2
    go_ret
    refine ⟨rfl, ?_⟩
    rw [← HXE.out]
    exact HB9.out
theorem twice5 {w : World} {N : Nv} {t : Tn} (h : TI w w.heap.size N t) : Calls Try.prog 5 #[N.v] w fun e w' => e = .returned (.bool true) ∧ Below w.heap.size w w' := by
  by_cases hd : 4194304 < t.nodes
  · exact twice5_deep h hd
  · cases hs : t.sound with
    | false => exact twice5_no h (by omega) hs
    | true => exact twice5_ok h (by omega) hs
end Go.Proofs.Ytilpkeipjlnogaa
