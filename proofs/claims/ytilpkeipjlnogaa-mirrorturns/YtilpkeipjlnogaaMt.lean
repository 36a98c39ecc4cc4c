/- HELPERS: the law MirrorTurns walked. -/
import Derived.Test.YtilpkeipjlnogaaOw
import Derived.Test.YtilpkeipjlnogaaKp
import Derived.Test.YtilpkeipjlnogaaRm
namespace Go.Proofs.Ytilpkeipjlnogaa
open Go.RowKit Go.Lk
set_option linter.unusedVariables false
set_option linter.unusedSimpArgs false
abbrev No : Nat → Prop := fun _ => False
theorem bxc {A : Nat → Prop} {U U' : World} {b : Nat} {o : Obj} (hc : Chs A U U') (h : U.heap[b]? = some o) (hA : ¬ A b) : U'.heap[b]? = some o := (hc.block b (lt_of_block h) hA).trans h
theorem tic {A : Nat → Prop} {U U' : World} {B : Nat} {N : Nv} {t : Tn} (hc : Chs A U U') (h : TI U B N t) (hB : B ≤ U.heap.size) (hA : ∀ b, A b → B ≤ b) : TI U' B N t := h.kept fun b hb => hc.block b (by omega) (fun ha => by have := hA b ha; omega)
theorem toc {A A0 : Nat → Prop} {U U' : World} {N : Nv} {t : Tn} (hc : Chs A U U') (h : TO U N t A0) (hA : ∀ b, A0 b → ¬ A b) : TO U' N t A0 := h.kept fun b hb => hc.block b (h.low b hb) (hA b hb)
theorem tlc {A A0 : Nat → Prop} {U U' : World} {N : Nv} {t : Tn} (hc : Chs A U U') (h : TL U N t A0) (hA : ∀ b, A0 b → ¬ A b) : TL U' N t A0 := h.kept fun b hb => hc.block b (h.low b hb) (hA b hb)
theorem tpc {A A0 : Nat → Prop} {U U' : World} {N : Nv} {t : Tn} (hc : Chs A U U') (h : TP U A0 N t) (hl : ∀ b, A0 b → b < U.heap.size) (hA : ∀ b, A0 b → ¬ A b) : TP U' A0 N t := h.kept (fun b hb => hc.block b (hl b hb) (hA b hb)) (fun b hb => hb)
theorem blc {A : Nat → Prop} {x : Nat} {w U U' : World} (hc : Chs A U U') (h : Below x w U) (hx : x ≤ U.heap.size) (hA : ∀ b, A b → x ≤ b) : Below x w U' := ⟨hc.os.trans h.os, hc.tape.trans h.tape, hc.output.trans h.output, Nat.le_trans h.size hc.size, fun b hb => (hc.block b (by omega) (fun ha => by have := hA b ha; omega)).trans (h.block b hb)⟩
theorem TL.ti {w : World} {N : Nv} {t : Tn} {A : Nat → Prop} (h : TL w N t A) : TI w w.heap.size N t := by
  induction h with
  | @mk N R ts ND AS ok hRk e1 e2 rr sr hk d1 d2 d3 ih =>
    refine .mk (ND := ND) ok e1 (fun hn => ?_) hRk e2 (fun hp => ?_) ih
    · rcases rr.2 with ⟨_, h0⟩ | ⟨b, cap, cur, e, _⟩
      · simp at h0
      · simp only [Value.slice.injEq] at e
        have hbl := (rr.lt b (by rw [e.1]; rfl)).2
        rw [e.1] at rr
        refine ⟨b, 0, e.1, hbl, fun i hi => ?_⟩
        have hl : i < (R ++ M2).length := by simp; omega
        obtain ⟨r0, r1⟩ := O2_at (R ++ M2) i hl
        rw [List.getElem_append_left hi] at r0 r1
        rw [Nat.zero_add]
        exact ⟨(rr.cellAt (i * 2) (by omega)).trans r0, (rr.cellAt (i * 2 + 1) (by omega)).trans r1⟩
    · rcases sr.2 with ⟨_, h0⟩ | ⟨b, cap, cur, e, _⟩
      · simp at h0
      · simp only [Value.slice.injEq] at e
        have hbl := (sr.lt b (by rw [e.1]; rfl)).2
        rw [e.1] at sr
        refine ⟨b, 0, e.1, hbl, fun i hi => ?_⟩
        have hl : i < ((List.range ts.length).map ND ++ [mk7 (-77), mk7 (-78)]).length := by simp; omega
        have hg : ((List.range ts.length).map ND ++ [mk7 (-77), mk7 (-78)])[i] = ND i := by
          rw [List.getElem_append_left (by simpa using hi)]
          simp
        have f : ∀ k, k < 9 → w.cell? ⟨b, i * 9 + k, none⟩ = (Nv.cs (ND i))[k]? := fun k hk' => by
          rw [sr.cellAt (i * 9 + k) (by omega), flat9 _ i k hl hk', hg]
        have f0 := f 0 (by omega)
        rw [Nat.add_zero] at f0
        unfold N9
        rw [Nat.zero_add]
        exact ⟨f0, f 1 (by omega), f 2 (by omega), f 3 (by omega), f 4 (by omega), f 5 (by omega), f 6 (by omega), f 7 (by omega), f 8 (by omega)⟩
theorem st_nil {w : World} {lb : Nat} (h : w.heap[lb]? = some (.cells #[.slice none 0 0, .slice none 0 0] 38 (0, 0))) : ST w lb 0 (.slice none 0 0) (.slice none 0 0) (fun _ => .slice none 0 0) (fun _ => .slice none 0 0) (fun _ => 0) (fun _ => 0) (fun _ => []) (fun _ => []) 1000000 := by
  refine ⟨h, ⟨rfl, .inl ⟨rfl, rfl⟩⟩, ⟨rfl, .inl ⟨rfl, rfl⟩⟩, fun i hi => absurd hi (by simp), fun i hi => absurd hi (by simp), fun p q b hp hq h1 h2 => ?_, fun i hi => absurd hi (by simp)⟩
  have f : ∀ p : Ky, p.ok 0 → bkO lb (.slice none 0 0) (.slice none 0 0) (fun _ => .slice none 0 0) (fun _ => .slice none 0 0) p = some b → p = .l := by
    intro p hp h
    cases p with
    | l => rfl
    | a => cases h
    | b => cases h
    | r i => exact absurd hp (by simp [Ky.ok])
    | s i => exact absurd hp (by simp [Ky.ok])
  rw [f p hp h1, f q hq h2]
set_option maxRecDepth 100000 in
set_option maxHeartbeats 32000000 in
theorem turns3_huge {w : World} {N N2 : Nv} {t u : Tn} (h : TI w w.heap.size N t) (h2 : TI w w.heap.size N2 u) (hd : t.nodes ≤ 200000) (hd2 : u.nodes ≤ 4194304) (hu : 200000 < u.nodes) (hsm : t.small = true) : Calls Try.prog 3 #[N.v, N2.v] w fun e w' => e = .returned (.bool true) ∧ Below w.heap.size w w' := by
  go_enter Try.func3, Try.ntmps3
  go_upto_region 1 with fail
  obtain ⟨U0, hU⟩ : ∃ U, U = (w.alloc (.cells #[.int .i64 N.k, .slice N.r1 N.r2 N.r3, .int .i64 N.a2, .slice N.s1 N.s2 N.s3, .int .i64 N.a4, .int .i64 N.a5, .bool N.a6, .int .i64 N.a7, .string N.a8] 25)).alloc (.cells #[.int .i64 N2.k, .slice N2.r1 N2.r2 N2.r3, .int .i64 N2.a2, .slice N2.s1 N2.s2 N2.s3, .int .i64 N2.a4, .int .i64 N2.a5, .bool N2.a6, .int .i64 N2.a7, .string N2.a8] 25) := ⟨_, rfl⟩
  rw [← hU]
  have HB0 : Hid (Below w.heap.size w U0) := by rw [hU]; exact below_two' w _ _
  have HXx0 : Hid (BxN U0 w.heap.size N) := by rw [hU]; exact (heap_alloc_old _ _ (by simp)).trans (heap_alloc_new w _)
  have HXy0 : Hid (BxN U0 (w.heap.size + 1) N2) := by rw [hU]; exact two_new w _ _ _
  have HTx0 : Hid (TI U0 w.heap.size N t) := h.kept (fun b hb => HB0.out.block b hb)
  have HTy0 : Hid (TI U0 w.heap.size N2 u) := h2.kept (fun b hb => HB0.out.block b hb)
  clear hU h h2
  obtain ⟨y, hy⟩ : ∃ y, y = w.heap.size + 1 := ⟨_, rfl⟩
  rw [← hy] at HXy0 ⊢
  obtain ⟨x, hx⟩ : ∃ x, x = w.heap.size := ⟨_, rfl⟩
  rw [← hx] at HB0 HXx0 HTx0 HTy0 hy ⊢
  have HXE := hid hx
  have hxy : x < y := by omega
  clear hx hy
  have hsz0 : y < U0.heap.size := lt_of_block HXy0.out
  have HC := deep10 (HTx0.out.le (by omega))
  rw [decide_eq_false (by omega)] at HC
  obtain ⟨ao0, ao1, ao2, ao3, ao4, ao5, ao6, ao7, ao8⟩ := nine' HXx0.out
  go_upto_region 2 with (go_at_call 7; (with_reducible refine HC.mono ?_); rintro e U1 ⟨rfl, hb⟩; have HBS := hid (Chs.of_below (A := No) hb); clear hb HC)
  clear ao0 ao1 ao2 ao3 ao4 ao5 ao6 ao7 ao8
  have HXx1 : Hid (BxN U1 x N) := bxc HBS.out HXx0.out (fun h => h)
  have HXy1 : Hid (BxN U1 y N2) := bxc HBS.out HXy0.out (fun h => h)
  have HTx1 : Hid (TI U1 x N t) := tic HBS.out HTx0.out (by omega) (fun _ h => h.elim)
  have HTy1 : Hid (TI U1 x N2 u) := tic HBS.out HTy0.out (by omega) (fun _ h => h.elim)
  have HB1 : Hid (Below x w U1) := blc HBS.out HB0.out (by omega) (fun b h => by exact h.elim)
  have hsz1 : y < U1.heap.size := Nat.lt_of_lt_of_le hsz0 HBS.out.size
  clear HB0 hsz0 HBS HXx0 HXy0 HTx0 HTy0
  have HC := deep10 (HTy1.out.le (by omega))
  rw [decide_eq_false (by omega)] at HC
  obtain ⟨ao0, ao1, ao2, ao3, ao4, ao5, ao6, ao7, ao8⟩ := nine' HXy1.out
  go_upto_region 5 with (go_at_call 7; (with_reducible refine HC.mono ?_); rintro e U2 ⟨rfl, hb⟩; have HBS := hid (Chs.of_below (A := No) hb); clear hb HC)
  clear ao0 ao1 ao2 ao3 ao4 ao5 ao6 ao7 ao8
  have HXx2 : Hid (BxN U2 x N) := bxc HBS.out HXx1.out (fun h => h)
  have HXy2 : Hid (BxN U2 y N2) := bxc HBS.out HXy1.out (fun h => h)
  have HTx2 : Hid (TI U2 x N t) := tic HBS.out HTx1.out (by omega) (fun _ h => h.elim)
  have HTy2 : Hid (TI U2 x N2 u) := tic HBS.out HTy1.out (by omega) (fun _ h => h.elim)
  have HB2 : Hid (Below x w U2) := blc HBS.out HB1.out (by omega) (fun b h => by exact h.elim)
  have hsz2 : y < U2.heap.size := Nat.lt_of_lt_of_le hsz1 HBS.out.size
  clear HB1 hsz1 HBS HXx1 HXy1 HTx1 HTy1
  have HC := awake8 U2
  go_upto_region 6 with (go_at_call 8; (with_reducible refine HC.mono ?_); rintro e U3 ⟨rfl, hb⟩; have HBS := hid (Chs.of_below (A := No) hb); clear hb HC)
  have HXx3 : Hid (BxN U3 x N) := bxc HBS.out HXx2.out (fun h => h)
  have HXy3 : Hid (BxN U3 y N2) := bxc HBS.out HXy2.out (fun h => h)
  have HTx3 : Hid (TI U3 x N t) := tic HBS.out HTx2.out (by omega) (fun _ h => h.elim)
  have HTy3 : Hid (TI U3 x N2 u) := tic HBS.out HTy2.out (by omega) (fun _ h => h.elim)
  have HB3 : Hid (Below x w U3) := blc HBS.out HB2.out (by omega) (fun b h => by exact h.elim)
  have hsz3 : y < U3.heap.size := Nat.lt_of_lt_of_le hsz2 HBS.out.size
  clear HB2 hsz2 HBS HXx2 HXy2 HTx2 HTy2
  have HC := great14 (HTx3.out.le (by omega))
  rw [decide_eq_false (by omega)] at HC
  obtain ⟨ao0, ao1, ao2, ao3, ao4, ao5, ao6, ao7, ao8⟩ := nine' HXx3.out
  go_upto_region 10 with (go_at_call 9; (with_reducible refine HC.mono ?_); rintro e U4 ⟨rfl, hb⟩; have HBS := hid (Chs.of_below (A := No) hb); clear hb HC)
  clear ao0 ao1 ao2 ao3 ao4 ao5 ao6 ao7 ao8
  have HXx4 : Hid (BxN U4 x N) := bxc HBS.out HXx3.out (fun h => h)
  have HXy4 : Hid (BxN U4 y N2) := bxc HBS.out HXy3.out (fun h => h)
  have HTx4 : Hid (TI U4 x N t) := tic HBS.out HTx3.out (by omega) (fun _ h => h.elim)
  have HTy4 : Hid (TI U4 x N2 u) := tic HBS.out HTy3.out (by omega) (fun _ h => h.elim)
  have HB4 : Hid (Below x w U4) := blc HBS.out HB3.out (by omega) (fun b h => by exact h.elim)
  have hsz4 : y < U4.heap.size := Nat.lt_of_lt_of_le hsz3 HBS.out.size
  clear HB3 hsz3 HBS HXx3 HXy3 HTx3 HTy3
  have HC := rmirror11 (HTx4.out.le (by omega))
  obtain ⟨ao0, ao1, ao2, ao3, ao4, ao5, ao6, ao7, ao8⟩ := nine' HXx4.out
  go_upto_region 11 with (go_at_call 11; (with_reducible refine HC.mono ?_); rintro e Ww ⟨Mw, rfl, hM, hb⟩; have HMM := hid hM; have HBW := hid hb; clear hM hb HC)
  clear ao0 ao1 ao2 ao3 ao4 ao5 ao6 ao7 ao8
  obtain ⟨U5, hU⟩ : ∃ U, U = Ww.alloc (.cells #[.int .i64 Mw.k, .slice Mw.r1 Mw.r2 Mw.r3, .int .i64 Mw.a2, .slice Mw.s1 Mw.s2 Mw.s3, .int .i64 Mw.a4, .int .i64 Mw.a5, .bool Mw.a6, .int .i64 Mw.a7, .string Mw.a8] 25) := ⟨_, rfl⟩
  rw [← hU]
  have HBS : Hid (Chs No U4 U5) := by rw [hU]; exact Chs.of_below (HBW.out.alloc HBW.out.size _)
  have HXw5 : Hid (BxN U5 Ww.heap.size Mw) := by rw [hU]; exact heap_alloc_new Ww _
  have HTw5 : Hid (TI U5 Ww.heap.size Mw t.mirx) := by rw [hU]; exact HMM.out.kept (fun b hb => heap_alloc_old _ _ hb)
  have hlow : y < Ww.heap.size := Nat.lt_of_lt_of_le hsz4 HBW.out.size
  have hltw : Ww.heap.size < U5.heap.size := lt_of_block HXw5.out
  clear hU HMM HBW
  obtain ⟨zw, hz⟩ : ∃ z, z = Ww.heap.size := ⟨_, rfl⟩
  rw [← hz] at HXw5 hlow hltw HTw5 ⊢
  clear hz
  have HXx5 : Hid (BxN U5 x N) := bxc HBS.out HXx4.out (fun h => h)
  have HXy5 : Hid (BxN U5 y N2) := bxc HBS.out HXy4.out (fun h => h)
  have HTx5 : Hid (TI U5 x N t) := tic HBS.out HTx4.out (by omega) (fun _ h => h.elim)
  have HTy5 : Hid (TI U5 x N2 u) := tic HBS.out HTy4.out (by omega) (fun _ h => h.elim)
  have HB5 : Hid (Below x w U5) := blc HBS.out HB4.out (by omega) (fun b h => by exact h.elim)
  have hsz5 : y < U5.heap.size := Nat.lt_of_lt_of_le hsz4 HBS.out.size
  clear HB4 hsz4 HBS HXx4 HXy4 HTx4 HTy4
  clear hsz5
  have hsz5 : zw < U5.heap.size := hltw
  clear hltw
  have HC := lent12 HTx5.out hd hsm U5 (by omega) (fun _ _ => rfl)
  obtain ⟨ao0, ao1, ao2, ao3, ao4, ao5, ao6, ao7, ao8⟩ := nine' HXx5.out
  go_upto_region 12 with (go_at_call 12; (with_reducible refine HC.mono ?_); rintro e Wi ⟨Mi, Ai, rfl, hM, hA, hb⟩; have HMM := hid hM; have HAA := hid hA; have HBW := hid hb; clear hM hb HC)
  clear ao0 ao1 ao2 ao3 ao4 ao5 ao6 ao7 ao8 hA
  obtain ⟨U6, hU⟩ : ∃ U, U = Wi.alloc (.cells #[.int .i64 Mi.k, .slice Mi.r1 Mi.r2 Mi.r3, .int .i64 Mi.a2, .slice Mi.s1 Mi.s2 Mi.s3, .int .i64 Mi.a4, .int .i64 Mi.a5, .bool Mi.a6, .int .i64 Mi.a7, .string Mi.a8] 25) := ⟨_, rfl⟩
  rw [← hU]
  have HBS : Hid (Chs No U5 U6) := by rw [hU]; exact Chs.of_below (HBW.out.alloc HBW.out.size _)
  have HXi6 : Hid (BxN U6 Wi.heap.size Mi) := by rw [hU]; exact heap_alloc_new Wi _
  have HTi6 : Hid (TL U6 Mi t Ai) := by rw [hU]; exact HMM.out.kept (fun b hb => heap_alloc_old _ _ (HMM.out.low b hb))
  have HAi : Hid (∀ b, Ai b → zw < b ∧ b < Wi.heap.size) := fun b hb => ⟨by have := HAA.out b hb; omega, HMM.out.low b hb⟩
  have hloi : zw < Wi.heap.size := Nat.lt_of_lt_of_le hsz5 HBW.out.size
  have hlti : Wi.heap.size < U6.heap.size := lt_of_block HXi6.out
  clear hU HMM HBW HAA
  obtain ⟨zi, hz⟩ : ∃ z, z = Wi.heap.size := ⟨_, rfl⟩
  rw [← hz] at HXi6 hloi hlti HAi ⊢
  clear hz
  have HXx6 : Hid (BxN U6 x N) := bxc HBS.out HXx5.out (fun h => h)
  have HXy6 : Hid (BxN U6 y N2) := bxc HBS.out HXy5.out (fun h => h)
  have HTx6 : Hid (TI U6 x N t) := tic HBS.out HTx5.out (by omega) (fun _ h => h.elim)
  have HTy6 : Hid (TI U6 x N2 u) := tic HBS.out HTy5.out (by omega) (fun _ h => h.elim)
  have HXw6 : Hid (BxN U6 zw Mw) := bxc HBS.out HXw5.out (fun h => h)
  have HTw6 : Hid (TI U6 zw Mw t.mirx) := tic HBS.out HTw5.out (by omega) (fun _ h => h.elim)
  have HB6 : Hid (Below x w U6) := blc HBS.out HB5.out (by omega) (fun b h => by exact h.elim)
  have hsz6 : zw < U6.heap.size := Nat.lt_of_lt_of_le hsz5 HBS.out.size
  clear HB5 hsz5 HBS HXx5 HXy5 HTx5 HTy5 HXw5 HTw5
  clear hsz6
  have hsz6 : zi < U6.heap.size := hlti
  clear hlti
  have HC := mirror10 (HTi6.out).ti
  obtain ⟨ao0, ao1, ao2, ao3, ao4, ao5, ao6, ao7, ao8⟩ := nine' HXi6.out
  go_upto_region 13 with (go_at_call 10; (with_reducible refine HC.mono ?_); rintro e Wa ⟨Ma, Aa, rfl, hM, hA, hb⟩; have HMM := hid hM; have HAA := hid hA; have HBW := hid hb; clear hM hb HC)
  clear ao0 ao1 ao2 ao3 ao4 ao5 ao6 ao7 ao8 hA
  obtain ⟨U7, hU⟩ : ∃ U, U = Wa.alloc (.cells #[.int .i64 Ma.k, .slice Ma.r1 Ma.r2 Ma.r3, .int .i64 Ma.a2, .slice Ma.s1 Ma.s2 Ma.s3, .int .i64 Ma.a4, .int .i64 Ma.a5, .bool Ma.a6, .int .i64 Ma.a7, .string Ma.a8] 25) := ⟨_, rfl⟩
  rw [← hU]
  have HBS : Hid (Chs No U6 U7) := by rw [hU]; exact Chs.of_below (HBW.out.alloc HBW.out.size _)
  have HXa7 : Hid (BxN U7 Wa.heap.size Ma) := by rw [hU]; exact heap_alloc_new Wa _
  have HTa7 : Hid (TO U7 Ma t.mirx Aa) := by rw [hU]; exact HMM.out.kept (fun b hb => heap_alloc_old _ _ (HMM.out.low b hb))
  have HAa : Hid (∀ b, Aa b → zi < b ∧ b < Wa.heap.size) := fun b hb => ⟨by have := HAA.out b hb; omega, HMM.out.low b hb⟩
  have hloa : zi < Wa.heap.size := Nat.lt_of_lt_of_le hsz6 HBW.out.size
  have hlta : Wa.heap.size < U7.heap.size := lt_of_block HXa7.out
  clear hU HMM HBW HAA
  obtain ⟨za, hz⟩ : ∃ z, z = Wa.heap.size := ⟨_, rfl⟩
  rw [← hz] at HXa7 hloa hlta HAa ⊢
  clear hz
  have HXx7 : Hid (BxN U7 x N) := bxc HBS.out HXx6.out (fun h => h)
  have HXy7 : Hid (BxN U7 y N2) := bxc HBS.out HXy6.out (fun h => h)
  have HTx7 : Hid (TI U7 x N t) := tic HBS.out HTx6.out (by omega) (fun _ h => h.elim)
  have HTy7 : Hid (TI U7 x N2 u) := tic HBS.out HTy6.out (by omega) (fun _ h => h.elim)
  have HXw7 : Hid (BxN U7 zw Mw) := bxc HBS.out HXw6.out (fun h => h)
  have HTw7 : Hid (TI U7 zw Mw t.mirx) := tic HBS.out HTw6.out (by omega) (fun _ h => h.elim)
  have HXi7 : Hid (BxN U7 zi Mi) := bxc HBS.out HXi6.out (fun h => h)
  have HTi7 : Hid (TL U7 Mi t Ai) := tlc HBS.out HTi6.out (fun _ _ h => h)
  have HB7 : Hid (Below x w U7) := blc HBS.out HB6.out (by omega) (fun b h => by exact h.elim)
  have hsz7 : zi < U7.heap.size := Nat.lt_of_lt_of_le hsz6 HBS.out.size
  clear HB6 hsz6 HBS HXx6 HXy6 HTx6 HTy6 HXw6 HTw6 HXi6 HTi6
  clear hsz7
  have hsz7 : za < U7.heap.size := hlta
  clear hlta
  have HC := great14 (HTy7.out.le (by omega))
  rw [decide_eq_true (by omega)] at HC
  obtain ⟨ao0, ao1, ao2, ao3, ao4, ao5, ao6, ao7, ao8⟩ := nine' HXy7.out
  go_upto_region 20 with (go_at_call 9; (with_reducible refine HC.mono ?_); rintro e U8 ⟨rfl, hb⟩; have HBS := hid (Chs.of_below (A := No) hb); clear hb HC)
  clear ao0 ao1 ao2 ao3 ao4 ao5 ao6 ao7 ao8
  have HXx8 : Hid (BxN U8 x N) := bxc HBS.out HXx7.out (fun h => h)
  have HXy8 : Hid (BxN U8 y N2) := bxc HBS.out HXy7.out (fun h => h)
  have HTx8 : Hid (TI U8 x N t) := tic HBS.out HTx7.out (by omega) (fun _ h => h.elim)
  have HTy8 : Hid (TI U8 x N2 u) := tic HBS.out HTy7.out (by omega) (fun _ h => h.elim)
  have HXw8 : Hid (BxN U8 zw Mw) := bxc HBS.out HXw7.out (fun h => h)
  have HTw8 : Hid (TI U8 zw Mw t.mirx) := tic HBS.out HTw7.out (by omega) (fun _ h => h.elim)
  have HXi8 : Hid (BxN U8 zi Mi) := bxc HBS.out HXi7.out (fun h => h)
  have HTi8 : Hid (TL U8 Mi t Ai) := tlc HBS.out HTi7.out (fun _ _ h => h)
  have HXa8 : Hid (BxN U8 za Ma) := bxc HBS.out HXa7.out (fun h => h)
  have HTa8 : Hid (TO U8 Ma t.mirx Aa) := toc HBS.out HTa7.out (fun _ _ h => h)
  have HB8 : Hid (Below x w U8) := blc HBS.out HB7.out (by omega) (fun b h => by exact h.elim)
  have hsz8 : za < U8.heap.size := Nat.lt_of_lt_of_le hsz7 HBS.out.size
  clear HB7 hsz7 HBS HXx7 HXy7 HTx7 HTy7 HXw7 HTw7 HXi7 HTi7 HXa7 HTa7
  have HC := mirror10 (HTi8.out).ti
  obtain ⟨ao0, ao1, ao2, ao3, ao4, ao5, ao6, ao7, ao8⟩ := nine' HXi8.out
  go_upto_region 21 with (go_at_call 10; (with_reducible refine HC.mono ?_); rintro e Wc ⟨Mc, Ac, rfl, hM, hA, hb⟩; have HMM := hid hM; have HAA := hid hA; have HBW := hid hb; clear hM hb HC)
  clear ao0 ao1 ao2 ao3 ao4 ao5 ao6 ao7 ao8 hA
  obtain ⟨U9, hU⟩ : ∃ U, U = Wc.alloc (.cells #[.int .i64 Mc.k, .slice Mc.r1 Mc.r2 Mc.r3, .int .i64 Mc.a2, .slice Mc.s1 Mc.s2 Mc.s3, .int .i64 Mc.a4, .int .i64 Mc.a5, .bool Mc.a6, .int .i64 Mc.a7, .string Mc.a8] 25) := ⟨_, rfl⟩
  rw [← hU]
  have HBS : Hid (Chs No U8 U9) := by rw [hU]; exact Chs.of_below (HBW.out.alloc HBW.out.size _)
  have HXc9 : Hid (BxN U9 Wc.heap.size Mc) := by rw [hU]; exact heap_alloc_new Wc _
  have HTc9 : Hid (TO U9 Mc t.mirx Ac) := by rw [hU]; exact HMM.out.kept (fun b hb => heap_alloc_old _ _ (HMM.out.low b hb))
  have HAc : Hid (∀ b, Ac b → za < b ∧ b < Wc.heap.size) := fun b hb => ⟨by have := HAA.out b hb; omega, HMM.out.low b hb⟩
  have hloc : za < Wc.heap.size := Nat.lt_of_lt_of_le hsz8 HBW.out.size
  have hltc : Wc.heap.size < U9.heap.size := lt_of_block HXc9.out
  clear hU HMM HBW HAA
  obtain ⟨zc, hz⟩ : ∃ z, z = Wc.heap.size := ⟨_, rfl⟩
  rw [← hz] at HXc9 hloc hltc HAc ⊢
  clear hz
  have HXx9 : Hid (BxN U9 x N) := bxc HBS.out HXx8.out (fun h => h)
  have HXy9 : Hid (BxN U9 y N2) := bxc HBS.out HXy8.out (fun h => h)
  have HTx9 : Hid (TI U9 x N t) := tic HBS.out HTx8.out (by omega) (fun _ h => h.elim)
  have HTy9 : Hid (TI U9 x N2 u) := tic HBS.out HTy8.out (by omega) (fun _ h => h.elim)
  have HXw9 : Hid (BxN U9 zw Mw) := bxc HBS.out HXw8.out (fun h => h)
  have HTw9 : Hid (TI U9 zw Mw t.mirx) := tic HBS.out HTw8.out (by omega) (fun _ h => h.elim)
  have HXi9 : Hid (BxN U9 zi Mi) := bxc HBS.out HXi8.out (fun h => h)
  have HTi9 : Hid (TL U9 Mi t Ai) := tlc HBS.out HTi8.out (fun _ _ h => h)
  have HXa9 : Hid (BxN U9 za Ma) := bxc HBS.out HXa8.out (fun h => h)
  have HTa9 : Hid (TO U9 Ma t.mirx Aa) := toc HBS.out HTa8.out (fun _ _ h => h)
  have HB9 : Hid (Below x w U9) := blc HBS.out HB8.out (by omega) (fun b h => by exact h.elim)
  have hsz9 : za < U9.heap.size := Nat.lt_of_lt_of_le hsz8 HBS.out.size
  clear HB8 hsz8 HBS HXx8 HXy8 HTx8 HTy8 HXw8 HTw8 HXi8 HTi8 HXa8 HTa8
  clear hsz9
  have hsz9 : zc < U9.heap.size := hltc
  clear hltc
  have HC := same13 (HTa9.out).ti (HTw9.out.le (by omega))
  obtain ⟨ao0, ao1, ao2, ao3, ao4, ao5, ao6, ao7, ao8⟩ := nine' HXa9.out
  obtain ⟨bo0, bo1, bo2, bo3, bo4, bo5, bo6, bo7, bo8⟩ := nine' HXw9.out
  go_upto_region 22 with (go_at_call 13; (with_reducible refine HC.mono ?_); rintro e U10 ⟨rfl, hb⟩; have HBS := hid (Chs.of_below (A := No) hb); clear hb HC)
  clear ao0 ao1 ao2 ao3 ao4 ao5 ao6 ao7 ao8 bo0 bo1 bo2 bo3 bo4 bo5 bo6 bo7 bo8
  have HXx10 : Hid (BxN U10 x N) := bxc HBS.out HXx9.out (fun h => h)
  have HXy10 : Hid (BxN U10 y N2) := bxc HBS.out HXy9.out (fun h => h)
  have HTx10 : Hid (TI U10 x N t) := tic HBS.out HTx9.out (by omega) (fun _ h => h.elim)
  have HTy10 : Hid (TI U10 x N2 u) := tic HBS.out HTy9.out (by omega) (fun _ h => h.elim)
  have HXw10 : Hid (BxN U10 zw Mw) := bxc HBS.out HXw9.out (fun h => h)
  have HTw10 : Hid (TI U10 zw Mw t.mirx) := tic HBS.out HTw9.out (by omega) (fun _ h => h.elim)
  have HXi10 : Hid (BxN U10 zi Mi) := bxc HBS.out HXi9.out (fun h => h)
  have HTi10 : Hid (TL U10 Mi t Ai) := tlc HBS.out HTi9.out (fun _ _ h => h)
  have HXa10 : Hid (BxN U10 za Ma) := bxc HBS.out HXa9.out (fun h => h)
  have HTa10 : Hid (TO U10 Ma t.mirx Aa) := toc HBS.out HTa9.out (fun _ _ h => h)
  have HXc10 : Hid (BxN U10 zc Mc) := bxc HBS.out HXc9.out (fun h => h)
  have HTc10 : Hid (TO U10 Mc t.mirx Ac) := toc HBS.out HTc9.out (fun _ _ h => h)
  have HB10 : Hid (Below x w U10) := blc HBS.out HB9.out (by omega) (fun b h => by exact h.elim)
  have hsz10 : zc < U10.heap.size := Nat.lt_of_lt_of_le hsz9 HBS.out.size
  clear HB9 hsz9 HBS HXx9 HXy9 HTx9 HTy9 HXw9 HTw9 HXi9 HTi9 HXa9 HTa9 HXc9 HTc9
  have HC := same13 (HTc10.out).ti (HTw10.out.le (by omega))
  obtain ⟨ao0, ao1, ao2, ao3, ao4, ao5, ao6, ao7, ao8⟩ := nine' HXc10.out
  obtain ⟨bo0, bo1, bo2, bo3, bo4, bo5, bo6, bo7, bo8⟩ := nine' HXw10.out
  go_upto_region 23 with (go_at_call 13; (with_reducible refine HC.mono ?_); rintro e U11 ⟨rfl, hb⟩; have HBS := hid (Chs.of_below (A := No) hb); clear hb HC)
  clear ao0 ao1 ao2 ao3 ao4 ao5 ao6 ao7 ao8 bo0 bo1 bo2 bo3 bo4 bo5 bo6 bo7 bo8
  have HXx11 : Hid (BxN U11 x N) := bxc HBS.out HXx10.out (fun h => h)
  have HXy11 : Hid (BxN U11 y N2) := bxc HBS.out HXy10.out (fun h => h)
  have HTx11 : Hid (TI U11 x N t) := tic HBS.out HTx10.out (by omega) (fun _ h => h.elim)
  have HTy11 : Hid (TI U11 x N2 u) := tic HBS.out HTy10.out (by omega) (fun _ h => h.elim)
  have HXw11 : Hid (BxN U11 zw Mw) := bxc HBS.out HXw10.out (fun h => h)
  have HTw11 : Hid (TI U11 zw Mw t.mirx) := tic HBS.out HTw10.out (by omega) (fun _ h => h.elim)
  have HXi11 : Hid (BxN U11 zi Mi) := bxc HBS.out HXi10.out (fun h => h)
  have HTi11 : Hid (TL U11 Mi t Ai) := tlc HBS.out HTi10.out (fun _ _ h => h)
  have HXa11 : Hid (BxN U11 za Ma) := bxc HBS.out HXa10.out (fun h => h)
  have HTa11 : Hid (TO U11 Ma t.mirx Aa) := toc HBS.out HTa10.out (fun _ _ h => h)
  have HXc11 : Hid (BxN U11 zc Mc) := bxc HBS.out HXc10.out (fun h => h)
  have HTc11 : Hid (TO U11 Mc t.mirx Ac) := toc HBS.out HTc10.out (fun _ _ h => h)
  have HB11 : Hid (Below x w U11) := blc HBS.out HB10.out (by omega) (fun b h => by exact h.elim)
  have hsz11 : zc < U11.heap.size := Nat.lt_of_lt_of_le hsz10 HBS.out.size
  clear HB10 hsz10 HBS HXx10 HXy10 HTx10 HTy10 HXw10 HTw10 HXi10 HTi10 HXa10 HTa10 HXc10 HTc10
  have HC := same13 (HTi11.out).ti (HTx11.out.le (by omega))
  obtain ⟨ao0, ao1, ao2, ao3, ao4, ao5, ao6, ao7, ao8⟩ := nine' HXi11.out
  obtain ⟨bo0, bo1, bo2, bo3, bo4, bo5, bo6, bo7, bo8⟩ := nine' HXx11.out
  go_upto_region 24 with (go_at_call 13; (with_reducible refine HC.mono ?_); rintro e U12 ⟨rfl, hb⟩; have HBS := hid (Chs.of_below (A := No) hb); clear hb HC)
  clear ao0 ao1 ao2 ao3 ao4 ao5 ao6 ao7 ao8 bo0 bo1 bo2 bo3 bo4 bo5 bo6 bo7 bo8
  have HXx12 : Hid (BxN U12 x N) := bxc HBS.out HXx11.out (fun h => h)
  have HXy12 : Hid (BxN U12 y N2) := bxc HBS.out HXy11.out (fun h => h)
  have HTx12 : Hid (TI U12 x N t) := tic HBS.out HTx11.out (by omega) (fun _ h => h.elim)
  have HTy12 : Hid (TI U12 x N2 u) := tic HBS.out HTy11.out (by omega) (fun _ h => h.elim)
  have HXw12 : Hid (BxN U12 zw Mw) := bxc HBS.out HXw11.out (fun h => h)
  have HTw12 : Hid (TI U12 zw Mw t.mirx) := tic HBS.out HTw11.out (by omega) (fun _ h => h.elim)
  have HXi12 : Hid (BxN U12 zi Mi) := bxc HBS.out HXi11.out (fun h => h)
  have HTi12 : Hid (TL U12 Mi t Ai) := tlc HBS.out HTi11.out (fun _ _ h => h)
  have HXa12 : Hid (BxN U12 za Ma) := bxc HBS.out HXa11.out (fun h => h)
  have HTa12 : Hid (TO U12 Ma t.mirx Aa) := toc HBS.out HTa11.out (fun _ _ h => h)
  have HXc12 : Hid (BxN U12 zc Mc) := bxc HBS.out HXc11.out (fun h => h)
  have HTc12 : Hid (TO U12 Mc t.mirx Ac) := toc HBS.out HTc11.out (fun _ _ h => h)
  have HB12 : Hid (Below x w U12) := blc HBS.out HB11.out (by omega) (fun b h => by exact h.elim)
  have hsz12 : zc < U12.heap.size := Nat.lt_of_lt_of_le hsz11 HBS.out.size
  clear HB11 hsz11 HBS HXx11 HXy11 HTx11 HTy11 HXw11 HTw11 HXi11 HTi11 HXa11 HTa11 HXc11 HTc11
  have HC := kept14 HTi12.out U12 (fun _ _ => rfl)
  obtain ⟨ao0, ao1, ao2, ao3, ao4, ao5, ao6, ao7, ao8⟩ := nine' HXi12.out
  go_upto_region 27 with (go_at_call 14; (with_reducible refine HC.mono ?_); rintro e U13 ⟨rfl, hb⟩; have HBS := hid (Chs.of_below (A := No) hb); clear hb HC)
  clear ao0 ao1 ao2 ao3 ao4 ao5 ao6 ao7 ao8
  have HXx13 : Hid (BxN U13 x N) := bxc HBS.out HXx12.out (fun h => h)
  have HXy13 : Hid (BxN U13 y N2) := bxc HBS.out HXy12.out (fun h => h)
  have HTx13 : Hid (TI U13 x N t) := tic HBS.out HTx12.out (by omega) (fun _ h => h.elim)
  have HTy13 : Hid (TI U13 x N2 u) := tic HBS.out HTy12.out (by omega) (fun _ h => h.elim)
  have HXw13 : Hid (BxN U13 zw Mw) := bxc HBS.out HXw12.out (fun h => h)
  have HTw13 : Hid (TI U13 zw Mw t.mirx) := tic HBS.out HTw12.out (by omega) (fun _ h => h.elim)
  have HXi13 : Hid (BxN U13 zi Mi) := bxc HBS.out HXi12.out (fun h => h)
  have HTi13 : Hid (TL U13 Mi t Ai) := tlc HBS.out HTi12.out (fun _ _ h => h)
  have HXa13 : Hid (BxN U13 za Ma) := bxc HBS.out HXa12.out (fun h => h)
  have HTa13 : Hid (TO U13 Ma t.mirx Aa) := toc HBS.out HTa12.out (fun _ _ h => h)
  have HXc13 : Hid (BxN U13 zc Mc) := bxc HBS.out HXc12.out (fun h => h)
  have HTc13 : Hid (TO U13 Mc t.mirx Ac) := toc HBS.out HTc12.out (fun _ _ h => h)
  have HB13 : Hid (Below x w U13) := blc HBS.out HB12.out (by omega) (fun b h => by exact h.elim)
  have hsz13 : zc < U13.heap.size := Nat.lt_of_lt_of_le hsz12 HBS.out.size
  clear HB12 hsz12 HBS HXx12 HXy12 HTx12 HTy12 HXw12 HTw12 HXi12 HTi12 HXa12 HTa12 HXc12 HTc12
  have HC := turned15 HTi13.out hd hsm U13 (fun _ _ => rfl)
  obtain ⟨ao0, ao1, ao2, ao3, ao4, ao5, ao6, ao7, ao8⟩ := nine' HXi13.out
  go_upto_region 28 with (go_at_call 15; (with_reducible refine HC.mono ?_); rintro e U14 ⟨rfl, ⟨t', hM, hno', hsm'⟩, hb⟩; have HMM := hid hM; have HBS := hid hb; clear hM hb HC)
  clear ao0 ao1 ao2 ao3 ao4 ao5 ao6 ao7 ao8
  have HXw14 : Hid (BxN U14 zw Mw) := bxc HBS.out HXw13.out (fun h => by have g := HAi.out _ h; omega)
  have HTw14 : Hid (TI U14 zw Mw t.mirx) := tic HBS.out HTw13.out (by omega) (fun b h => by have g := HAi.out _ h; omega)
  have HXi14 : Hid (BxN U14 zi Mi) := bxc HBS.out HXi13.out (fun h => by have g := HAi.out _ h; omega)
  have HXa14 : Hid (BxN U14 za Ma) := bxc HBS.out HXa13.out (fun h => by have g := HAi.out _ h; omega)
  have HTa14 : Hid (TO U14 Ma t.mirx Aa) := toc HBS.out HTa13.out (fun b h0 h => by have g0 := HAa.out b h0; have g := HAi.out _ h; omega)
  have HXc14 : Hid (BxN U14 zc Mc) := bxc HBS.out HXc13.out (fun h => by have g := HAi.out _ h; omega)
  have HTc14 : Hid (TO U14 Mc t.mirx Ac) := toc HBS.out HTc13.out (fun b h0 h => by have g0 := HAc.out b h0; have g := HAi.out _ h; omega)
  have HB14 : Hid (Below x w U14) := blc HBS.out HB13.out (by omega) (fun b h => by have g := HAi.out _ h; omega)
  have hsz14 : zc < U14.heap.size := Nat.lt_of_lt_of_le hsz13 HBS.out.size
  clear HB13 hsz13 HBS HXx13 HXy13 HTx13 HTy13 HXw13 HTw13 HXi13 HTi13 HXa13 HTa13 HXc13 HTc13
  have HTi14 : Hid (TL U14 Mi t' Ai) := HMM.out
  clear HMM
  have hd' : t'.nodes ≤ 200000 := by omega
  have HC := copy16 (HTi14.out).ti hd' hsm' U14 (Nat.le_refl _) (fun _ _ => rfl)
  obtain ⟨ao0, ao1, ao2, ao3, ao4, ao5, ao6, ao7, ao8⟩ := nine' HXi14.out
  go_upto_region 29 with (go_at_call 16; (with_reducible refine HC.mono ?_); rintro e Wt ⟨Mt, rfl, hM, hb⟩; have HMM := hid hM; have HBW := hid hb; clear hM hb HC)
  clear ao0 ao1 ao2 ao3 ao4 ao5 ao6 ao7 ao8
  obtain ⟨U15, hU⟩ : ∃ U, U = Wt.alloc (.cells #[.int .i64 Mt.k, .slice Mt.r1 Mt.r2 Mt.r3, .int .i64 Mt.a2, .slice Mt.s1 Mt.s2 Mt.s3, .int .i64 Mt.a4, .int .i64 Mt.a5, .bool Mt.a6, .int .i64 Mt.a7, .string Mt.a8] 25) := ⟨_, rfl⟩
  rw [← hU]
  have HBS : Hid (Chs No U14 U15) := by rw [hU]; exact Chs.of_below (HBW.out.alloc HBW.out.size _)
  have HXt15 : Hid (BxN U15 Wt.heap.size Mt) := by rw [hU]; exact heap_alloc_new Wt _
  have HTt15 : Hid (TP U15 (fun b => zc < b ∧ b < Wt.heap.size) Mt t') := by rw [hU]; exact HMM.out.kept (fun b hb => heap_alloc_old _ _ hb.2) (fun b hb => ⟨by omega, hb.2⟩)
  have hlot : zc < Wt.heap.size := Nat.lt_of_lt_of_le hsz14 HBW.out.size
  have hltt : Wt.heap.size < U15.heap.size := lt_of_block HXt15.out
  clear hU HMM HBW
  obtain ⟨zt, hz⟩ : ∃ z, z = Wt.heap.size := ⟨_, rfl⟩
  rw [← hz] at HXt15 hlot hltt HTt15 ⊢
  clear hz
  have HXw15 : Hid (BxN U15 zw Mw) := bxc HBS.out HXw14.out (fun h => h)
  have HTw15 : Hid (TI U15 zw Mw t.mirx) := tic HBS.out HTw14.out (by omega) (fun _ h => h.elim)
  have HXi15 : Hid (BxN U15 zi Mi) := bxc HBS.out HXi14.out (fun h => h)
  have HXa15 : Hid (BxN U15 za Ma) := bxc HBS.out HXa14.out (fun h => h)
  have HTa15 : Hid (TO U15 Ma t.mirx Aa) := toc HBS.out HTa14.out (fun _ _ h => h)
  have HXc15 : Hid (BxN U15 zc Mc) := bxc HBS.out HXc14.out (fun h => h)
  have HTc15 : Hid (TO U15 Mc t.mirx Ac) := toc HBS.out HTc14.out (fun _ _ h => h)
  have HTi15 : Hid (TL U15 Mi t' Ai) := tlc HBS.out HTi14.out (fun _ _ h => h)
  have HB15 : Hid (Below x w U15) := blc HBS.out HB14.out (by omega) (fun b h => by exact h.elim)
  have hsz15 : zc < U15.heap.size := Nat.lt_of_lt_of_le hsz14 HBS.out.size
  clear HB14 hsz14 HBS HXw14 HTw14 HXi14 HXa14 HTa14 HXc14 HTc14 HTi14
  clear hsz15
  have hsz15 : zt < U15.heap.size := hltt
  clear hltt
  have HC := rmirror11 (HTt15.out.ti (fun b hb => by omega))
  obtain ⟨ao0, ao1, ao2, ao3, ao4, ao5, ao6, ao7, ao8⟩ := nine' HXt15.out
  go_upto_region 30 with (go_at_call 11; (with_reducible refine HC.mono ?_); rintro e Wn ⟨Mn, rfl, hM, hb⟩; have HMM := hid hM; have HBW := hid hb; clear hM hb HC)
  clear ao0 ao1 ao2 ao3 ao4 ao5 ao6 ao7 ao8
  obtain ⟨U16, hU⟩ : ∃ U, U = Wn.alloc (.cells #[.int .i64 Mn.k, .slice Mn.r1 Mn.r2 Mn.r3, .int .i64 Mn.a2, .slice Mn.s1 Mn.s2 Mn.s3, .int .i64 Mn.a4, .int .i64 Mn.a5, .bool Mn.a6, .int .i64 Mn.a7, .string Mn.a8] 25) := ⟨_, rfl⟩
  rw [← hU]
  have HBS : Hid (Chs No U15 U16) := by rw [hU]; exact Chs.of_below (HBW.out.alloc HBW.out.size _)
  have HXn16 : Hid (BxN U16 Wn.heap.size Mn) := by rw [hU]; exact heap_alloc_new Wn _
  have HTn16 : Hid (TI U16 Wn.heap.size Mn t'.mirx) := by rw [hU]; exact HMM.out.kept (fun b hb => heap_alloc_old _ _ hb)
  have hlon : zt < Wn.heap.size := Nat.lt_of_lt_of_le hsz15 HBW.out.size
  have hltn : Wn.heap.size < U16.heap.size := lt_of_block HXn16.out
  clear hU HMM HBW
  obtain ⟨zn, hz⟩ : ∃ z, z = Wn.heap.size := ⟨_, rfl⟩
  rw [← hz] at HXn16 hlon hltn HTn16 ⊢
  clear hz
  have HXw16 : Hid (BxN U16 zw Mw) := bxc HBS.out HXw15.out (fun h => h)
  have HTw16 : Hid (TI U16 zw Mw t.mirx) := tic HBS.out HTw15.out (by omega) (fun _ h => h.elim)
  have HXi16 : Hid (BxN U16 zi Mi) := bxc HBS.out HXi15.out (fun h => h)
  have HXa16 : Hid (BxN U16 za Ma) := bxc HBS.out HXa15.out (fun h => h)
  have HTa16 : Hid (TO U16 Ma t.mirx Aa) := toc HBS.out HTa15.out (fun _ _ h => h)
  have HXc16 : Hid (BxN U16 zc Mc) := bxc HBS.out HXc15.out (fun h => h)
  have HTc16 : Hid (TO U16 Mc t.mirx Ac) := toc HBS.out HTc15.out (fun _ _ h => h)
  have HTi16 : Hid (TL U16 Mi t' Ai) := tlc HBS.out HTi15.out (fun _ _ h => h)
  have HXt16 : Hid (BxN U16 zt Mt) := bxc HBS.out HXt15.out (fun h => h)
  have HTt16 : Hid (TP U16 (fun b => zc < b ∧ b < zt) Mt t') := tpc HBS.out HTt15.out (fun b h => by omega) (fun _ _ h => h)
  have HB16 : Hid (Below x w U16) := blc HBS.out HB15.out (by omega) (fun b h => by exact h.elim)
  have hsz16 : zt < U16.heap.size := Nat.lt_of_lt_of_le hsz15 HBS.out.size
  clear HB15 hsz15 HBS HXw15 HTw15 HXi15 HXa15 HTa15 HXc15 HTc15 HTi15 HXt15 HTt15
  clear hsz16
  have hsz16 : zn < U16.heap.size := hltn
  clear hltn
  have HC := mirror10 (HTi16.out).ti
  obtain ⟨ao0, ao1, ao2, ao3, ao4, ao5, ao6, ao7, ao8⟩ := nine' HXi16.out
  go_upto_region 31 with (go_at_call 10; (with_reducible refine HC.mono ?_); rintro e Wd ⟨Md, Ad, rfl, hM, hA, hb⟩; have HMM := hid hM; have HAA := hid hA; have HBW := hid hb; clear hM hb HC)
  clear ao0 ao1 ao2 ao3 ao4 ao5 ao6 ao7 ao8 hA
  obtain ⟨U17, hU⟩ : ∃ U, U = Wd.alloc (.cells #[.int .i64 Md.k, .slice Md.r1 Md.r2 Md.r3, .int .i64 Md.a2, .slice Md.s1 Md.s2 Md.s3, .int .i64 Md.a4, .int .i64 Md.a5, .bool Md.a6, .int .i64 Md.a7, .string Md.a8] 25) := ⟨_, rfl⟩
  rw [← hU]
  have HBS : Hid (Chs No U16 U17) := by rw [hU]; exact Chs.of_below (HBW.out.alloc HBW.out.size _)
  have HXd17 : Hid (BxN U17 Wd.heap.size Md) := by rw [hU]; exact heap_alloc_new Wd _
  have HTd17 : Hid (TO U17 Md t'.mirx Ad) := by rw [hU]; exact HMM.out.kept (fun b hb => heap_alloc_old _ _ (HMM.out.low b hb))
  have HAd : Hid (∀ b, Ad b → zn < b ∧ b < Wd.heap.size) := fun b hb => ⟨by have := HAA.out b hb; omega, HMM.out.low b hb⟩
  have hlod : zn < Wd.heap.size := Nat.lt_of_lt_of_le hsz16 HBW.out.size
  have hltd : Wd.heap.size < U17.heap.size := lt_of_block HXd17.out
  clear hU HMM HBW HAA
  obtain ⟨zd, hz⟩ : ∃ z, z = Wd.heap.size := ⟨_, rfl⟩
  rw [← hz] at HXd17 hlod hltd HAd ⊢
  clear hz
  have HXw17 : Hid (BxN U17 zw Mw) := bxc HBS.out HXw16.out (fun h => h)
  have HTw17 : Hid (TI U17 zw Mw t.mirx) := tic HBS.out HTw16.out (by omega) (fun _ h => h.elim)
  have HXi17 : Hid (BxN U17 zi Mi) := bxc HBS.out HXi16.out (fun h => h)
  have HXa17 : Hid (BxN U17 za Ma) := bxc HBS.out HXa16.out (fun h => h)
  have HTa17 : Hid (TO U17 Ma t.mirx Aa) := toc HBS.out HTa16.out (fun _ _ h => h)
  have HXc17 : Hid (BxN U17 zc Mc) := bxc HBS.out HXc16.out (fun h => h)
  have HTc17 : Hid (TO U17 Mc t.mirx Ac) := toc HBS.out HTc16.out (fun _ _ h => h)
  have HTi17 : Hid (TL U17 Mi t' Ai) := tlc HBS.out HTi16.out (fun _ _ h => h)
  have HXt17 : Hid (BxN U17 zt Mt) := bxc HBS.out HXt16.out (fun h => h)
  have HTt17 : Hid (TP U17 (fun b => zc < b ∧ b < zt) Mt t') := tpc HBS.out HTt16.out (fun b h => by omega) (fun _ _ h => h)
  have HXn17 : Hid (BxN U17 zn Mn) := bxc HBS.out HXn16.out (fun h => h)
  have HTn17 : Hid (TI U17 zn Mn t'.mirx) := tic HBS.out HTn16.out (by omega) (fun _ h => h.elim)
  have HB17 : Hid (Below x w U17) := blc HBS.out HB16.out (by omega) (fun b h => by exact h.elim)
  have hsz17 : zn < U17.heap.size := Nat.lt_of_lt_of_le hsz16 HBS.out.size
  clear HB16 hsz16 HBS HXw16 HTw16 HXi16 HXa16 HTa16 HXc16 HTc16 HTi16 HXt16 HTt16 HXn16 HTn16
  clear hsz17
  have hsz17 : zd < U17.heap.size := hltd
  clear hltd
  have HC := same13 (HTd17.out).ti (HTn17.out.le (by omega))
  obtain ⟨ao0, ao1, ao2, ao3, ao4, ao5, ao6, ao7, ao8⟩ := nine' HXd17.out
  obtain ⟨bo0, bo1, bo2, bo3, bo4, bo5, bo6, bo7, bo8⟩ := nine' HXn17.out
  go_upto_region 32 with (go_at_call 13; (with_reducible refine HC.mono ?_); rintro e U18 ⟨rfl, hb⟩; have HBS := hid (Chs.of_below (A := No) hb); clear hb HC)
  clear ao0 ao1 ao2 ao3 ao4 ao5 ao6 ao7 ao8 bo0 bo1 bo2 bo3 bo4 bo5 bo6 bo7 bo8
  have HXw18 : Hid (BxN U18 zw Mw) := bxc HBS.out HXw17.out (fun h => h)
  have HTw18 : Hid (TI U18 zw Mw t.mirx) := tic HBS.out HTw17.out (by omega) (fun _ h => h.elim)
  have HXi18 : Hid (BxN U18 zi Mi) := bxc HBS.out HXi17.out (fun h => h)
  have HXa18 : Hid (BxN U18 za Ma) := bxc HBS.out HXa17.out (fun h => h)
  have HTa18 : Hid (TO U18 Ma t.mirx Aa) := toc HBS.out HTa17.out (fun _ _ h => h)
  have HXc18 : Hid (BxN U18 zc Mc) := bxc HBS.out HXc17.out (fun h => h)
  have HTc18 : Hid (TO U18 Mc t.mirx Ac) := toc HBS.out HTc17.out (fun _ _ h => h)
  have HTi18 : Hid (TL U18 Mi t' Ai) := tlc HBS.out HTi17.out (fun _ _ h => h)
  have HXt18 : Hid (BxN U18 zt Mt) := bxc HBS.out HXt17.out (fun h => h)
  have HTt18 : Hid (TP U18 (fun b => zc < b ∧ b < zt) Mt t') := tpc HBS.out HTt17.out (fun b h => by omega) (fun _ _ h => h)
  have HXn18 : Hid (BxN U18 zn Mn) := bxc HBS.out HXn17.out (fun h => h)
  have HTn18 : Hid (TI U18 zn Mn t'.mirx) := tic HBS.out HTn17.out (by omega) (fun _ h => h.elim)
  have HXd18 : Hid (BxN U18 zd Md) := bxc HBS.out HXd17.out (fun h => h)
  have HTd18 : Hid (TO U18 Md t'.mirx Ad) := toc HBS.out HTd17.out (fun _ _ h => h)
  have HB18 : Hid (Below x w U18) := blc HBS.out HB17.out (by omega) (fun b h => by exact h.elim)
  have hsz18 : zd < U18.heap.size := Nat.lt_of_lt_of_le hsz17 HBS.out.size
  clear HB17 hsz17 HBS HXw17 HTw17 HXi17 HXa17 HTa17 HXc17 HTc17 HTi17 HXt17 HTt17 HXn17 HTn17 HXd17 HTd17
  have HC := same13 (HTa18.out).ti (HTw18.out.le (by omega))
  obtain ⟨ao0, ao1, ao2, ao3, ao4, ao5, ao6, ao7, ao8⟩ := nine' HXa18.out
  obtain ⟨bo0, bo1, bo2, bo3, bo4, bo5, bo6, bo7, bo8⟩ := nine' HXw18.out
  go_upto_region 35 with (go_at_call 13; (with_reducible refine HC.mono ?_); rintro e U19 ⟨rfl, hb⟩; have HBS := hid (Chs.of_below (A := No) hb); clear hb HC)
  clear ao0 ao1 ao2 ao3 ao4 ao5 ao6 ao7 ao8 bo0 bo1 bo2 bo3 bo4 bo5 bo6 bo7 bo8
  have HXw19 : Hid (BxN U19 zw Mw) := bxc HBS.out HXw18.out (fun h => h)
  have HTw19 : Hid (TI U19 zw Mw t.mirx) := tic HBS.out HTw18.out (by omega) (fun _ h => h.elim)
  have HXi19 : Hid (BxN U19 zi Mi) := bxc HBS.out HXi18.out (fun h => h)
  have HXa19 : Hid (BxN U19 za Ma) := bxc HBS.out HXa18.out (fun h => h)
  have HTa19 : Hid (TO U19 Ma t.mirx Aa) := toc HBS.out HTa18.out (fun _ _ h => h)
  have HXc19 : Hid (BxN U19 zc Mc) := bxc HBS.out HXc18.out (fun h => h)
  have HTc19 : Hid (TO U19 Mc t.mirx Ac) := toc HBS.out HTc18.out (fun _ _ h => h)
  have HTi19 : Hid (TL U19 Mi t' Ai) := tlc HBS.out HTi18.out (fun _ _ h => h)
  have HXt19 : Hid (BxN U19 zt Mt) := bxc HBS.out HXt18.out (fun h => h)
  have HTt19 : Hid (TP U19 (fun b => zc < b ∧ b < zt) Mt t') := tpc HBS.out HTt18.out (fun b h => by omega) (fun _ _ h => h)
  have HXn19 : Hid (BxN U19 zn Mn) := bxc HBS.out HXn18.out (fun h => h)
  have HTn19 : Hid (TI U19 zn Mn t'.mirx) := tic HBS.out HTn18.out (by omega) (fun _ h => h.elim)
  have HXd19 : Hid (BxN U19 zd Md) := bxc HBS.out HXd18.out (fun h => h)
  have HTd19 : Hid (TO U19 Md t'.mirx Ad) := toc HBS.out HTd18.out (fun _ _ h => h)
  have HB19 : Hid (Below x w U19) := blc HBS.out HB18.out (by omega) (fun b h => by exact h.elim)
  have hsz19 : zd < U19.heap.size := Nat.lt_of_lt_of_le hsz18 HBS.out.size
  clear HB18 hsz18 HBS HXw18 HTw18 HXi18 HXa18 HTa18 HXc18 HTc18 HTi18 HXt18 HTt18 HXn18 HTn18 HXd18 HTd18
  go_upto_region 36 with fail
  obtain ⟨U20, hU⟩ : ∃ U, U = U19.alloc (.cells #[.slice none 0 0, .slice none 0 0] 38) := ⟨_, rfl⟩
  rw [← hU]
  have HBS : Hid (Chs No U19 U20) := by rw [hU]; exact Chs.of_below (Joins.below_alloc1 _ _)
  have HL0 : Hid (U20.heap[U19.heap.size]? = some (.cells #[.slice none 0 0, .slice none 0 0] 38 (0, 0))) := by rw [hU]; exact heap_alloc_new _ _
  clear hU
  obtain ⟨zl, hz⟩ : ∃ z, z = U19.heap.size := ⟨_, rfl⟩
  rw [← hz] at HL0 ⊢
  have hlol : zd < zl := by omega
  clear hz
  have HXw20 : Hid (BxN U20 zw Mw) := bxc HBS.out HXw19.out (fun h => h)
  have HTw20 : Hid (TI U20 zw Mw t.mirx) := tic HBS.out HTw19.out (by omega) (fun _ h => h.elim)
  have HXi20 : Hid (BxN U20 zi Mi) := bxc HBS.out HXi19.out (fun h => h)
  have HXa20 : Hid (BxN U20 za Ma) := bxc HBS.out HXa19.out (fun h => h)
  have HTa20 : Hid (TO U20 Ma t.mirx Aa) := toc HBS.out HTa19.out (fun _ _ h => h)
  have HXc20 : Hid (BxN U20 zc Mc) := bxc HBS.out HXc19.out (fun h => h)
  have HTc20 : Hid (TO U20 Mc t.mirx Ac) := toc HBS.out HTc19.out (fun _ _ h => h)
  have HTi20 : Hid (TL U20 Mi t' Ai) := tlc HBS.out HTi19.out (fun _ _ h => h)
  have HXt20 : Hid (BxN U20 zt Mt) := bxc HBS.out HXt19.out (fun h => h)
  have HTt20 : Hid (TP U20 (fun b => zc < b ∧ b < zt) Mt t') := tpc HBS.out HTt19.out (fun b h => by omega) (fun _ _ h => h)
  have HXn20 : Hid (BxN U20 zn Mn) := bxc HBS.out HXn19.out (fun h => h)
  have HTn20 : Hid (TI U20 zn Mn t'.mirx) := tic HBS.out HTn19.out (by omega) (fun _ h => h.elim)
  have HXd20 : Hid (BxN U20 zd Md) := bxc HBS.out HXd19.out (fun h => h)
  have HTd20 : Hid (TO U20 Md t'.mirx Ad) := toc HBS.out HTd19.out (fun _ _ h => h)
  have HB20 : Hid (Below x w U20) := blc HBS.out HB19.out (by omega) (fun b h => by exact h.elim)
  have hsz20 : zd < U20.heap.size := Nat.lt_of_lt_of_le hsz19 HBS.out.size
  clear HB19 hsz19 HBS HXw19 HTw19 HXi19 HXa19 HTa19 HXc19 HTc19 HTi19 HXt19 HTt19 HXn19 HTn19 HXd19 HTd19
  clear hsz20
  have hsz20 : zl < U20.heap.size := lt_of_block HL0.out
  have HST : Hid (ST U20 zl 0 (.slice none 0 0) (.slice none 0 0) (fun _ => .slice none 0 0) (fun _ => .slice none 0 0) (fun _ => 0) (fun _ => 0) (fun _ => []) (fun _ => []) 1000000) := st_nil HL0.out
  have HKE : Hid (∀ p b, p.ok 0 → bkO zl (.slice none 0 0) (.slice none 0 0) (fun _ => .slice none 0 0) (fun _ => .slice none 0 0) p = some b → zl ≤ b) := fun p b hp h => by
    cases p with
    | l => cases h; exact Nat.le_refl _
    | a => cases h
    | b => cases h
    | r i => exact absurd hp (by simp [Ky.ok])
    | s i => exact absurd hp (by simp [Ky.ok])
  have HKAB : Hid (∀ b, bkO zl (.slice none 0 0) (.slice none 0 0) (fun _ => .slice none 0 0) (fun _ => .slice none 0 0) .l = some b ∨ bkO zl (.slice none 0 0) (.slice none 0 0) (fun _ => .slice none 0 0) (fun _ => .slice none 0 0) .a = some b ∨ bkO zl (.slice none 0 0) (.slice none 0 0) (fun _ => .slice none 0 0) (fun _ => .slice none 0 0) .b = some b → zl ≤ b) := by
    rintro b (h | h | h)
    · exact HKE.out .l b trivial h
    · exact HKE.out .a b trivial h
    · exact HKE.out .b b trivial h
  clear HL0
  have HC := add17 HTa20.out U20 zl (0) _ _ _ _ _ _ _ _ (fun _ _ => rfl) HST.out (fun p b hp hb hA => by have g0 := HAa.out b hA; have := HKE.out p b hp hb; omega) (by have := (mirx_in t).1; omega) (mirx_in t).2
  obtain ⟨ao0, ao1, ao2, ao3, ao4, ao5, ao6, ao7, ao8⟩ := nine' HXa20.out
  go_upto_region 37 with (go_at_call 17; (with_reducible refine HC.mono ?_); rintro e U21 ⟨rfl, ⟨v0a, v1a, RVa, SVa, lna, lma, XRa, XSa, hST, hk1, hk2, hk3⟩, hb⟩; have HSTn := hid hST; have HK1 := hid hk1; have HK2 := hid hk2; have HK3 := hid hk3; have HBS := hid hb; clear hST hk1 hk2 hk3 hb HC)
  clear ao0 ao1 ao2 ao3 ao4 ao5 ao6 ao7 ao8
  have HKEn : Hid (∀ p b, p.ok (0 + t.mirx.nodes) → bkO zl v0a v1a RVa SVa p = some b → zl ≤ b ∨ Aa b) := fun p b hp h => by
    rcases HK1.out p b hp h with ⟨q, hq, hq2⟩ | h1 | h1
    · exact .inl (HKE.out q b hq hq2)
    · exact .inr h1
    · exact .inl (by omega)
  have HKABn : Hid (∀ b, bkO zl v0a v1a RVa SVa .l = some b ∨ bkO zl v0a v1a RVa SVa .a = some b ∨ bkO zl v0a v1a RVa SVa .b = some b → zl ≤ b) := by
    rintro b (h | h | h)
    · cases h; exact Nat.le_refl _
    · rcases HK2.out b h with h1 | h1
      · exact HKAB.out b (.inr (.inl h1))
      · omega
    · rcases HK3.out b h with h1 | h1
      · exact HKAB.out b (.inr (.inr h1))
      · omega
  clear HK1 HK2 HK3
  have HXw21 : Hid (BxN U21 zw Mw) := bxc HBS.out HXw20.out (fun h => by have g := HKAB.out _ h; omega)
  have HTw21 : Hid (TI U21 zw Mw t.mirx) := tic HBS.out HTw20.out (by omega) (fun b h => by have g := HKAB.out _ h; omega)
  have HXi21 : Hid (BxN U21 zi Mi) := bxc HBS.out HXi20.out (fun h => by have g := HKAB.out _ h; omega)
  have HXa21 : Hid (BxN U21 za Ma) := bxc HBS.out HXa20.out (fun h => by have g := HKAB.out _ h; omega)
  have HTa21 : Hid (TO U21 Ma t.mirx Aa) := toc HBS.out HTa20.out (fun b h0 h => by have g0 := HAa.out b h0; have g := HKAB.out _ h; omega)
  have HXc21 : Hid (BxN U21 zc Mc) := bxc HBS.out HXc20.out (fun h => by have g := HKAB.out _ h; omega)
  have HTc21 : Hid (TO U21 Mc t.mirx Ac) := toc HBS.out HTc20.out (fun b h0 h => by have g0 := HAc.out b h0; have g := HKAB.out _ h; omega)
  have HTi21 : Hid (TL U21 Mi t' Ai) := tlc HBS.out HTi20.out (fun b h0 h => by have g0 := HAi.out b h0; have g := HKAB.out _ h; omega)
  have HXt21 : Hid (BxN U21 zt Mt) := bxc HBS.out HXt20.out (fun h => by have g := HKAB.out _ h; omega)
  have HTt21 : Hid (TP U21 (fun b => zc < b ∧ b < zt) Mt t') := tpc HBS.out HTt20.out (fun b h => by omega) (fun b h0 h => by have g := HKAB.out _ h; omega)
  have HXn21 : Hid (BxN U21 zn Mn) := bxc HBS.out HXn20.out (fun h => by have g := HKAB.out _ h; omega)
  have HTn21 : Hid (TI U21 zn Mn t'.mirx) := tic HBS.out HTn20.out (by omega) (fun b h => by have g := HKAB.out _ h; omega)
  have HXd21 : Hid (BxN U21 zd Md) := bxc HBS.out HXd20.out (fun h => by have g := HKAB.out _ h; omega)
  have HTd21 : Hid (TO U21 Md t'.mirx Ad) := toc HBS.out HTd20.out (fun b h0 h => by have g0 := HAd.out b h0; have g := HKAB.out _ h; omega)
  have HB21 : Hid (Below x w U21) := blc HBS.out HB20.out (by omega) (fun b h => by have g := HKAB.out _ h; omega)
  have hsz21 : zl < U21.heap.size := Nat.lt_of_lt_of_le hsz20 HBS.out.size
  clear HB20 hsz20 HBS HXw20 HTw20 HXi20 HXa20 HTa20 HXc20 HTc20 HTi20 HXt20 HTt20 HXn20 HTn20 HXd20 HTd20
  clear HST HKE HKAB
  have HST := HSTn
  have HKE := HKEn
  have HKAB := HKABn
  clear HSTn HKEn HKABn
  have HC := add17 HTc21.out U21 zl (0 + t.mirx.nodes) _ _ _ _ _ _ _ _ (fun _ _ => rfl) HST.out (fun p b hp hb hA => by have g0 := HAc.out b hA; rcases HKE.out p b hp hb with h1 | h1 <;> first | omega | (have := HAa.out b h1; omega)) (by have := (mirx_in t).1; omega) (mirx_in t).2
  obtain ⟨ao0, ao1, ao2, ao3, ao4, ao5, ao6, ao7, ao8⟩ := nine' HXc21.out
  go_upto_region 38 with (go_at_call 17; (with_reducible refine HC.mono ?_); rintro e U22 ⟨rfl, ⟨v0b, v1b, RVb, SVb, lnb, lmb, XRb, XSb, hST, hk1, hk2, hk3⟩, hb⟩; have HSTn := hid hST; have HK1 := hid hk1; have HK2 := hid hk2; have HK3 := hid hk3; have HBS := hid hb; clear hST hk1 hk2 hk3 hb HC)
  clear ao0 ao1 ao2 ao3 ao4 ao5 ao6 ao7 ao8
  have HKEn : Hid (∀ p b, p.ok (0 + t.mirx.nodes + t.mirx.nodes) → bkO zl v0b v1b RVb SVb p = some b → zl ≤ b ∨ Aa b ∨ Ac b) := fun p b hp h => by
    rcases HK1.out p b hp h with ⟨q, hq, hq2⟩ | h1 | h1
    · exact (HKE.out q b hq hq2).imp id .inl
    · exact .inr (.inr h1)
    · exact .inl (by omega)
  have HKABn : Hid (∀ b, bkO zl v0b v1b RVb SVb .l = some b ∨ bkO zl v0b v1b RVb SVb .a = some b ∨ bkO zl v0b v1b RVb SVb .b = some b → zl ≤ b) := by
    rintro b (h | h | h)
    · cases h; exact Nat.le_refl _
    · rcases HK2.out b h with h1 | h1
      · exact HKAB.out b (.inr (.inl h1))
      · omega
    · rcases HK3.out b h with h1 | h1
      · exact HKAB.out b (.inr (.inr h1))
      · omega
  clear HK1 HK2 HK3
  have HXw22 : Hid (BxN U22 zw Mw) := bxc HBS.out HXw21.out (fun h => by have g := HKAB.out _ h; omega)
  have HTw22 : Hid (TI U22 zw Mw t.mirx) := tic HBS.out HTw21.out (by omega) (fun b h => by have g := HKAB.out _ h; omega)
  have HXi22 : Hid (BxN U22 zi Mi) := bxc HBS.out HXi21.out (fun h => by have g := HKAB.out _ h; omega)
  have HXa22 : Hid (BxN U22 za Ma) := bxc HBS.out HXa21.out (fun h => by have g := HKAB.out _ h; omega)
  have HTa22 : Hid (TO U22 Ma t.mirx Aa) := toc HBS.out HTa21.out (fun b h0 h => by have g0 := HAa.out b h0; have g := HKAB.out _ h; omega)
  have HXc22 : Hid (BxN U22 zc Mc) := bxc HBS.out HXc21.out (fun h => by have g := HKAB.out _ h; omega)
  have HTc22 : Hid (TO U22 Mc t.mirx Ac) := toc HBS.out HTc21.out (fun b h0 h => by have g0 := HAc.out b h0; have g := HKAB.out _ h; omega)
  have HTi22 : Hid (TL U22 Mi t' Ai) := tlc HBS.out HTi21.out (fun b h0 h => by have g0 := HAi.out b h0; have g := HKAB.out _ h; omega)
  have HXt22 : Hid (BxN U22 zt Mt) := bxc HBS.out HXt21.out (fun h => by have g := HKAB.out _ h; omega)
  have HTt22 : Hid (TP U22 (fun b => zc < b ∧ b < zt) Mt t') := tpc HBS.out HTt21.out (fun b h => by omega) (fun b h0 h => by have g := HKAB.out _ h; omega)
  have HXn22 : Hid (BxN U22 zn Mn) := bxc HBS.out HXn21.out (fun h => by have g := HKAB.out _ h; omega)
  have HTn22 : Hid (TI U22 zn Mn t'.mirx) := tic HBS.out HTn21.out (by omega) (fun b h => by have g := HKAB.out _ h; omega)
  have HXd22 : Hid (BxN U22 zd Md) := bxc HBS.out HXd21.out (fun h => by have g := HKAB.out _ h; omega)
  have HTd22 : Hid (TO U22 Md t'.mirx Ad) := toc HBS.out HTd21.out (fun b h0 h => by have g0 := HAd.out b h0; have g := HKAB.out _ h; omega)
  have HB22 : Hid (Below x w U22) := blc HBS.out HB21.out (by omega) (fun b h => by have g := HKAB.out _ h; omega)
  have hsz22 : zl < U22.heap.size := Nat.lt_of_lt_of_le hsz21 HBS.out.size
  clear HB21 hsz21 HBS HXw21 HTw21 HXi21 HXa21 HTa21 HXc21 HTc21 HTi21 HXt21 HTt21 HXn21 HTn21 HXd21 HTd21
  clear HST HKE HKAB
  have HST := HSTn
  have HKE := HKEn
  have HKAB := HKABn
  clear HSTn HKEn HKABn
  have HC := add17 HTd22.out U22 zl (0 + t.mirx.nodes + t.mirx.nodes) _ _ _ _ _ _ _ _ (fun _ _ => rfl) HST.out (fun p b hp hb hA => by have g0 := HAd.out b hA; rcases HKE.out p b hp hb with h1 | h1 | h1 <;> first | omega | (have := HAa.out b h1; omega) | (have := HAc.out b h1; omega)) (by have := (mirx_in t').1; have := (mirx_in t).1; omega) (mirx_in t').2
  obtain ⟨ao0, ao1, ao2, ao3, ao4, ao5, ao6, ao7, ao8⟩ := nine' HXd22.out
  go_upto_region 39 with (go_at_call 17; (with_reducible refine HC.mono ?_); rintro e U23 ⟨rfl, ⟨v0c, v1c, RVc, SVc, lnc, lmc, XRc, XSc, hST, hk1, hk2, hk3⟩, hb⟩; have HSTn := hid hST; have HK1 := hid hk1; have HK2 := hid hk2; have HK3 := hid hk3; have HBS := hid hb; clear hST hk1 hk2 hk3 hb HC)
  clear ao0 ao1 ao2 ao3 ao4 ao5 ao6 ao7 ao8
  have HKEn : Hid (∀ p b, p.ok (0 + t.mirx.nodes + t.mirx.nodes + t'.mirx.nodes) → bkO zl v0c v1c RVc SVc p = some b → zl ≤ b ∨ Aa b ∨ Ac b ∨ Ad b) := fun p b hp h => by
    rcases HK1.out p b hp h with ⟨q, hq, hq2⟩ | h1 | h1
    · exact (HKE.out q b hq hq2).imp id (fun h => h.imp id .inl)
    · exact .inr (.inr (.inr h1))
    · exact .inl (by omega)
  have HKABn : Hid (∀ b, bkO zl v0c v1c RVc SVc .l = some b ∨ bkO zl v0c v1c RVc SVc .a = some b ∨ bkO zl v0c v1c RVc SVc .b = some b → zl ≤ b) := by
    rintro b (h | h | h)
    · cases h; exact Nat.le_refl _
    · rcases HK2.out b h with h1 | h1
      · exact HKAB.out b (.inr (.inl h1))
      · omega
    · rcases HK3.out b h with h1 | h1
      · exact HKAB.out b (.inr (.inr h1))
      · omega
  clear HK1 HK2 HK3
  have HXw23 : Hid (BxN U23 zw Mw) := bxc HBS.out HXw22.out (fun h => by have g := HKAB.out _ h; omega)
  have HTw23 : Hid (TI U23 zw Mw t.mirx) := tic HBS.out HTw22.out (by omega) (fun b h => by have g := HKAB.out _ h; omega)
  have HXi23 : Hid (BxN U23 zi Mi) := bxc HBS.out HXi22.out (fun h => by have g := HKAB.out _ h; omega)
  have HXa23 : Hid (BxN U23 za Ma) := bxc HBS.out HXa22.out (fun h => by have g := HKAB.out _ h; omega)
  have HTa23 : Hid (TO U23 Ma t.mirx Aa) := toc HBS.out HTa22.out (fun b h0 h => by have g0 := HAa.out b h0; have g := HKAB.out _ h; omega)
  have HXc23 : Hid (BxN U23 zc Mc) := bxc HBS.out HXc22.out (fun h => by have g := HKAB.out _ h; omega)
  have HTc23 : Hid (TO U23 Mc t.mirx Ac) := toc HBS.out HTc22.out (fun b h0 h => by have g0 := HAc.out b h0; have g := HKAB.out _ h; omega)
  have HTi23 : Hid (TL U23 Mi t' Ai) := tlc HBS.out HTi22.out (fun b h0 h => by have g0 := HAi.out b h0; have g := HKAB.out _ h; omega)
  have HXt23 : Hid (BxN U23 zt Mt) := bxc HBS.out HXt22.out (fun h => by have g := HKAB.out _ h; omega)
  have HTt23 : Hid (TP U23 (fun b => zc < b ∧ b < zt) Mt t') := tpc HBS.out HTt22.out (fun b h => by omega) (fun b h0 h => by have g := HKAB.out _ h; omega)
  have HXn23 : Hid (BxN U23 zn Mn) := bxc HBS.out HXn22.out (fun h => by have g := HKAB.out _ h; omega)
  have HTn23 : Hid (TI U23 zn Mn t'.mirx) := tic HBS.out HTn22.out (by omega) (fun b h => by have g := HKAB.out _ h; omega)
  have HXd23 : Hid (BxN U23 zd Md) := bxc HBS.out HXd22.out (fun h => by have g := HKAB.out _ h; omega)
  have HTd23 : Hid (TO U23 Md t'.mirx Ad) := toc HBS.out HTd22.out (fun b h0 h => by have g0 := HAd.out b h0; have g := HKAB.out _ h; omega)
  have HB23 : Hid (Below x w U23) := blc HBS.out HB22.out (by omega) (fun b h => by have g := HKAB.out _ h; omega)
  have hsz23 : zl < U23.heap.size := Nat.lt_of_lt_of_le hsz22 HBS.out.size
  clear HB22 hsz22 HBS HXw22 HTw22 HXi22 HXa22 HTa22 HXc22 HTc22 HTi22 HXt22 HTt22 HXn22 HTn22 HXd22 HTd22
  clear HST HKE HKAB
  have HST := HSTn
  have HKE := HKEn
  have HKAB := HKABn
  clear HSTn HKEn HKABn
  have HC := own18 HST.out (by have := (mirx_in t).1; have := (mirx_in t').1; omega)
  go_upto_region 40 with (go_at_call 18; (with_reducible refine HC.mono ?_); rintro e U24 ⟨rfl, hb⟩; have HBS := hid hb; clear hb HC)
  have HXi24 : Hid (BxN U24 zi Mi) := bxc HBS.out HXi23.out (fun h => by obtain ⟨p, hp, h2⟩ := h; rcases HKE.out p _ hp h2 with h1 | h1 | h1 | h1 <;> first | omega | (have := HAa.out _ h1; omega) | (have := HAc.out _ h1; omega) | (have := HAd.out _ h1; omega))
  have HTi24 : Hid (TL U24 Mi t' Ai) := tlc HBS.out HTi23.out (fun b h0 h => by have g0 := HAi.out b h0; obtain ⟨p, hp, h2⟩ := h; rcases HKE.out p _ hp h2 with h1 | h1 | h1 | h1 <;> first | omega | (have := HAa.out _ h1; omega) | (have := HAc.out _ h1; omega) | (have := HAd.out _ h1; omega))
  have HXt24 : Hid (BxN U24 zt Mt) := bxc HBS.out HXt23.out (fun h => by obtain ⟨p, hp, h2⟩ := h; rcases HKE.out p _ hp h2 with h1 | h1 | h1 | h1 <;> first | omega | (have := HAa.out _ h1; omega) | (have := HAc.out _ h1; omega) | (have := HAd.out _ h1; omega))
  have HTt24 : Hid (TP U24 (fun b => zc < b ∧ b < zt) Mt t') := tpc HBS.out HTt23.out (fun b h => by omega) (fun b h0 h => by obtain ⟨p, hp, h2⟩ := h; rcases HKE.out p _ hp h2 with h1 | h1 | h1 | h1 <;> first | omega | (have := HAa.out _ h1; omega) | (have := HAc.out _ h1; omega) | (have := HAd.out _ h1; omega))
  have HB24 : Hid (Below x w U24) := blc HBS.out HB23.out (by omega) (fun b h => by obtain ⟨p, hp, h2⟩ := h; rcases HKE.out p _ hp h2 with h1 | h1 | h1 | h1 <;> first | omega | (have := HAa.out _ h1; omega) | (have := HAc.out _ h1; omega) | (have := HAd.out _ h1; omega))
  have hsz24 : zl < U24.heap.size := Nat.lt_of_lt_of_le hsz23 HBS.out.size
  clear HB23 hsz23 HBS HXw23 HTw23 HXi23 HXa23 HTa23 HXc23 HTc23 HTi23 HXt23 HTt23 HXn23 HTn23 HXd23 HTd23
  have HC := same13 (HTi24.out).ti (HTt24.out.ti (fun b hb => by omega))
  obtain ⟨ao0, ao1, ao2, ao3, ao4, ao5, ao6, ao7, ao8⟩ := nine' HXi24.out
  obtain ⟨bo0, bo1, bo2, bo3, bo4, bo5, bo6, bo7, bo8⟩ := nine' HXt24.out
  go_wp2_with (first | (go_at_call 13; (with_reducible refine HC.mono ?_); rintro e U99 ⟨rfl, hb⟩; have HBS := hid (Chs.of_below (A := No) hb); clear hb HC))
  go_ret
  refine ⟨rfl, ?_⟩
  rw [← HXE.out]
  exact blc HBS.out HB24.out (by omega) (fun b h => h.elim)
set_option maxRecDepth 100000 in
set_option maxHeartbeats 32000000 in
theorem turns3_small {w : World} {N N2 : Nv} {t u : Tn} (h : TI w w.heap.size N t) (h2 : TI w w.heap.size N2 u) (hd : t.nodes ≤ 200000) (hd2 : u.nodes ≤ 4194304) (hu : u.nodes ≤ 200000) (hsm : t.small = true) : Calls Try.prog 3 #[N.v, N2.v] w fun e w' => e = .returned (.bool true) ∧ Below w.heap.size w w' := by
  go_enter Try.func3, Try.ntmps3
  go_upto_region 1 with fail
  obtain ⟨U0, hU⟩ : ∃ U, U = (w.alloc (.cells #[.int .i64 N.k, .slice N.r1 N.r2 N.r3, .int .i64 N.a2, .slice N.s1 N.s2 N.s3, .int .i64 N.a4, .int .i64 N.a5, .bool N.a6, .int .i64 N.a7, .string N.a8] 25)).alloc (.cells #[.int .i64 N2.k, .slice N2.r1 N2.r2 N2.r3, .int .i64 N2.a2, .slice N2.s1 N2.s2 N2.s3, .int .i64 N2.a4, .int .i64 N2.a5, .bool N2.a6, .int .i64 N2.a7, .string N2.a8] 25) := ⟨_, rfl⟩
  rw [← hU]
  have HB0 : Hid (Below w.heap.size w U0) := by rw [hU]; exact below_two' w _ _
  have HXx0 : Hid (BxN U0 w.heap.size N) := by rw [hU]; exact (heap_alloc_old _ _ (by simp)).trans (heap_alloc_new w _)
  have HXy0 : Hid (BxN U0 (w.heap.size + 1) N2) := by rw [hU]; exact two_new w _ _ _
  have HTx0 : Hid (TI U0 w.heap.size N t) := h.kept (fun b hb => HB0.out.block b hb)
  have HTy0 : Hid (TI U0 w.heap.size N2 u) := h2.kept (fun b hb => HB0.out.block b hb)
  clear hU h h2
  obtain ⟨y, hy⟩ : ∃ y, y = w.heap.size + 1 := ⟨_, rfl⟩
  rw [← hy] at HXy0 ⊢
  obtain ⟨x, hx⟩ : ∃ x, x = w.heap.size := ⟨_, rfl⟩
  rw [← hx] at HB0 HXx0 HTx0 HTy0 hy ⊢
  have HXE := hid hx
  have hxy : x < y := by omega
  clear hx hy
  have hsz0 : y < U0.heap.size := lt_of_block HXy0.out
  have HC := deep10 (HTx0.out.le (by omega))
  rw [decide_eq_false (by omega)] at HC
  obtain ⟨ao0, ao1, ao2, ao3, ao4, ao5, ao6, ao7, ao8⟩ := nine' HXx0.out
  go_upto_region 2 with (go_at_call 7; (with_reducible refine HC.mono ?_); rintro e U1 ⟨rfl, hb⟩; have HBS := hid (Chs.of_below (A := No) hb); clear hb HC)
  clear ao0 ao1 ao2 ao3 ao4 ao5 ao6 ao7 ao8
  have HXx1 : Hid (BxN U1 x N) := bxc HBS.out HXx0.out (fun h => h)
  have HXy1 : Hid (BxN U1 y N2) := bxc HBS.out HXy0.out (fun h => h)
  have HTx1 : Hid (TI U1 x N t) := tic HBS.out HTx0.out (by omega) (fun _ h => h.elim)
  have HTy1 : Hid (TI U1 x N2 u) := tic HBS.out HTy0.out (by omega) (fun _ h => h.elim)
  have HB1 : Hid (Below x w U1) := blc HBS.out HB0.out (by omega) (fun b h => by exact h.elim)
  have hsz1 : y < U1.heap.size := Nat.lt_of_lt_of_le hsz0 HBS.out.size
  clear HB0 hsz0 HBS HXx0 HXy0 HTx0 HTy0
  have HC := deep10 (HTy1.out.le (by omega))
  rw [decide_eq_false (by omega)] at HC
  obtain ⟨ao0, ao1, ao2, ao3, ao4, ao5, ao6, ao7, ao8⟩ := nine' HXy1.out
  go_upto_region 5 with (go_at_call 7; (with_reducible refine HC.mono ?_); rintro e U2 ⟨rfl, hb⟩; have HBS := hid (Chs.of_below (A := No) hb); clear hb HC)
  clear ao0 ao1 ao2 ao3 ao4 ao5 ao6 ao7 ao8
  have HXx2 : Hid (BxN U2 x N) := bxc HBS.out HXx1.out (fun h => h)
  have HXy2 : Hid (BxN U2 y N2) := bxc HBS.out HXy1.out (fun h => h)
  have HTx2 : Hid (TI U2 x N t) := tic HBS.out HTx1.out (by omega) (fun _ h => h.elim)
  have HTy2 : Hid (TI U2 x N2 u) := tic HBS.out HTy1.out (by omega) (fun _ h => h.elim)
  have HB2 : Hid (Below x w U2) := blc HBS.out HB1.out (by omega) (fun b h => by exact h.elim)
  have hsz2 : y < U2.heap.size := Nat.lt_of_lt_of_le hsz1 HBS.out.size
  clear HB1 hsz1 HBS HXx1 HXy1 HTx1 HTy1
  have HC := awake8 U2
  go_upto_region 6 with (go_at_call 8; (with_reducible refine HC.mono ?_); rintro e U3 ⟨rfl, hb⟩; have HBS := hid (Chs.of_below (A := No) hb); clear hb HC)
  have HXx3 : Hid (BxN U3 x N) := bxc HBS.out HXx2.out (fun h => h)
  have HXy3 : Hid (BxN U3 y N2) := bxc HBS.out HXy2.out (fun h => h)
  have HTx3 : Hid (TI U3 x N t) := tic HBS.out HTx2.out (by omega) (fun _ h => h.elim)
  have HTy3 : Hid (TI U3 x N2 u) := tic HBS.out HTy2.out (by omega) (fun _ h => h.elim)
  have HB3 : Hid (Below x w U3) := blc HBS.out HB2.out (by omega) (fun b h => by exact h.elim)
  have hsz3 : y < U3.heap.size := Nat.lt_of_lt_of_le hsz2 HBS.out.size
  clear HB2 hsz2 HBS HXx2 HXy2 HTx2 HTy2
  have HC := great14 (HTx3.out.le (by omega))
  rw [decide_eq_false (by omega)] at HC
  obtain ⟨ao0, ao1, ao2, ao3, ao4, ao5, ao6, ao7, ao8⟩ := nine' HXx3.out
  go_upto_region 10 with (go_at_call 9; (with_reducible refine HC.mono ?_); rintro e U4 ⟨rfl, hb⟩; have HBS := hid (Chs.of_below (A := No) hb); clear hb HC)
  clear ao0 ao1 ao2 ao3 ao4 ao5 ao6 ao7 ao8
  have HXx4 : Hid (BxN U4 x N) := bxc HBS.out HXx3.out (fun h => h)
  have HXy4 : Hid (BxN U4 y N2) := bxc HBS.out HXy3.out (fun h => h)
  have HTx4 : Hid (TI U4 x N t) := tic HBS.out HTx3.out (by omega) (fun _ h => h.elim)
  have HTy4 : Hid (TI U4 x N2 u) := tic HBS.out HTy3.out (by omega) (fun _ h => h.elim)
  have HB4 : Hid (Below x w U4) := blc HBS.out HB3.out (by omega) (fun b h => by exact h.elim)
  have hsz4 : y < U4.heap.size := Nat.lt_of_lt_of_le hsz3 HBS.out.size
  clear HB3 hsz3 HBS HXx3 HXy3 HTx3 HTy3
  have HC := rmirror11 (HTx4.out.le (by omega))
  obtain ⟨ao0, ao1, ao2, ao3, ao4, ao5, ao6, ao7, ao8⟩ := nine' HXx4.out
  go_upto_region 11 with (go_at_call 11; (with_reducible refine HC.mono ?_); rintro e Ww ⟨Mw, rfl, hM, hb⟩; have HMM := hid hM; have HBW := hid hb; clear hM hb HC)
  clear ao0 ao1 ao2 ao3 ao4 ao5 ao6 ao7 ao8
  obtain ⟨U5, hU⟩ : ∃ U, U = Ww.alloc (.cells #[.int .i64 Mw.k, .slice Mw.r1 Mw.r2 Mw.r3, .int .i64 Mw.a2, .slice Mw.s1 Mw.s2 Mw.s3, .int .i64 Mw.a4, .int .i64 Mw.a5, .bool Mw.a6, .int .i64 Mw.a7, .string Mw.a8] 25) := ⟨_, rfl⟩
  rw [← hU]
  have HBS : Hid (Chs No U4 U5) := by rw [hU]; exact Chs.of_below (HBW.out.alloc HBW.out.size _)
  have HXw5 : Hid (BxN U5 Ww.heap.size Mw) := by rw [hU]; exact heap_alloc_new Ww _
  have HTw5 : Hid (TI U5 Ww.heap.size Mw t.mirx) := by rw [hU]; exact HMM.out.kept (fun b hb => heap_alloc_old _ _ hb)
  have hlow : y < Ww.heap.size := Nat.lt_of_lt_of_le hsz4 HBW.out.size
  have hltw : Ww.heap.size < U5.heap.size := lt_of_block HXw5.out
  clear hU HMM HBW
  obtain ⟨zw, hz⟩ : ∃ z, z = Ww.heap.size := ⟨_, rfl⟩
  rw [← hz] at HXw5 hlow hltw HTw5 ⊢
  clear hz
  have HXx5 : Hid (BxN U5 x N) := bxc HBS.out HXx4.out (fun h => h)
  have HXy5 : Hid (BxN U5 y N2) := bxc HBS.out HXy4.out (fun h => h)
  have HTx5 : Hid (TI U5 x N t) := tic HBS.out HTx4.out (by omega) (fun _ h => h.elim)
  have HTy5 : Hid (TI U5 x N2 u) := tic HBS.out HTy4.out (by omega) (fun _ h => h.elim)
  have HB5 : Hid (Below x w U5) := blc HBS.out HB4.out (by omega) (fun b h => by exact h.elim)
  have hsz5 : y < U5.heap.size := Nat.lt_of_lt_of_le hsz4 HBS.out.size
  clear HB4 hsz4 HBS HXx4 HXy4 HTx4 HTy4
  clear hsz5
  have hsz5 : zw < U5.heap.size := hltw
  clear hltw
  have HC := lent12 HTx5.out hd hsm U5 (by omega) (fun _ _ => rfl)
  obtain ⟨ao0, ao1, ao2, ao3, ao4, ao5, ao6, ao7, ao8⟩ := nine' HXx5.out
  go_upto_region 12 with (go_at_call 12; (with_reducible refine HC.mono ?_); rintro e Wi ⟨Mi, Ai, rfl, hM, hA, hb⟩; have HMM := hid hM; have HAA := hid hA; have HBW := hid hb; clear hM hb HC)
  clear ao0 ao1 ao2 ao3 ao4 ao5 ao6 ao7 ao8 hA
  obtain ⟨U6, hU⟩ : ∃ U, U = Wi.alloc (.cells #[.int .i64 Mi.k, .slice Mi.r1 Mi.r2 Mi.r3, .int .i64 Mi.a2, .slice Mi.s1 Mi.s2 Mi.s3, .int .i64 Mi.a4, .int .i64 Mi.a5, .bool Mi.a6, .int .i64 Mi.a7, .string Mi.a8] 25) := ⟨_, rfl⟩
  rw [← hU]
  have HBS : Hid (Chs No U5 U6) := by rw [hU]; exact Chs.of_below (HBW.out.alloc HBW.out.size _)
  have HXi6 : Hid (BxN U6 Wi.heap.size Mi) := by rw [hU]; exact heap_alloc_new Wi _
  have HTi6 : Hid (TL U6 Mi t Ai) := by rw [hU]; exact HMM.out.kept (fun b hb => heap_alloc_old _ _ (HMM.out.low b hb))
  have HAi : Hid (∀ b, Ai b → zw < b ∧ b < Wi.heap.size) := fun b hb => ⟨by have := HAA.out b hb; omega, HMM.out.low b hb⟩
  have hloi : zw < Wi.heap.size := Nat.lt_of_lt_of_le hsz5 HBW.out.size
  have hlti : Wi.heap.size < U6.heap.size := lt_of_block HXi6.out
  clear hU HMM HBW HAA
  obtain ⟨zi, hz⟩ : ∃ z, z = Wi.heap.size := ⟨_, rfl⟩
  rw [← hz] at HXi6 hloi hlti HAi ⊢
  clear hz
  have HXx6 : Hid (BxN U6 x N) := bxc HBS.out HXx5.out (fun h => h)
  have HXy6 : Hid (BxN U6 y N2) := bxc HBS.out HXy5.out (fun h => h)
  have HTx6 : Hid (TI U6 x N t) := tic HBS.out HTx5.out (by omega) (fun _ h => h.elim)
  have HTy6 : Hid (TI U6 x N2 u) := tic HBS.out HTy5.out (by omega) (fun _ h => h.elim)
  have HXw6 : Hid (BxN U6 zw Mw) := bxc HBS.out HXw5.out (fun h => h)
  have HTw6 : Hid (TI U6 zw Mw t.mirx) := tic HBS.out HTw5.out (by omega) (fun _ h => h.elim)
  have HB6 : Hid (Below x w U6) := blc HBS.out HB5.out (by omega) (fun b h => by exact h.elim)
  have hsz6 : zw < U6.heap.size := Nat.lt_of_lt_of_le hsz5 HBS.out.size
  clear HB5 hsz5 HBS HXx5 HXy5 HTx5 HTy5 HXw5 HTw5
  clear hsz6
  have hsz6 : zi < U6.heap.size := hlti
  clear hlti
  have HC := mirror10 (HTi6.out).ti
  obtain ⟨ao0, ao1, ao2, ao3, ao4, ao5, ao6, ao7, ao8⟩ := nine' HXi6.out
  go_upto_region 13 with (go_at_call 10; (with_reducible refine HC.mono ?_); rintro e Wa ⟨Ma, Aa, rfl, hM, hA, hb⟩; have HMM := hid hM; have HAA := hid hA; have HBW := hid hb; clear hM hb HC)
  clear ao0 ao1 ao2 ao3 ao4 ao5 ao6 ao7 ao8 hA
  obtain ⟨U7, hU⟩ : ∃ U, U = Wa.alloc (.cells #[.int .i64 Ma.k, .slice Ma.r1 Ma.r2 Ma.r3, .int .i64 Ma.a2, .slice Ma.s1 Ma.s2 Ma.s3, .int .i64 Ma.a4, .int .i64 Ma.a5, .bool Ma.a6, .int .i64 Ma.a7, .string Ma.a8] 25) := ⟨_, rfl⟩
  rw [← hU]
  have HBS : Hid (Chs No U6 U7) := by rw [hU]; exact Chs.of_below (HBW.out.alloc HBW.out.size _)
  have HXa7 : Hid (BxN U7 Wa.heap.size Ma) := by rw [hU]; exact heap_alloc_new Wa _
  have HTa7 : Hid (TO U7 Ma t.mirx Aa) := by rw [hU]; exact HMM.out.kept (fun b hb => heap_alloc_old _ _ (HMM.out.low b hb))
  have HAa : Hid (∀ b, Aa b → zi < b ∧ b < Wa.heap.size) := fun b hb => ⟨by have := HAA.out b hb; omega, HMM.out.low b hb⟩
  have hloa : zi < Wa.heap.size := Nat.lt_of_lt_of_le hsz6 HBW.out.size
  have hlta : Wa.heap.size < U7.heap.size := lt_of_block HXa7.out
  clear hU HMM HBW HAA
  obtain ⟨za, hz⟩ : ∃ z, z = Wa.heap.size := ⟨_, rfl⟩
  rw [← hz] at HXa7 hloa hlta HAa ⊢
  clear hz
  have HXx7 : Hid (BxN U7 x N) := bxc HBS.out HXx6.out (fun h => h)
  have HXy7 : Hid (BxN U7 y N2) := bxc HBS.out HXy6.out (fun h => h)
  have HTx7 : Hid (TI U7 x N t) := tic HBS.out HTx6.out (by omega) (fun _ h => h.elim)
  have HTy7 : Hid (TI U7 x N2 u) := tic HBS.out HTy6.out (by omega) (fun _ h => h.elim)
  have HXw7 : Hid (BxN U7 zw Mw) := bxc HBS.out HXw6.out (fun h => h)
  have HTw7 : Hid (TI U7 zw Mw t.mirx) := tic HBS.out HTw6.out (by omega) (fun _ h => h.elim)
  have HXi7 : Hid (BxN U7 zi Mi) := bxc HBS.out HXi6.out (fun h => h)
  have HTi7 : Hid (TL U7 Mi t Ai) := tlc HBS.out HTi6.out (fun _ _ h => h)
  have HB7 : Hid (Below x w U7) := blc HBS.out HB6.out (by omega) (fun b h => by exact h.elim)
  have hsz7 : zi < U7.heap.size := Nat.lt_of_lt_of_le hsz6 HBS.out.size
  clear HB6 hsz6 HBS HXx6 HXy6 HTx6 HTy6 HXw6 HTw6 HXi6 HTi6
  clear hsz7
  have hsz7 : za < U7.heap.size := hlta
  clear hlta
  have HC := great14 (HTy7.out.le (by omega))
  rw [decide_eq_false (by omega)] at HC
  obtain ⟨ao0, ao1, ao2, ao3, ao4, ao5, ao6, ao7, ao8⟩ := nine' HXy7.out
  go_upto_region 15 with (go_at_call 9; (with_reducible refine HC.mono ?_); rintro e U8 ⟨rfl, hb⟩; have HBS := hid (Chs.of_below (A := No) hb); clear hb HC)
  clear ao0 ao1 ao2 ao3 ao4 ao5 ao6 ao7 ao8
  have HXx8 : Hid (BxN U8 x N) := bxc HBS.out HXx7.out (fun h => h)
  have HXy8 : Hid (BxN U8 y N2) := bxc HBS.out HXy7.out (fun h => h)
  have HTx8 : Hid (TI U8 x N t) := tic HBS.out HTx7.out (by omega) (fun _ h => h.elim)
  have HTy8 : Hid (TI U8 x N2 u) := tic HBS.out HTy7.out (by omega) (fun _ h => h.elim)
  have HXw8 : Hid (BxN U8 zw Mw) := bxc HBS.out HXw7.out (fun h => h)
  have HTw8 : Hid (TI U8 zw Mw t.mirx) := tic HBS.out HTw7.out (by omega) (fun _ h => h.elim)
  have HXi8 : Hid (BxN U8 zi Mi) := bxc HBS.out HXi7.out (fun h => h)
  have HTi8 : Hid (TL U8 Mi t Ai) := tlc HBS.out HTi7.out (fun _ _ h => h)
  have HXa8 : Hid (BxN U8 za Ma) := bxc HBS.out HXa7.out (fun h => h)
  have HTa8 : Hid (TO U8 Ma t.mirx Aa) := toc HBS.out HTa7.out (fun _ _ h => h)
  have HB8 : Hid (Below x w U8) := blc HBS.out HB7.out (by omega) (fun b h => by exact h.elim)
  have hsz8 : za < U8.heap.size := Nat.lt_of_lt_of_le hsz7 HBS.out.size
  clear HB7 hsz7 HBS HXx7 HXy7 HTx7 HTy7 HXw7 HTw7 HXi7 HTi7 HXa7 HTa7
  have HC := rmirror11 (HTy8.out.le (by omega))
  obtain ⟨ao0, ao1, ao2, ao3, ao4, ao5, ao6, ao7, ao8⟩ := nine' HXy8.out
  go_upto_region 16 with (go_at_call 11; (with_reducible refine HC.mono ?_); rintro e Wp ⟨Mp, rfl, hM, hb⟩; have HMM := hid hM; have HBW := hid hb; clear hM hb HC)
  clear ao0 ao1 ao2 ao3 ao4 ao5 ao6 ao7 ao8
  obtain ⟨U9, hU⟩ : ∃ U, U = Wp.alloc (.cells #[.int .i64 Mp.k, .slice Mp.r1 Mp.r2 Mp.r3, .int .i64 Mp.a2, .slice Mp.s1 Mp.s2 Mp.s3, .int .i64 Mp.a4, .int .i64 Mp.a5, .bool Mp.a6, .int .i64 Mp.a7, .string Mp.a8] 25) := ⟨_, rfl⟩
  rw [← hU]
  have HBS : Hid (Chs No U8 U9) := by rw [hU]; exact Chs.of_below (HBW.out.alloc HBW.out.size _)
  have HXp9 : Hid (BxN U9 Wp.heap.size Mp) := by rw [hU]; exact heap_alloc_new Wp _
  have HTp9 : Hid (TI U9 Wp.heap.size Mp u.mirx) := by rw [hU]; exact HMM.out.kept (fun b hb => heap_alloc_old _ _ hb)
  have hlop : za < Wp.heap.size := Nat.lt_of_lt_of_le hsz8 HBW.out.size
  have hltp : Wp.heap.size < U9.heap.size := lt_of_block HXp9.out
  clear hU HMM HBW
  obtain ⟨zp, hz⟩ : ∃ z, z = Wp.heap.size := ⟨_, rfl⟩
  rw [← hz] at HXp9 hlop hltp HTp9 ⊢
  clear hz
  have HXx9 : Hid (BxN U9 x N) := bxc HBS.out HXx8.out (fun h => h)
  have HXy9 : Hid (BxN U9 y N2) := bxc HBS.out HXy8.out (fun h => h)
  have HTx9 : Hid (TI U9 x N t) := tic HBS.out HTx8.out (by omega) (fun _ h => h.elim)
  have HTy9 : Hid (TI U9 x N2 u) := tic HBS.out HTy8.out (by omega) (fun _ h => h.elim)
  have HXw9 : Hid (BxN U9 zw Mw) := bxc HBS.out HXw8.out (fun h => h)
  have HTw9 : Hid (TI U9 zw Mw t.mirx) := tic HBS.out HTw8.out (by omega) (fun _ h => h.elim)
  have HXi9 : Hid (BxN U9 zi Mi) := bxc HBS.out HXi8.out (fun h => h)
  have HTi9 : Hid (TL U9 Mi t Ai) := tlc HBS.out HTi8.out (fun _ _ h => h)
  have HXa9 : Hid (BxN U9 za Ma) := bxc HBS.out HXa8.out (fun h => h)
  have HTa9 : Hid (TO U9 Ma t.mirx Aa) := toc HBS.out HTa8.out (fun _ _ h => h)
  have HB9 : Hid (Below x w U9) := blc HBS.out HB8.out (by omega) (fun b h => by exact h.elim)
  have hsz9 : za < U9.heap.size := Nat.lt_of_lt_of_le hsz8 HBS.out.size
  clear HB8 hsz8 HBS HXx8 HXy8 HTx8 HTy8 HXw8 HTw8 HXi8 HTi8 HXa8 HTa8
  clear hsz9
  have hsz9 : zp < U9.heap.size := hltp
  clear hltp
  have HC := mirror10 (HTy9.out.le (by omega))
  obtain ⟨ao0, ao1, ao2, ao3, ao4, ao5, ao6, ao7, ao8⟩ := nine' HXy9.out
  go_upto_region 17 with (go_at_call 10; (with_reducible refine HC.mono ?_); rintro e Wq ⟨Mq, Aq, rfl, hM, hA, hb⟩; have HMM := hid hM; have HAA := hid hA; have HBW := hid hb; clear hM hb HC)
  clear ao0 ao1 ao2 ao3 ao4 ao5 ao6 ao7 ao8 hA
  obtain ⟨U10, hU⟩ : ∃ U, U = Wq.alloc (.cells #[.int .i64 Mq.k, .slice Mq.r1 Mq.r2 Mq.r3, .int .i64 Mq.a2, .slice Mq.s1 Mq.s2 Mq.s3, .int .i64 Mq.a4, .int .i64 Mq.a5, .bool Mq.a6, .int .i64 Mq.a7, .string Mq.a8] 25) := ⟨_, rfl⟩
  rw [← hU]
  have HBS : Hid (Chs No U9 U10) := by rw [hU]; exact Chs.of_below (HBW.out.alloc HBW.out.size _)
  have HXq10 : Hid (BxN U10 Wq.heap.size Mq) := by rw [hU]; exact heap_alloc_new Wq _
  have HTq10 : Hid (TO U10 Mq u.mirx Aq) := by rw [hU]; exact HMM.out.kept (fun b hb => heap_alloc_old _ _ (HMM.out.low b hb))
  have HAq : Hid (∀ b, Aq b → zp < b ∧ b < Wq.heap.size) := fun b hb => ⟨by have := HAA.out b hb; omega, HMM.out.low b hb⟩
  have hloq : zp < Wq.heap.size := Nat.lt_of_lt_of_le hsz9 HBW.out.size
  have hltq : Wq.heap.size < U10.heap.size := lt_of_block HXq10.out
  clear hU HMM HBW HAA
  obtain ⟨zq, hz⟩ : ∃ z, z = Wq.heap.size := ⟨_, rfl⟩
  rw [← hz] at HXq10 hloq hltq HAq ⊢
  clear hz
  have HXx10 : Hid (BxN U10 x N) := bxc HBS.out HXx9.out (fun h => h)
  have HXy10 : Hid (BxN U10 y N2) := bxc HBS.out HXy9.out (fun h => h)
  have HTx10 : Hid (TI U10 x N t) := tic HBS.out HTx9.out (by omega) (fun _ h => h.elim)
  have HTy10 : Hid (TI U10 x N2 u) := tic HBS.out HTy9.out (by omega) (fun _ h => h.elim)
  have HXw10 : Hid (BxN U10 zw Mw) := bxc HBS.out HXw9.out (fun h => h)
  have HTw10 : Hid (TI U10 zw Mw t.mirx) := tic HBS.out HTw9.out (by omega) (fun _ h => h.elim)
  have HXi10 : Hid (BxN U10 zi Mi) := bxc HBS.out HXi9.out (fun h => h)
  have HTi10 : Hid (TL U10 Mi t Ai) := tlc HBS.out HTi9.out (fun _ _ h => h)
  have HXa10 : Hid (BxN U10 za Ma) := bxc HBS.out HXa9.out (fun h => h)
  have HTa10 : Hid (TO U10 Ma t.mirx Aa) := toc HBS.out HTa9.out (fun _ _ h => h)
  have HXp10 : Hid (BxN U10 zp Mp) := bxc HBS.out HXp9.out (fun h => h)
  have HTp10 : Hid (TI U10 zp Mp u.mirx) := tic HBS.out HTp9.out (by omega) (fun _ h => h.elim)
  have HB10 : Hid (Below x w U10) := blc HBS.out HB9.out (by omega) (fun b h => by exact h.elim)
  have hsz10 : zp < U10.heap.size := Nat.lt_of_lt_of_le hsz9 HBS.out.size
  clear HB9 hsz9 HBS HXx9 HXy9 HTx9 HTy9 HXw9 HTw9 HXi9 HTi9 HXa9 HTa9 HXp9 HTp9
  clear hsz10
  have hsz10 : zq < U10.heap.size := hltq
  clear hltq
  have HC := same13 (HTq10.out).ti (HTp10.out.le (by omega))
  obtain ⟨ao0, ao1, ao2, ao3, ao4, ao5, ao6, ao7, ao8⟩ := nine' HXq10.out
  obtain ⟨bo0, bo1, bo2, bo3, bo4, bo5, bo6, bo7, bo8⟩ := nine' HXp10.out
  go_upto_region 20 with (go_at_call 13; (with_reducible refine HC.mono ?_); rintro e U11 ⟨rfl, hb⟩; have HBS := hid (Chs.of_below (A := No) hb); clear hb HC)
  clear ao0 ao1 ao2 ao3 ao4 ao5 ao6 ao7 ao8 bo0 bo1 bo2 bo3 bo4 bo5 bo6 bo7 bo8
  have HXx11 : Hid (BxN U11 x N) := bxc HBS.out HXx10.out (fun h => h)
  have HXy11 : Hid (BxN U11 y N2) := bxc HBS.out HXy10.out (fun h => h)
  have HTx11 : Hid (TI U11 x N t) := tic HBS.out HTx10.out (by omega) (fun _ h => h.elim)
  have HTy11 : Hid (TI U11 x N2 u) := tic HBS.out HTy10.out (by omega) (fun _ h => h.elim)
  have HXw11 : Hid (BxN U11 zw Mw) := bxc HBS.out HXw10.out (fun h => h)
  have HTw11 : Hid (TI U11 zw Mw t.mirx) := tic HBS.out HTw10.out (by omega) (fun _ h => h.elim)
  have HXi11 : Hid (BxN U11 zi Mi) := bxc HBS.out HXi10.out (fun h => h)
  have HTi11 : Hid (TL U11 Mi t Ai) := tlc HBS.out HTi10.out (fun _ _ h => h)
  have HXa11 : Hid (BxN U11 za Ma) := bxc HBS.out HXa10.out (fun h => h)
  have HTa11 : Hid (TO U11 Ma t.mirx Aa) := toc HBS.out HTa10.out (fun _ _ h => h)
  have HXp11 : Hid (BxN U11 zp Mp) := bxc HBS.out HXp10.out (fun h => h)
  have HTp11 : Hid (TI U11 zp Mp u.mirx) := tic HBS.out HTp10.out (by omega) (fun _ h => h.elim)
  have HXq11 : Hid (BxN U11 zq Mq) := bxc HBS.out HXq10.out (fun h => h)
  have HTq11 : Hid (TO U11 Mq u.mirx Aq) := toc HBS.out HTq10.out (fun _ _ h => h)
  have HB11 : Hid (Below x w U11) := blc HBS.out HB10.out (by omega) (fun b h => by exact h.elim)
  have hsz11 : zq < U11.heap.size := Nat.lt_of_lt_of_le hsz10 HBS.out.size
  clear HB10 hsz10 HBS HXx10 HXy10 HTx10 HTy10 HXw10 HTw10 HXi10 HTi10 HXa10 HTa10 HXp10 HTp10 HXq10 HTq10
  have HC := mirror10 (HTi11.out).ti
  obtain ⟨ao0, ao1, ao2, ao3, ao4, ao5, ao6, ao7, ao8⟩ := nine' HXi11.out
  go_upto_region 21 with (go_at_call 10; (with_reducible refine HC.mono ?_); rintro e Wc ⟨Mc, Ac, rfl, hM, hA, hb⟩; have HMM := hid hM; have HAA := hid hA; have HBW := hid hb; clear hM hb HC)
  clear ao0 ao1 ao2 ao3 ao4 ao5 ao6 ao7 ao8 hA
  obtain ⟨U12, hU⟩ : ∃ U, U = Wc.alloc (.cells #[.int .i64 Mc.k, .slice Mc.r1 Mc.r2 Mc.r3, .int .i64 Mc.a2, .slice Mc.s1 Mc.s2 Mc.s3, .int .i64 Mc.a4, .int .i64 Mc.a5, .bool Mc.a6, .int .i64 Mc.a7, .string Mc.a8] 25) := ⟨_, rfl⟩
  rw [← hU]
  have HBS : Hid (Chs No U11 U12) := by rw [hU]; exact Chs.of_below (HBW.out.alloc HBW.out.size _)
  have HXc12 : Hid (BxN U12 Wc.heap.size Mc) := by rw [hU]; exact heap_alloc_new Wc _
  have HTc12 : Hid (TO U12 Mc t.mirx Ac) := by rw [hU]; exact HMM.out.kept (fun b hb => heap_alloc_old _ _ (HMM.out.low b hb))
  have HAc : Hid (∀ b, Ac b → zq < b ∧ b < Wc.heap.size) := fun b hb => ⟨by have := HAA.out b hb; omega, HMM.out.low b hb⟩
  have hloc : zq < Wc.heap.size := Nat.lt_of_lt_of_le hsz11 HBW.out.size
  have hltc : Wc.heap.size < U12.heap.size := lt_of_block HXc12.out
  clear hU HMM HBW HAA
  obtain ⟨zc, hz⟩ : ∃ z, z = Wc.heap.size := ⟨_, rfl⟩
  rw [← hz] at HXc12 hloc hltc HAc ⊢
  clear hz
  have HXx12 : Hid (BxN U12 x N) := bxc HBS.out HXx11.out (fun h => h)
  have HXy12 : Hid (BxN U12 y N2) := bxc HBS.out HXy11.out (fun h => h)
  have HTx12 : Hid (TI U12 x N t) := tic HBS.out HTx11.out (by omega) (fun _ h => h.elim)
  have HTy12 : Hid (TI U12 x N2 u) := tic HBS.out HTy11.out (by omega) (fun _ h => h.elim)
  have HXw12 : Hid (BxN U12 zw Mw) := bxc HBS.out HXw11.out (fun h => h)
  have HTw12 : Hid (TI U12 zw Mw t.mirx) := tic HBS.out HTw11.out (by omega) (fun _ h => h.elim)
  have HXi12 : Hid (BxN U12 zi Mi) := bxc HBS.out HXi11.out (fun h => h)
  have HTi12 : Hid (TL U12 Mi t Ai) := tlc HBS.out HTi11.out (fun _ _ h => h)
  have HXa12 : Hid (BxN U12 za Ma) := bxc HBS.out HXa11.out (fun h => h)
  have HTa12 : Hid (TO U12 Ma t.mirx Aa) := toc HBS.out HTa11.out (fun _ _ h => h)
  have HXp12 : Hid (BxN U12 zp Mp) := bxc HBS.out HXp11.out (fun h => h)
  have HTp12 : Hid (TI U12 zp Mp u.mirx) := tic HBS.out HTp11.out (by omega) (fun _ h => h.elim)
  have HXq12 : Hid (BxN U12 zq Mq) := bxc HBS.out HXq11.out (fun h => h)
  have HTq12 : Hid (TO U12 Mq u.mirx Aq) := toc HBS.out HTq11.out (fun _ _ h => h)
  have HB12 : Hid (Below x w U12) := blc HBS.out HB11.out (by omega) (fun b h => by exact h.elim)
  have hsz12 : zq < U12.heap.size := Nat.lt_of_lt_of_le hsz11 HBS.out.size
  clear HB11 hsz11 HBS HXx11 HXy11 HTx11 HTy11 HXw11 HTw11 HXi11 HTi11 HXa11 HTa11 HXp11 HTp11 HXq11 HTq11
  clear hsz12
  have hsz12 : zc < U12.heap.size := hltc
  clear hltc
  have HC := same13 (HTa12.out).ti (HTw12.out.le (by omega))
  obtain ⟨ao0, ao1, ao2, ao3, ao4, ao5, ao6, ao7, ao8⟩ := nine' HXa12.out
  obtain ⟨bo0, bo1, bo2, bo3, bo4, bo5, bo6, bo7, bo8⟩ := nine' HXw12.out
  go_upto_region 22 with (go_at_call 13; (with_reducible refine HC.mono ?_); rintro e U13 ⟨rfl, hb⟩; have HBS := hid (Chs.of_below (A := No) hb); clear hb HC)
  clear ao0 ao1 ao2 ao3 ao4 ao5 ao6 ao7 ao8 bo0 bo1 bo2 bo3 bo4 bo5 bo6 bo7 bo8
  have HXx13 : Hid (BxN U13 x N) := bxc HBS.out HXx12.out (fun h => h)
  have HXy13 : Hid (BxN U13 y N2) := bxc HBS.out HXy12.out (fun h => h)
  have HTx13 : Hid (TI U13 x N t) := tic HBS.out HTx12.out (by omega) (fun _ h => h.elim)
  have HTy13 : Hid (TI U13 x N2 u) := tic HBS.out HTy12.out (by omega) (fun _ h => h.elim)
  have HXw13 : Hid (BxN U13 zw Mw) := bxc HBS.out HXw12.out (fun h => h)
  have HTw13 : Hid (TI U13 zw Mw t.mirx) := tic HBS.out HTw12.out (by omega) (fun _ h => h.elim)
  have HXi13 : Hid (BxN U13 zi Mi) := bxc HBS.out HXi12.out (fun h => h)
  have HTi13 : Hid (TL U13 Mi t Ai) := tlc HBS.out HTi12.out (fun _ _ h => h)
  have HXa13 : Hid (BxN U13 za Ma) := bxc HBS.out HXa12.out (fun h => h)
  have HTa13 : Hid (TO U13 Ma t.mirx Aa) := toc HBS.out HTa12.out (fun _ _ h => h)
  have HXp13 : Hid (BxN U13 zp Mp) := bxc HBS.out HXp12.out (fun h => h)
  have HTp13 : Hid (TI U13 zp Mp u.mirx) := tic HBS.out HTp12.out (by omega) (fun _ h => h.elim)
  have HXq13 : Hid (BxN U13 zq Mq) := bxc HBS.out HXq12.out (fun h => h)
  have HTq13 : Hid (TO U13 Mq u.mirx Aq) := toc HBS.out HTq12.out (fun _ _ h => h)
  have HXc13 : Hid (BxN U13 zc Mc) := bxc HBS.out HXc12.out (fun h => h)
  have HTc13 : Hid (TO U13 Mc t.mirx Ac) := toc HBS.out HTc12.out (fun _ _ h => h)
  have HB13 : Hid (Below x w U13) := blc HBS.out HB12.out (by omega) (fun b h => by exact h.elim)
  have hsz13 : zc < U13.heap.size := Nat.lt_of_lt_of_le hsz12 HBS.out.size
  clear HB12 hsz12 HBS HXx12 HXy12 HTx12 HTy12 HXw12 HTw12 HXi12 HTi12 HXa12 HTa12 HXp12 HTp12 HXq12 HTq12 HXc12 HTc12
  have HC := same13 (HTc13.out).ti (HTw13.out.le (by omega))
  obtain ⟨ao0, ao1, ao2, ao3, ao4, ao5, ao6, ao7, ao8⟩ := nine' HXc13.out
  obtain ⟨bo0, bo1, bo2, bo3, bo4, bo5, bo6, bo7, bo8⟩ := nine' HXw13.out
  go_upto_region 23 with (go_at_call 13; (with_reducible refine HC.mono ?_); rintro e U14 ⟨rfl, hb⟩; have HBS := hid (Chs.of_below (A := No) hb); clear hb HC)
  clear ao0 ao1 ao2 ao3 ao4 ao5 ao6 ao7 ao8 bo0 bo1 bo2 bo3 bo4 bo5 bo6 bo7 bo8
  have HXx14 : Hid (BxN U14 x N) := bxc HBS.out HXx13.out (fun h => h)
  have HXy14 : Hid (BxN U14 y N2) := bxc HBS.out HXy13.out (fun h => h)
  have HTx14 : Hid (TI U14 x N t) := tic HBS.out HTx13.out (by omega) (fun _ h => h.elim)
  have HTy14 : Hid (TI U14 x N2 u) := tic HBS.out HTy13.out (by omega) (fun _ h => h.elim)
  have HXw14 : Hid (BxN U14 zw Mw) := bxc HBS.out HXw13.out (fun h => h)
  have HTw14 : Hid (TI U14 zw Mw t.mirx) := tic HBS.out HTw13.out (by omega) (fun _ h => h.elim)
  have HXi14 : Hid (BxN U14 zi Mi) := bxc HBS.out HXi13.out (fun h => h)
  have HTi14 : Hid (TL U14 Mi t Ai) := tlc HBS.out HTi13.out (fun _ _ h => h)
  have HXa14 : Hid (BxN U14 za Ma) := bxc HBS.out HXa13.out (fun h => h)
  have HTa14 : Hid (TO U14 Ma t.mirx Aa) := toc HBS.out HTa13.out (fun _ _ h => h)
  have HXp14 : Hid (BxN U14 zp Mp) := bxc HBS.out HXp13.out (fun h => h)
  have HTp14 : Hid (TI U14 zp Mp u.mirx) := tic HBS.out HTp13.out (by omega) (fun _ h => h.elim)
  have HXq14 : Hid (BxN U14 zq Mq) := bxc HBS.out HXq13.out (fun h => h)
  have HTq14 : Hid (TO U14 Mq u.mirx Aq) := toc HBS.out HTq13.out (fun _ _ h => h)
  have HXc14 : Hid (BxN U14 zc Mc) := bxc HBS.out HXc13.out (fun h => h)
  have HTc14 : Hid (TO U14 Mc t.mirx Ac) := toc HBS.out HTc13.out (fun _ _ h => h)
  have HB14 : Hid (Below x w U14) := blc HBS.out HB13.out (by omega) (fun b h => by exact h.elim)
  have hsz14 : zc < U14.heap.size := Nat.lt_of_lt_of_le hsz13 HBS.out.size
  clear HB13 hsz13 HBS HXx13 HXy13 HTx13 HTy13 HXw13 HTw13 HXi13 HTi13 HXa13 HTa13 HXp13 HTp13 HXq13 HTq13 HXc13 HTc13
  have HC := same13 (HTi14.out).ti (HTx14.out.le (by omega))
  obtain ⟨ao0, ao1, ao2, ao3, ao4, ao5, ao6, ao7, ao8⟩ := nine' HXi14.out
  obtain ⟨bo0, bo1, bo2, bo3, bo4, bo5, bo6, bo7, bo8⟩ := nine' HXx14.out
  go_upto_region 24 with (go_at_call 13; (with_reducible refine HC.mono ?_); rintro e U15 ⟨rfl, hb⟩; have HBS := hid (Chs.of_below (A := No) hb); clear hb HC)
  clear ao0 ao1 ao2 ao3 ao4 ao5 ao6 ao7 ao8 bo0 bo1 bo2 bo3 bo4 bo5 bo6 bo7 bo8
  have HXx15 : Hid (BxN U15 x N) := bxc HBS.out HXx14.out (fun h => h)
  have HXy15 : Hid (BxN U15 y N2) := bxc HBS.out HXy14.out (fun h => h)
  have HTx15 : Hid (TI U15 x N t) := tic HBS.out HTx14.out (by omega) (fun _ h => h.elim)
  have HTy15 : Hid (TI U15 x N2 u) := tic HBS.out HTy14.out (by omega) (fun _ h => h.elim)
  have HXw15 : Hid (BxN U15 zw Mw) := bxc HBS.out HXw14.out (fun h => h)
  have HTw15 : Hid (TI U15 zw Mw t.mirx) := tic HBS.out HTw14.out (by omega) (fun _ h => h.elim)
  have HXi15 : Hid (BxN U15 zi Mi) := bxc HBS.out HXi14.out (fun h => h)
  have HTi15 : Hid (TL U15 Mi t Ai) := tlc HBS.out HTi14.out (fun _ _ h => h)
  have HXa15 : Hid (BxN U15 za Ma) := bxc HBS.out HXa14.out (fun h => h)
  have HTa15 : Hid (TO U15 Ma t.mirx Aa) := toc HBS.out HTa14.out (fun _ _ h => h)
  have HXp15 : Hid (BxN U15 zp Mp) := bxc HBS.out HXp14.out (fun h => h)
  have HTp15 : Hid (TI U15 zp Mp u.mirx) := tic HBS.out HTp14.out (by omega) (fun _ h => h.elim)
  have HXq15 : Hid (BxN U15 zq Mq) := bxc HBS.out HXq14.out (fun h => h)
  have HTq15 : Hid (TO U15 Mq u.mirx Aq) := toc HBS.out HTq14.out (fun _ _ h => h)
  have HXc15 : Hid (BxN U15 zc Mc) := bxc HBS.out HXc14.out (fun h => h)
  have HTc15 : Hid (TO U15 Mc t.mirx Ac) := toc HBS.out HTc14.out (fun _ _ h => h)
  have HB15 : Hid (Below x w U15) := blc HBS.out HB14.out (by omega) (fun b h => by exact h.elim)
  have hsz15 : zc < U15.heap.size := Nat.lt_of_lt_of_le hsz14 HBS.out.size
  clear HB14 hsz14 HBS HXx14 HXy14 HTx14 HTy14 HXw14 HTw14 HXi14 HTi14 HXa14 HTa14 HXp14 HTp14 HXq14 HTq14 HXc14 HTc14
  have HC := kept14 HTi15.out U15 (fun _ _ => rfl)
  obtain ⟨ao0, ao1, ao2, ao3, ao4, ao5, ao6, ao7, ao8⟩ := nine' HXi15.out
  go_upto_region 27 with (go_at_call 14; (with_reducible refine HC.mono ?_); rintro e U16 ⟨rfl, hb⟩; have HBS := hid (Chs.of_below (A := No) hb); clear hb HC)
  clear ao0 ao1 ao2 ao3 ao4 ao5 ao6 ao7 ao8
  have HXx16 : Hid (BxN U16 x N) := bxc HBS.out HXx15.out (fun h => h)
  have HXy16 : Hid (BxN U16 y N2) := bxc HBS.out HXy15.out (fun h => h)
  have HTx16 : Hid (TI U16 x N t) := tic HBS.out HTx15.out (by omega) (fun _ h => h.elim)
  have HTy16 : Hid (TI U16 x N2 u) := tic HBS.out HTy15.out (by omega) (fun _ h => h.elim)
  have HXw16 : Hid (BxN U16 zw Mw) := bxc HBS.out HXw15.out (fun h => h)
  have HTw16 : Hid (TI U16 zw Mw t.mirx) := tic HBS.out HTw15.out (by omega) (fun _ h => h.elim)
  have HXi16 : Hid (BxN U16 zi Mi) := bxc HBS.out HXi15.out (fun h => h)
  have HTi16 : Hid (TL U16 Mi t Ai) := tlc HBS.out HTi15.out (fun _ _ h => h)
  have HXa16 : Hid (BxN U16 za Ma) := bxc HBS.out HXa15.out (fun h => h)
  have HTa16 : Hid (TO U16 Ma t.mirx Aa) := toc HBS.out HTa15.out (fun _ _ h => h)
  have HXp16 : Hid (BxN U16 zp Mp) := bxc HBS.out HXp15.out (fun h => h)
  have HTp16 : Hid (TI U16 zp Mp u.mirx) := tic HBS.out HTp15.out (by omega) (fun _ h => h.elim)
  have HXq16 : Hid (BxN U16 zq Mq) := bxc HBS.out HXq15.out (fun h => h)
  have HTq16 : Hid (TO U16 Mq u.mirx Aq) := toc HBS.out HTq15.out (fun _ _ h => h)
  have HXc16 : Hid (BxN U16 zc Mc) := bxc HBS.out HXc15.out (fun h => h)
  have HTc16 : Hid (TO U16 Mc t.mirx Ac) := toc HBS.out HTc15.out (fun _ _ h => h)
  have HB16 : Hid (Below x w U16) := blc HBS.out HB15.out (by omega) (fun b h => by exact h.elim)
  have hsz16 : zc < U16.heap.size := Nat.lt_of_lt_of_le hsz15 HBS.out.size
  clear HB15 hsz15 HBS HXx15 HXy15 HTx15 HTy15 HXw15 HTw15 HXi15 HTi15 HXa15 HTa15 HXp15 HTp15 HXq15 HTq15 HXc15 HTc15
  have HC := turned15 HTi16.out hd hsm U16 (fun _ _ => rfl)
  obtain ⟨ao0, ao1, ao2, ao3, ao4, ao5, ao6, ao7, ao8⟩ := nine' HXi16.out
  go_upto_region 28 with (go_at_call 15; (with_reducible refine HC.mono ?_); rintro e U17 ⟨rfl, ⟨t', hM, hno', hsm'⟩, hb⟩; have HMM := hid hM; have HBS := hid hb; clear hM hb HC)
  clear ao0 ao1 ao2 ao3 ao4 ao5 ao6 ao7 ao8
  have HXw17 : Hid (BxN U17 zw Mw) := bxc HBS.out HXw16.out (fun h => by have g := HAi.out _ h; omega)
  have HTw17 : Hid (TI U17 zw Mw t.mirx) := tic HBS.out HTw16.out (by omega) (fun b h => by have g := HAi.out _ h; omega)
  have HXi17 : Hid (BxN U17 zi Mi) := bxc HBS.out HXi16.out (fun h => by have g := HAi.out _ h; omega)
  have HXa17 : Hid (BxN U17 za Ma) := bxc HBS.out HXa16.out (fun h => by have g := HAi.out _ h; omega)
  have HTa17 : Hid (TO U17 Ma t.mirx Aa) := toc HBS.out HTa16.out (fun b h0 h => by have g0 := HAa.out b h0; have g := HAi.out _ h; omega)
  have HXc17 : Hid (BxN U17 zc Mc) := bxc HBS.out HXc16.out (fun h => by have g := HAi.out _ h; omega)
  have HTc17 : Hid (TO U17 Mc t.mirx Ac) := toc HBS.out HTc16.out (fun b h0 h => by have g0 := HAc.out b h0; have g := HAi.out _ h; omega)
  have HB17 : Hid (Below x w U17) := blc HBS.out HB16.out (by omega) (fun b h => by have g := HAi.out _ h; omega)
  have hsz17 : zc < U17.heap.size := Nat.lt_of_lt_of_le hsz16 HBS.out.size
  clear HB16 hsz16 HBS HXx16 HXy16 HTx16 HTy16 HXw16 HTw16 HXi16 HTi16 HXa16 HTa16 HXp16 HTp16 HXq16 HTq16 HXc16 HTc16
  have HTi17 : Hid (TL U17 Mi t' Ai) := HMM.out
  clear HMM
  have hd' : t'.nodes ≤ 200000 := by omega
  have HC := copy16 (HTi17.out).ti hd' hsm' U17 (Nat.le_refl _) (fun _ _ => rfl)
  obtain ⟨ao0, ao1, ao2, ao3, ao4, ao5, ao6, ao7, ao8⟩ := nine' HXi17.out
  go_upto_region 29 with (go_at_call 16; (with_reducible refine HC.mono ?_); rintro e Wt ⟨Mt, rfl, hM, hb⟩; have HMM := hid hM; have HBW := hid hb; clear hM hb HC)
  clear ao0 ao1 ao2 ao3 ao4 ao5 ao6 ao7 ao8
  obtain ⟨U18, hU⟩ : ∃ U, U = Wt.alloc (.cells #[.int .i64 Mt.k, .slice Mt.r1 Mt.r2 Mt.r3, .int .i64 Mt.a2, .slice Mt.s1 Mt.s2 Mt.s3, .int .i64 Mt.a4, .int .i64 Mt.a5, .bool Mt.a6, .int .i64 Mt.a7, .string Mt.a8] 25) := ⟨_, rfl⟩
  rw [← hU]
  have HBS : Hid (Chs No U17 U18) := by rw [hU]; exact Chs.of_below (HBW.out.alloc HBW.out.size _)
  have HXt18 : Hid (BxN U18 Wt.heap.size Mt) := by rw [hU]; exact heap_alloc_new Wt _
  have HTt18 : Hid (TP U18 (fun b => zc < b ∧ b < Wt.heap.size) Mt t') := by rw [hU]; exact HMM.out.kept (fun b hb => heap_alloc_old _ _ hb.2) (fun b hb => ⟨by omega, hb.2⟩)
  have hlot : zc < Wt.heap.size := Nat.lt_of_lt_of_le hsz17 HBW.out.size
  have hltt : Wt.heap.size < U18.heap.size := lt_of_block HXt18.out
  clear hU HMM HBW
  obtain ⟨zt, hz⟩ : ∃ z, z = Wt.heap.size := ⟨_, rfl⟩
  rw [← hz] at HXt18 hlot hltt HTt18 ⊢
  clear hz
  have HXw18 : Hid (BxN U18 zw Mw) := bxc HBS.out HXw17.out (fun h => h)
  have HTw18 : Hid (TI U18 zw Mw t.mirx) := tic HBS.out HTw17.out (by omega) (fun _ h => h.elim)
  have HXi18 : Hid (BxN U18 zi Mi) := bxc HBS.out HXi17.out (fun h => h)
  have HXa18 : Hid (BxN U18 za Ma) := bxc HBS.out HXa17.out (fun h => h)
  have HTa18 : Hid (TO U18 Ma t.mirx Aa) := toc HBS.out HTa17.out (fun _ _ h => h)
  have HXc18 : Hid (BxN U18 zc Mc) := bxc HBS.out HXc17.out (fun h => h)
  have HTc18 : Hid (TO U18 Mc t.mirx Ac) := toc HBS.out HTc17.out (fun _ _ h => h)
  have HTi18 : Hid (TL U18 Mi t' Ai) := tlc HBS.out HTi17.out (fun _ _ h => h)
  have HB18 : Hid (Below x w U18) := blc HBS.out HB17.out (by omega) (fun b h => by exact h.elim)
  have hsz18 : zc < U18.heap.size := Nat.lt_of_lt_of_le hsz17 HBS.out.size
  clear HB17 hsz17 HBS HXw17 HTw17 HXi17 HXa17 HTa17 HXc17 HTc17 HTi17
  clear hsz18
  have hsz18 : zt < U18.heap.size := hltt
  clear hltt
  have HC := rmirror11 (HTt18.out.ti (fun b hb => by omega))
  obtain ⟨ao0, ao1, ao2, ao3, ao4, ao5, ao6, ao7, ao8⟩ := nine' HXt18.out
  go_upto_region 30 with (go_at_call 11; (with_reducible refine HC.mono ?_); rintro e Wn ⟨Mn, rfl, hM, hb⟩; have HMM := hid hM; have HBW := hid hb; clear hM hb HC)
  clear ao0 ao1 ao2 ao3 ao4 ao5 ao6 ao7 ao8
  obtain ⟨U19, hU⟩ : ∃ U, U = Wn.alloc (.cells #[.int .i64 Mn.k, .slice Mn.r1 Mn.r2 Mn.r3, .int .i64 Mn.a2, .slice Mn.s1 Mn.s2 Mn.s3, .int .i64 Mn.a4, .int .i64 Mn.a5, .bool Mn.a6, .int .i64 Mn.a7, .string Mn.a8] 25) := ⟨_, rfl⟩
  rw [← hU]
  have HBS : Hid (Chs No U18 U19) := by rw [hU]; exact Chs.of_below (HBW.out.alloc HBW.out.size _)
  have HXn19 : Hid (BxN U19 Wn.heap.size Mn) := by rw [hU]; exact heap_alloc_new Wn _
  have HTn19 : Hid (TI U19 Wn.heap.size Mn t'.mirx) := by rw [hU]; exact HMM.out.kept (fun b hb => heap_alloc_old _ _ hb)
  have hlon : zt < Wn.heap.size := Nat.lt_of_lt_of_le hsz18 HBW.out.size
  have hltn : Wn.heap.size < U19.heap.size := lt_of_block HXn19.out
  clear hU HMM HBW
  obtain ⟨zn, hz⟩ : ∃ z, z = Wn.heap.size := ⟨_, rfl⟩
  rw [← hz] at HXn19 hlon hltn HTn19 ⊢
  clear hz
  have HXw19 : Hid (BxN U19 zw Mw) := bxc HBS.out HXw18.out (fun h => h)
  have HTw19 : Hid (TI U19 zw Mw t.mirx) := tic HBS.out HTw18.out (by omega) (fun _ h => h.elim)
  have HXi19 : Hid (BxN U19 zi Mi) := bxc HBS.out HXi18.out (fun h => h)
  have HXa19 : Hid (BxN U19 za Ma) := bxc HBS.out HXa18.out (fun h => h)
  have HTa19 : Hid (TO U19 Ma t.mirx Aa) := toc HBS.out HTa18.out (fun _ _ h => h)
  have HXc19 : Hid (BxN U19 zc Mc) := bxc HBS.out HXc18.out (fun h => h)
  have HTc19 : Hid (TO U19 Mc t.mirx Ac) := toc HBS.out HTc18.out (fun _ _ h => h)
  have HTi19 : Hid (TL U19 Mi t' Ai) := tlc HBS.out HTi18.out (fun _ _ h => h)
  have HXt19 : Hid (BxN U19 zt Mt) := bxc HBS.out HXt18.out (fun h => h)
  have HTt19 : Hid (TP U19 (fun b => zc < b ∧ b < zt) Mt t') := tpc HBS.out HTt18.out (fun b h => by omega) (fun _ _ h => h)
  have HB19 : Hid (Below x w U19) := blc HBS.out HB18.out (by omega) (fun b h => by exact h.elim)
  have hsz19 : zt < U19.heap.size := Nat.lt_of_lt_of_le hsz18 HBS.out.size
  clear HB18 hsz18 HBS HXw18 HTw18 HXi18 HXa18 HTa18 HXc18 HTc18 HTi18 HXt18 HTt18
  clear hsz19
  have hsz19 : zn < U19.heap.size := hltn
  clear hltn
  have HC := mirror10 (HTi19.out).ti
  obtain ⟨ao0, ao1, ao2, ao3, ao4, ao5, ao6, ao7, ao8⟩ := nine' HXi19.out
  go_upto_region 31 with (go_at_call 10; (with_reducible refine HC.mono ?_); rintro e Wd ⟨Md, Ad, rfl, hM, hA, hb⟩; have HMM := hid hM; have HAA := hid hA; have HBW := hid hb; clear hM hb HC)
  clear ao0 ao1 ao2 ao3 ao4 ao5 ao6 ao7 ao8 hA
  obtain ⟨U20, hU⟩ : ∃ U, U = Wd.alloc (.cells #[.int .i64 Md.k, .slice Md.r1 Md.r2 Md.r3, .int .i64 Md.a2, .slice Md.s1 Md.s2 Md.s3, .int .i64 Md.a4, .int .i64 Md.a5, .bool Md.a6, .int .i64 Md.a7, .string Md.a8] 25) := ⟨_, rfl⟩
  rw [← hU]
  have HBS : Hid (Chs No U19 U20) := by rw [hU]; exact Chs.of_below (HBW.out.alloc HBW.out.size _)
  have HXd20 : Hid (BxN U20 Wd.heap.size Md) := by rw [hU]; exact heap_alloc_new Wd _
  have HTd20 : Hid (TO U20 Md t'.mirx Ad) := by rw [hU]; exact HMM.out.kept (fun b hb => heap_alloc_old _ _ (HMM.out.low b hb))
  have HAd : Hid (∀ b, Ad b → zn < b ∧ b < Wd.heap.size) := fun b hb => ⟨by have := HAA.out b hb; omega, HMM.out.low b hb⟩
  have hlod : zn < Wd.heap.size := Nat.lt_of_lt_of_le hsz19 HBW.out.size
  have hltd : Wd.heap.size < U20.heap.size := lt_of_block HXd20.out
  clear hU HMM HBW HAA
  obtain ⟨zd, hz⟩ : ∃ z, z = Wd.heap.size := ⟨_, rfl⟩
  rw [← hz] at HXd20 hlod hltd HAd ⊢
  clear hz
  have HXw20 : Hid (BxN U20 zw Mw) := bxc HBS.out HXw19.out (fun h => h)
  have HTw20 : Hid (TI U20 zw Mw t.mirx) := tic HBS.out HTw19.out (by omega) (fun _ h => h.elim)
  have HXi20 : Hid (BxN U20 zi Mi) := bxc HBS.out HXi19.out (fun h => h)
  have HXa20 : Hid (BxN U20 za Ma) := bxc HBS.out HXa19.out (fun h => h)
  have HTa20 : Hid (TO U20 Ma t.mirx Aa) := toc HBS.out HTa19.out (fun _ _ h => h)
  have HXc20 : Hid (BxN U20 zc Mc) := bxc HBS.out HXc19.out (fun h => h)
  have HTc20 : Hid (TO U20 Mc t.mirx Ac) := toc HBS.out HTc19.out (fun _ _ h => h)
  have HTi20 : Hid (TL U20 Mi t' Ai) := tlc HBS.out HTi19.out (fun _ _ h => h)
  have HXt20 : Hid (BxN U20 zt Mt) := bxc HBS.out HXt19.out (fun h => h)
  have HTt20 : Hid (TP U20 (fun b => zc < b ∧ b < zt) Mt t') := tpc HBS.out HTt19.out (fun b h => by omega) (fun _ _ h => h)
  have HXn20 : Hid (BxN U20 zn Mn) := bxc HBS.out HXn19.out (fun h => h)
  have HTn20 : Hid (TI U20 zn Mn t'.mirx) := tic HBS.out HTn19.out (by omega) (fun _ h => h.elim)
  have HB20 : Hid (Below x w U20) := blc HBS.out HB19.out (by omega) (fun b h => by exact h.elim)
  have hsz20 : zn < U20.heap.size := Nat.lt_of_lt_of_le hsz19 HBS.out.size
  clear HB19 hsz19 HBS HXw19 HTw19 HXi19 HXa19 HTa19 HXc19 HTc19 HTi19 HXt19 HTt19 HXn19 HTn19
  clear hsz20
  have hsz20 : zd < U20.heap.size := hltd
  clear hltd
  have HC := same13 (HTd20.out).ti (HTn20.out.le (by omega))
  obtain ⟨ao0, ao1, ao2, ao3, ao4, ao5, ao6, ao7, ao8⟩ := nine' HXd20.out
  obtain ⟨bo0, bo1, bo2, bo3, bo4, bo5, bo6, bo7, bo8⟩ := nine' HXn20.out
  go_upto_region 32 with (go_at_call 13; (with_reducible refine HC.mono ?_); rintro e U21 ⟨rfl, hb⟩; have HBS := hid (Chs.of_below (A := No) hb); clear hb HC)
  clear ao0 ao1 ao2 ao3 ao4 ao5 ao6 ao7 ao8 bo0 bo1 bo2 bo3 bo4 bo5 bo6 bo7 bo8
  have HXw21 : Hid (BxN U21 zw Mw) := bxc HBS.out HXw20.out (fun h => h)
  have HTw21 : Hid (TI U21 zw Mw t.mirx) := tic HBS.out HTw20.out (by omega) (fun _ h => h.elim)
  have HXi21 : Hid (BxN U21 zi Mi) := bxc HBS.out HXi20.out (fun h => h)
  have HXa21 : Hid (BxN U21 za Ma) := bxc HBS.out HXa20.out (fun h => h)
  have HTa21 : Hid (TO U21 Ma t.mirx Aa) := toc HBS.out HTa20.out (fun _ _ h => h)
  have HXc21 : Hid (BxN U21 zc Mc) := bxc HBS.out HXc20.out (fun h => h)
  have HTc21 : Hid (TO U21 Mc t.mirx Ac) := toc HBS.out HTc20.out (fun _ _ h => h)
  have HTi21 : Hid (TL U21 Mi t' Ai) := tlc HBS.out HTi20.out (fun _ _ h => h)
  have HXt21 : Hid (BxN U21 zt Mt) := bxc HBS.out HXt20.out (fun h => h)
  have HTt21 : Hid (TP U21 (fun b => zc < b ∧ b < zt) Mt t') := tpc HBS.out HTt20.out (fun b h => by omega) (fun _ _ h => h)
  have HXn21 : Hid (BxN U21 zn Mn) := bxc HBS.out HXn20.out (fun h => h)
  have HTn21 : Hid (TI U21 zn Mn t'.mirx) := tic HBS.out HTn20.out (by omega) (fun _ h => h.elim)
  have HXd21 : Hid (BxN U21 zd Md) := bxc HBS.out HXd20.out (fun h => h)
  have HTd21 : Hid (TO U21 Md t'.mirx Ad) := toc HBS.out HTd20.out (fun _ _ h => h)
  have HB21 : Hid (Below x w U21) := blc HBS.out HB20.out (by omega) (fun b h => by exact h.elim)
  have hsz21 : zd < U21.heap.size := Nat.lt_of_lt_of_le hsz20 HBS.out.size
  clear HB20 hsz20 HBS HXw20 HTw20 HXi20 HXa20 HTa20 HXc20 HTc20 HTi20 HXt20 HTt20 HXn20 HTn20 HXd20 HTd20
  have HC := same13 (HTa21.out).ti (HTw21.out.le (by omega))
  obtain ⟨ao0, ao1, ao2, ao3, ao4, ao5, ao6, ao7, ao8⟩ := nine' HXa21.out
  obtain ⟨bo0, bo1, bo2, bo3, bo4, bo5, bo6, bo7, bo8⟩ := nine' HXw21.out
  go_upto_region 35 with (go_at_call 13; (with_reducible refine HC.mono ?_); rintro e U22 ⟨rfl, hb⟩; have HBS := hid (Chs.of_below (A := No) hb); clear hb HC)
  clear ao0 ao1 ao2 ao3 ao4 ao5 ao6 ao7 ao8 bo0 bo1 bo2 bo3 bo4 bo5 bo6 bo7 bo8
  have HXw22 : Hid (BxN U22 zw Mw) := bxc HBS.out HXw21.out (fun h => h)
  have HTw22 : Hid (TI U22 zw Mw t.mirx) := tic HBS.out HTw21.out (by omega) (fun _ h => h.elim)
  have HXi22 : Hid (BxN U22 zi Mi) := bxc HBS.out HXi21.out (fun h => h)
  have HXa22 : Hid (BxN U22 za Ma) := bxc HBS.out HXa21.out (fun h => h)
  have HTa22 : Hid (TO U22 Ma t.mirx Aa) := toc HBS.out HTa21.out (fun _ _ h => h)
  have HXc22 : Hid (BxN U22 zc Mc) := bxc HBS.out HXc21.out (fun h => h)
  have HTc22 : Hid (TO U22 Mc t.mirx Ac) := toc HBS.out HTc21.out (fun _ _ h => h)
  have HTi22 : Hid (TL U22 Mi t' Ai) := tlc HBS.out HTi21.out (fun _ _ h => h)
  have HXt22 : Hid (BxN U22 zt Mt) := bxc HBS.out HXt21.out (fun h => h)
  have HTt22 : Hid (TP U22 (fun b => zc < b ∧ b < zt) Mt t') := tpc HBS.out HTt21.out (fun b h => by omega) (fun _ _ h => h)
  have HXn22 : Hid (BxN U22 zn Mn) := bxc HBS.out HXn21.out (fun h => h)
  have HTn22 : Hid (TI U22 zn Mn t'.mirx) := tic HBS.out HTn21.out (by omega) (fun _ h => h.elim)
  have HXd22 : Hid (BxN U22 zd Md) := bxc HBS.out HXd21.out (fun h => h)
  have HTd22 : Hid (TO U22 Md t'.mirx Ad) := toc HBS.out HTd21.out (fun _ _ h => h)
  have HB22 : Hid (Below x w U22) := blc HBS.out HB21.out (by omega) (fun b h => by exact h.elim)
  have hsz22 : zd < U22.heap.size := Nat.lt_of_lt_of_le hsz21 HBS.out.size
  clear HB21 hsz21 HBS HXw21 HTw21 HXi21 HXa21 HTa21 HXc21 HTc21 HTi21 HXt21 HTt21 HXn21 HTn21 HXd21 HTd21
  go_upto_region 36 with fail
  obtain ⟨U23, hU⟩ : ∃ U, U = U22.alloc (.cells #[.slice none 0 0, .slice none 0 0] 38) := ⟨_, rfl⟩
  rw [← hU]
  have HBS : Hid (Chs No U22 U23) := by rw [hU]; exact Chs.of_below (Joins.below_alloc1 _ _)
  have HL0 : Hid (U23.heap[U22.heap.size]? = some (.cells #[.slice none 0 0, .slice none 0 0] 38 (0, 0))) := by rw [hU]; exact heap_alloc_new _ _
  clear hU
  obtain ⟨zl, hz⟩ : ∃ z, z = U22.heap.size := ⟨_, rfl⟩
  rw [← hz] at HL0 ⊢
  have hlol : zd < zl := by omega
  clear hz
  have HXw23 : Hid (BxN U23 zw Mw) := bxc HBS.out HXw22.out (fun h => h)
  have HTw23 : Hid (TI U23 zw Mw t.mirx) := tic HBS.out HTw22.out (by omega) (fun _ h => h.elim)
  have HXi23 : Hid (BxN U23 zi Mi) := bxc HBS.out HXi22.out (fun h => h)
  have HXa23 : Hid (BxN U23 za Ma) := bxc HBS.out HXa22.out (fun h => h)
  have HTa23 : Hid (TO U23 Ma t.mirx Aa) := toc HBS.out HTa22.out (fun _ _ h => h)
  have HXc23 : Hid (BxN U23 zc Mc) := bxc HBS.out HXc22.out (fun h => h)
  have HTc23 : Hid (TO U23 Mc t.mirx Ac) := toc HBS.out HTc22.out (fun _ _ h => h)
  have HTi23 : Hid (TL U23 Mi t' Ai) := tlc HBS.out HTi22.out (fun _ _ h => h)
  have HXt23 : Hid (BxN U23 zt Mt) := bxc HBS.out HXt22.out (fun h => h)
  have HTt23 : Hid (TP U23 (fun b => zc < b ∧ b < zt) Mt t') := tpc HBS.out HTt22.out (fun b h => by omega) (fun _ _ h => h)
  have HXn23 : Hid (BxN U23 zn Mn) := bxc HBS.out HXn22.out (fun h => h)
  have HTn23 : Hid (TI U23 zn Mn t'.mirx) := tic HBS.out HTn22.out (by omega) (fun _ h => h.elim)
  have HXd23 : Hid (BxN U23 zd Md) := bxc HBS.out HXd22.out (fun h => h)
  have HTd23 : Hid (TO U23 Md t'.mirx Ad) := toc HBS.out HTd22.out (fun _ _ h => h)
  have HB23 : Hid (Below x w U23) := blc HBS.out HB22.out (by omega) (fun b h => by exact h.elim)
  have hsz23 : zd < U23.heap.size := Nat.lt_of_lt_of_le hsz22 HBS.out.size
  clear HB22 hsz22 HBS HXw22 HTw22 HXi22 HXa22 HTa22 HXc22 HTc22 HTi22 HXt22 HTt22 HXn22 HTn22 HXd22 HTd22
  clear hsz23
  have hsz23 : zl < U23.heap.size := lt_of_block HL0.out
  have HST : Hid (ST U23 zl 0 (.slice none 0 0) (.slice none 0 0) (fun _ => .slice none 0 0) (fun _ => .slice none 0 0) (fun _ => 0) (fun _ => 0) (fun _ => []) (fun _ => []) 1000000) := st_nil HL0.out
  have HKE : Hid (∀ p b, p.ok 0 → bkO zl (.slice none 0 0) (.slice none 0 0) (fun _ => .slice none 0 0) (fun _ => .slice none 0 0) p = some b → zl ≤ b) := fun p b hp h => by
    cases p with
    | l => cases h; exact Nat.le_refl _
    | a => cases h
    | b => cases h
    | r i => exact absurd hp (by simp [Ky.ok])
    | s i => exact absurd hp (by simp [Ky.ok])
  have HKAB : Hid (∀ b, bkO zl (.slice none 0 0) (.slice none 0 0) (fun _ => .slice none 0 0) (fun _ => .slice none 0 0) .l = some b ∨ bkO zl (.slice none 0 0) (.slice none 0 0) (fun _ => .slice none 0 0) (fun _ => .slice none 0 0) .a = some b ∨ bkO zl (.slice none 0 0) (.slice none 0 0) (fun _ => .slice none 0 0) (fun _ => .slice none 0 0) .b = some b → zl ≤ b) := by
    rintro b (h | h | h)
    · exact HKE.out .l b trivial h
    · exact HKE.out .a b trivial h
    · exact HKE.out .b b trivial h
  clear HL0
  have HC := add17 HTa23.out U23 zl (0) _ _ _ _ _ _ _ _ (fun _ _ => rfl) HST.out (fun p b hp hb hA => by have g0 := HAa.out b hA; have := HKE.out p b hp hb; omega) (by have := (mirx_in t).1; omega) (mirx_in t).2
  obtain ⟨ao0, ao1, ao2, ao3, ao4, ao5, ao6, ao7, ao8⟩ := nine' HXa23.out
  go_upto_region 37 with (go_at_call 17; (with_reducible refine HC.mono ?_); rintro e U24 ⟨rfl, ⟨v0a, v1a, RVa, SVa, lna, lma, XRa, XSa, hST, hk1, hk2, hk3⟩, hb⟩; have HSTn := hid hST; have HK1 := hid hk1; have HK2 := hid hk2; have HK3 := hid hk3; have HBS := hid hb; clear hST hk1 hk2 hk3 hb HC)
  clear ao0 ao1 ao2 ao3 ao4 ao5 ao6 ao7 ao8
  have HKEn : Hid (∀ p b, p.ok (0 + t.mirx.nodes) → bkO zl v0a v1a RVa SVa p = some b → zl ≤ b ∨ Aa b) := fun p b hp h => by
    rcases HK1.out p b hp h with ⟨q, hq, hq2⟩ | h1 | h1
    · exact .inl (HKE.out q b hq hq2)
    · exact .inr h1
    · exact .inl (by omega)
  have HKABn : Hid (∀ b, bkO zl v0a v1a RVa SVa .l = some b ∨ bkO zl v0a v1a RVa SVa .a = some b ∨ bkO zl v0a v1a RVa SVa .b = some b → zl ≤ b) := by
    rintro b (h | h | h)
    · cases h; exact Nat.le_refl _
    · rcases HK2.out b h with h1 | h1
      · exact HKAB.out b (.inr (.inl h1))
      · omega
    · rcases HK3.out b h with h1 | h1
      · exact HKAB.out b (.inr (.inr h1))
      · omega
  clear HK1 HK2 HK3
  have HXw24 : Hid (BxN U24 zw Mw) := bxc HBS.out HXw23.out (fun h => by have g := HKAB.out _ h; omega)
  have HTw24 : Hid (TI U24 zw Mw t.mirx) := tic HBS.out HTw23.out (by omega) (fun b h => by have g := HKAB.out _ h; omega)
  have HXi24 : Hid (BxN U24 zi Mi) := bxc HBS.out HXi23.out (fun h => by have g := HKAB.out _ h; omega)
  have HXa24 : Hid (BxN U24 za Ma) := bxc HBS.out HXa23.out (fun h => by have g := HKAB.out _ h; omega)
  have HTa24 : Hid (TO U24 Ma t.mirx Aa) := toc HBS.out HTa23.out (fun b h0 h => by have g0 := HAa.out b h0; have g := HKAB.out _ h; omega)
  have HXc24 : Hid (BxN U24 zc Mc) := bxc HBS.out HXc23.out (fun h => by have g := HKAB.out _ h; omega)
  have HTc24 : Hid (TO U24 Mc t.mirx Ac) := toc HBS.out HTc23.out (fun b h0 h => by have g0 := HAc.out b h0; have g := HKAB.out _ h; omega)
  have HTi24 : Hid (TL U24 Mi t' Ai) := tlc HBS.out HTi23.out (fun b h0 h => by have g0 := HAi.out b h0; have g := HKAB.out _ h; omega)
  have HXt24 : Hid (BxN U24 zt Mt) := bxc HBS.out HXt23.out (fun h => by have g := HKAB.out _ h; omega)
  have HTt24 : Hid (TP U24 (fun b => zc < b ∧ b < zt) Mt t') := tpc HBS.out HTt23.out (fun b h => by omega) (fun b h0 h => by have g := HKAB.out _ h; omega)
  have HXn24 : Hid (BxN U24 zn Mn) := bxc HBS.out HXn23.out (fun h => by have g := HKAB.out _ h; omega)
  have HTn24 : Hid (TI U24 zn Mn t'.mirx) := tic HBS.out HTn23.out (by omega) (fun b h => by have g := HKAB.out _ h; omega)
  have HXd24 : Hid (BxN U24 zd Md) := bxc HBS.out HXd23.out (fun h => by have g := HKAB.out _ h; omega)
  have HTd24 : Hid (TO U24 Md t'.mirx Ad) := toc HBS.out HTd23.out (fun b h0 h => by have g0 := HAd.out b h0; have g := HKAB.out _ h; omega)
  have HB24 : Hid (Below x w U24) := blc HBS.out HB23.out (by omega) (fun b h => by have g := HKAB.out _ h; omega)
  have hsz24 : zl < U24.heap.size := Nat.lt_of_lt_of_le hsz23 HBS.out.size
  clear HB23 hsz23 HBS HXw23 HTw23 HXi23 HXa23 HTa23 HXc23 HTc23 HTi23 HXt23 HTt23 HXn23 HTn23 HXd23 HTd23
  clear HST HKE HKAB
  have HST := HSTn
  have HKE := HKEn
  have HKAB := HKABn
  clear HSTn HKEn HKABn
  have HC := add17 HTc24.out U24 zl (0 + t.mirx.nodes) _ _ _ _ _ _ _ _ (fun _ _ => rfl) HST.out (fun p b hp hb hA => by have g0 := HAc.out b hA; rcases HKE.out p b hp hb with h1 | h1 <;> first | omega | (have := HAa.out b h1; omega)) (by have := (mirx_in t).1; omega) (mirx_in t).2
  obtain ⟨ao0, ao1, ao2, ao3, ao4, ao5, ao6, ao7, ao8⟩ := nine' HXc24.out
  go_upto_region 38 with (go_at_call 17; (with_reducible refine HC.mono ?_); rintro e U25 ⟨rfl, ⟨v0b, v1b, RVb, SVb, lnb, lmb, XRb, XSb, hST, hk1, hk2, hk3⟩, hb⟩; have HSTn := hid hST; have HK1 := hid hk1; have HK2 := hid hk2; have HK3 := hid hk3; have HBS := hid hb; clear hST hk1 hk2 hk3 hb HC)
  clear ao0 ao1 ao2 ao3 ao4 ao5 ao6 ao7 ao8
  have HKEn : Hid (∀ p b, p.ok (0 + t.mirx.nodes + t.mirx.nodes) → bkO zl v0b v1b RVb SVb p = some b → zl ≤ b ∨ Aa b ∨ Ac b) := fun p b hp h => by
    rcases HK1.out p b hp h with ⟨q, hq, hq2⟩ | h1 | h1
    · exact (HKE.out q b hq hq2).imp id .inl
    · exact .inr (.inr h1)
    · exact .inl (by omega)
  have HKABn : Hid (∀ b, bkO zl v0b v1b RVb SVb .l = some b ∨ bkO zl v0b v1b RVb SVb .a = some b ∨ bkO zl v0b v1b RVb SVb .b = some b → zl ≤ b) := by
    rintro b (h | h | h)
    · cases h; exact Nat.le_refl _
    · rcases HK2.out b h with h1 | h1
      · exact HKAB.out b (.inr (.inl h1))
      · omega
    · rcases HK3.out b h with h1 | h1
      · exact HKAB.out b (.inr (.inr h1))
      · omega
  clear HK1 HK2 HK3
  have HXw25 : Hid (BxN U25 zw Mw) := bxc HBS.out HXw24.out (fun h => by have g := HKAB.out _ h; omega)
  have HTw25 : Hid (TI U25 zw Mw t.mirx) := tic HBS.out HTw24.out (by omega) (fun b h => by have g := HKAB.out _ h; omega)
  have HXi25 : Hid (BxN U25 zi Mi) := bxc HBS.out HXi24.out (fun h => by have g := HKAB.out _ h; omega)
  have HXa25 : Hid (BxN U25 za Ma) := bxc HBS.out HXa24.out (fun h => by have g := HKAB.out _ h; omega)
  have HTa25 : Hid (TO U25 Ma t.mirx Aa) := toc HBS.out HTa24.out (fun b h0 h => by have g0 := HAa.out b h0; have g := HKAB.out _ h; omega)
  have HXc25 : Hid (BxN U25 zc Mc) := bxc HBS.out HXc24.out (fun h => by have g := HKAB.out _ h; omega)
  have HTc25 : Hid (TO U25 Mc t.mirx Ac) := toc HBS.out HTc24.out (fun b h0 h => by have g0 := HAc.out b h0; have g := HKAB.out _ h; omega)
  have HTi25 : Hid (TL U25 Mi t' Ai) := tlc HBS.out HTi24.out (fun b h0 h => by have g0 := HAi.out b h0; have g := HKAB.out _ h; omega)
  have HXt25 : Hid (BxN U25 zt Mt) := bxc HBS.out HXt24.out (fun h => by have g := HKAB.out _ h; omega)
  have HTt25 : Hid (TP U25 (fun b => zc < b ∧ b < zt) Mt t') := tpc HBS.out HTt24.out (fun b h => by omega) (fun b h0 h => by have g := HKAB.out _ h; omega)
  have HXn25 : Hid (BxN U25 zn Mn) := bxc HBS.out HXn24.out (fun h => by have g := HKAB.out _ h; omega)
  have HTn25 : Hid (TI U25 zn Mn t'.mirx) := tic HBS.out HTn24.out (by omega) (fun b h => by have g := HKAB.out _ h; omega)
  have HXd25 : Hid (BxN U25 zd Md) := bxc HBS.out HXd24.out (fun h => by have g := HKAB.out _ h; omega)
  have HTd25 : Hid (TO U25 Md t'.mirx Ad) := toc HBS.out HTd24.out (fun b h0 h => by have g0 := HAd.out b h0; have g := HKAB.out _ h; omega)
  have HB25 : Hid (Below x w U25) := blc HBS.out HB24.out (by omega) (fun b h => by have g := HKAB.out _ h; omega)
  have hsz25 : zl < U25.heap.size := Nat.lt_of_lt_of_le hsz24 HBS.out.size
  clear HB24 hsz24 HBS HXw24 HTw24 HXi24 HXa24 HTa24 HXc24 HTc24 HTi24 HXt24 HTt24 HXn24 HTn24 HXd24 HTd24
  clear HST HKE HKAB
  have HST := HSTn
  have HKE := HKEn
  have HKAB := HKABn
  clear HSTn HKEn HKABn
  have HC := add17 HTd25.out U25 zl (0 + t.mirx.nodes + t.mirx.nodes) _ _ _ _ _ _ _ _ (fun _ _ => rfl) HST.out (fun p b hp hb hA => by have g0 := HAd.out b hA; rcases HKE.out p b hp hb with h1 | h1 | h1 <;> first | omega | (have := HAa.out b h1; omega) | (have := HAc.out b h1; omega)) (by have := (mirx_in t').1; have := (mirx_in t).1; omega) (mirx_in t').2
  obtain ⟨ao0, ao1, ao2, ao3, ao4, ao5, ao6, ao7, ao8⟩ := nine' HXd25.out
  go_upto_region 39 with (go_at_call 17; (with_reducible refine HC.mono ?_); rintro e U26 ⟨rfl, ⟨v0c, v1c, RVc, SVc, lnc, lmc, XRc, XSc, hST, hk1, hk2, hk3⟩, hb⟩; have HSTn := hid hST; have HK1 := hid hk1; have HK2 := hid hk2; have HK3 := hid hk3; have HBS := hid hb; clear hST hk1 hk2 hk3 hb HC)
  clear ao0 ao1 ao2 ao3 ao4 ao5 ao6 ao7 ao8
  have HKEn : Hid (∀ p b, p.ok (0 + t.mirx.nodes + t.mirx.nodes + t'.mirx.nodes) → bkO zl v0c v1c RVc SVc p = some b → zl ≤ b ∨ Aa b ∨ Ac b ∨ Ad b) := fun p b hp h => by
    rcases HK1.out p b hp h with ⟨q, hq, hq2⟩ | h1 | h1
    · exact (HKE.out q b hq hq2).imp id (fun h => h.imp id .inl)
    · exact .inr (.inr (.inr h1))
    · exact .inl (by omega)
  have HKABn : Hid (∀ b, bkO zl v0c v1c RVc SVc .l = some b ∨ bkO zl v0c v1c RVc SVc .a = some b ∨ bkO zl v0c v1c RVc SVc .b = some b → zl ≤ b) := by
    rintro b (h | h | h)
    · cases h; exact Nat.le_refl _
    · rcases HK2.out b h with h1 | h1
      · exact HKAB.out b (.inr (.inl h1))
      · omega
    · rcases HK3.out b h with h1 | h1
      · exact HKAB.out b (.inr (.inr h1))
      · omega
  clear HK1 HK2 HK3
  have HXw26 : Hid (BxN U26 zw Mw) := bxc HBS.out HXw25.out (fun h => by have g := HKAB.out _ h; omega)
  have HTw26 : Hid (TI U26 zw Mw t.mirx) := tic HBS.out HTw25.out (by omega) (fun b h => by have g := HKAB.out _ h; omega)
  have HXi26 : Hid (BxN U26 zi Mi) := bxc HBS.out HXi25.out (fun h => by have g := HKAB.out _ h; omega)
  have HXa26 : Hid (BxN U26 za Ma) := bxc HBS.out HXa25.out (fun h => by have g := HKAB.out _ h; omega)
  have HTa26 : Hid (TO U26 Ma t.mirx Aa) := toc HBS.out HTa25.out (fun b h0 h => by have g0 := HAa.out b h0; have g := HKAB.out _ h; omega)
  have HXc26 : Hid (BxN U26 zc Mc) := bxc HBS.out HXc25.out (fun h => by have g := HKAB.out _ h; omega)
  have HTc26 : Hid (TO U26 Mc t.mirx Ac) := toc HBS.out HTc25.out (fun b h0 h => by have g0 := HAc.out b h0; have g := HKAB.out _ h; omega)
  have HTi26 : Hid (TL U26 Mi t' Ai) := tlc HBS.out HTi25.out (fun b h0 h => by have g0 := HAi.out b h0; have g := HKAB.out _ h; omega)
  have HXt26 : Hid (BxN U26 zt Mt) := bxc HBS.out HXt25.out (fun h => by have g := HKAB.out _ h; omega)
  have HTt26 : Hid (TP U26 (fun b => zc < b ∧ b < zt) Mt t') := tpc HBS.out HTt25.out (fun b h => by omega) (fun b h0 h => by have g := HKAB.out _ h; omega)
  have HXn26 : Hid (BxN U26 zn Mn) := bxc HBS.out HXn25.out (fun h => by have g := HKAB.out _ h; omega)
  have HTn26 : Hid (TI U26 zn Mn t'.mirx) := tic HBS.out HTn25.out (by omega) (fun b h => by have g := HKAB.out _ h; omega)
  have HXd26 : Hid (BxN U26 zd Md) := bxc HBS.out HXd25.out (fun h => by have g := HKAB.out _ h; omega)
  have HTd26 : Hid (TO U26 Md t'.mirx Ad) := toc HBS.out HTd25.out (fun b h0 h => by have g0 := HAd.out b h0; have g := HKAB.out _ h; omega)
  have HB26 : Hid (Below x w U26) := blc HBS.out HB25.out (by omega) (fun b h => by have g := HKAB.out _ h; omega)
  have hsz26 : zl < U26.heap.size := Nat.lt_of_lt_of_le hsz25 HBS.out.size
  clear HB25 hsz25 HBS HXw25 HTw25 HXi25 HXa25 HTa25 HXc25 HTc25 HTi25 HXt25 HTt25 HXn25 HTn25 HXd25 HTd25
  clear HST HKE HKAB
  have HST := HSTn
  have HKE := HKEn
  have HKAB := HKABn
  clear HSTn HKEn HKABn
  have HC := own18 HST.out (by have := (mirx_in t).1; have := (mirx_in t').1; omega)
  go_upto_region 40 with (go_at_call 18; (with_reducible refine HC.mono ?_); rintro e U27 ⟨rfl, hb⟩; have HBS := hid hb; clear hb HC)
  have HXi27 : Hid (BxN U27 zi Mi) := bxc HBS.out HXi26.out (fun h => by obtain ⟨p, hp, h2⟩ := h; rcases HKE.out p _ hp h2 with h1 | h1 | h1 | h1 <;> first | omega | (have := HAa.out _ h1; omega) | (have := HAc.out _ h1; omega) | (have := HAd.out _ h1; omega))
  have HTi27 : Hid (TL U27 Mi t' Ai) := tlc HBS.out HTi26.out (fun b h0 h => by have g0 := HAi.out b h0; obtain ⟨p, hp, h2⟩ := h; rcases HKE.out p _ hp h2 with h1 | h1 | h1 | h1 <;> first | omega | (have := HAa.out _ h1; omega) | (have := HAc.out _ h1; omega) | (have := HAd.out _ h1; omega))
  have HXt27 : Hid (BxN U27 zt Mt) := bxc HBS.out HXt26.out (fun h => by obtain ⟨p, hp, h2⟩ := h; rcases HKE.out p _ hp h2 with h1 | h1 | h1 | h1 <;> first | omega | (have := HAa.out _ h1; omega) | (have := HAc.out _ h1; omega) | (have := HAd.out _ h1; omega))
  have HTt27 : Hid (TP U27 (fun b => zc < b ∧ b < zt) Mt t') := tpc HBS.out HTt26.out (fun b h => by omega) (fun b h0 h => by obtain ⟨p, hp, h2⟩ := h; rcases HKE.out p _ hp h2 with h1 | h1 | h1 | h1 <;> first | omega | (have := HAa.out _ h1; omega) | (have := HAc.out _ h1; omega) | (have := HAd.out _ h1; omega))
  have HB27 : Hid (Below x w U27) := blc HBS.out HB26.out (by omega) (fun b h => by obtain ⟨p, hp, h2⟩ := h; rcases HKE.out p _ hp h2 with h1 | h1 | h1 | h1 <;> first | omega | (have := HAa.out _ h1; omega) | (have := HAc.out _ h1; omega) | (have := HAd.out _ h1; omega))
  have hsz27 : zl < U27.heap.size := Nat.lt_of_lt_of_le hsz26 HBS.out.size
  clear HB26 hsz26 HBS HXw26 HTw26 HXi26 HXa26 HTa26 HXc26 HTc26 HTi26 HXt26 HTt26 HXn26 HTn26 HXd26 HTd26
  have HC := same13 (HTi27.out).ti (HTt27.out.ti (fun b hb => by omega))
  obtain ⟨ao0, ao1, ao2, ao3, ao4, ao5, ao6, ao7, ao8⟩ := nine' HXi27.out
  obtain ⟨bo0, bo1, bo2, bo3, bo4, bo5, bo6, bo7, bo8⟩ := nine' HXt27.out
  go_wp2_with (first | (go_at_call 13; (with_reducible refine HC.mono ?_); rintro e U99 ⟨rfl, hb⟩; have HBS := hid (Chs.of_below (A := No) hb); clear hb HC))
  go_ret
  refine ⟨rfl, ?_⟩
  rw [← HXE.out]
  exact blc HBS.out HB27.out (by omega) (fun b h => h.elim)
set_option maxRecDepth 100000 in
set_option maxHeartbeats 32000000 in
theorem turns3_deep1 {w : World} {N N2 : Nv} {t u : Tn} (h : TI w w.heap.size N t) (h2 : TI w w.heap.size N2 u) (hd : 4194304 < t.nodes) : Calls Try.prog 3 #[N.v, N2.v] w fun e w' => e = .returned (.bool true) ∧ Below w.heap.size w w' := by
  go_enter Try.func3, Try.ntmps3
  go_upto_region 1 with fail
  obtain ⟨U0, hU⟩ : ∃ U, U = (w.alloc (.cells #[.int .i64 N.k, .slice N.r1 N.r2 N.r3, .int .i64 N.a2, .slice N.s1 N.s2 N.s3, .int .i64 N.a4, .int .i64 N.a5, .bool N.a6, .int .i64 N.a7, .string N.a8] 25)).alloc (.cells #[.int .i64 N2.k, .slice N2.r1 N2.r2 N2.r3, .int .i64 N2.a2, .slice N2.s1 N2.s2 N2.s3, .int .i64 N2.a4, .int .i64 N2.a5, .bool N2.a6, .int .i64 N2.a7, .string N2.a8] 25) := ⟨_, rfl⟩
  rw [← hU]
  have HB0 : Hid (Below w.heap.size w U0) := by rw [hU]; exact below_two' w _ _
  have HXx0 : Hid (BxN U0 w.heap.size N) := by rw [hU]; exact (heap_alloc_old _ _ (by simp)).trans (heap_alloc_new w _)
  have HXy0 : Hid (BxN U0 (w.heap.size + 1) N2) := by rw [hU]; exact two_new w _ _ _
  have HTx0 : Hid (TI U0 w.heap.size N t) := h.kept (fun b hb => HB0.out.block b hb)
  have HTy0 : Hid (TI U0 w.heap.size N2 u) := h2.kept (fun b hb => HB0.out.block b hb)
  clear hU h h2
  obtain ⟨y, hy⟩ : ∃ y, y = w.heap.size + 1 := ⟨_, rfl⟩
  rw [← hy] at HXy0 ⊢
  obtain ⟨x, hx⟩ : ∃ x, x = w.heap.size := ⟨_, rfl⟩
  rw [← hx] at HB0 HXx0 HTx0 HTy0 hy ⊢
  have HXE := hid hx
  have hxy : x < y := by omega
  clear hx hy
  have hsz0 : y < U0.heap.size := lt_of_block HXy0.out
  have HC := deep10 (HTx0.out.le (by omega))
  rw [decide_eq_true hd] at HC
  obtain ⟨ao0, ao1, ao2, ao3, ao4, ao5, ao6, ao7, ao8⟩ := nine' HXx0.out
  go_upto_region 2 with (go_at_call 7; (with_reducible refine HC.mono ?_); rintro e U1 ⟨rfl, hb⟩; have HBS := hid (Chs.of_below (A := No) hb); clear hb HC)
  clear ao0 ao1 ao2 ao3 ao4 ao5 ao6 ao7 ao8
  have HXx1 : Hid (BxN U1 x N) := bxc HBS.out HXx0.out (fun h => h)
  have HXy1 : Hid (BxN U1 y N2) := bxc HBS.out HXy0.out (fun h => h)
  have HTx1 : Hid (TI U1 x N t) := tic HBS.out HTx0.out (by omega) (fun _ h => h.elim)
  have HTy1 : Hid (TI U1 x N2 u) := tic HBS.out HTy0.out (by omega) (fun _ h => h.elim)
  have HB1 : Hid (Below x w U1) := blc HBS.out HB0.out (by omega) (fun b h => by exact h.elim)
  have hsz1 : y < U1.heap.size := Nat.lt_of_lt_of_le hsz0 HBS.out.size
  clear HB0 hsz0 HBS HXx0 HXy0 HTx0 HTy0
  have HC := deep10 (HTy1.out.le (by omega))
  obtain ⟨ao0, ao1, ao2, ao3, ao4, ao5, ao6, ao7, ao8⟩ := nine' HXy1.out
  go_wp2_with (first | (go_at_call 7; (with_reducible refine HC.mono ?_); rintro e U99 ⟨rfl, hb⟩; have HBS := hid (Chs.of_below (A := No) hb); clear hb HC))
  go_ret
  refine ⟨rfl, ?_⟩
  rw [← HXE.out]
  exact blc HBS.out HB1.out (by omega) (fun b h => h.elim)
set_option maxRecDepth 100000 in
set_option maxHeartbeats 32000000 in
theorem turns3_deep2 {w : World} {N N2 : Nv} {t u : Tn} (h : TI w w.heap.size N t) (h2 : TI w w.heap.size N2 u) (hd : t.nodes ≤ 4194304) (hd2 : 4194304 < u.nodes) : Calls Try.prog 3 #[N.v, N2.v] w fun e w' => e = .returned (.bool true) ∧ Below w.heap.size w w' := by
  go_enter Try.func3, Try.ntmps3
  go_upto_region 1 with fail
  obtain ⟨U0, hU⟩ : ∃ U, U = (w.alloc (.cells #[.int .i64 N.k, .slice N.r1 N.r2 N.r3, .int .i64 N.a2, .slice N.s1 N.s2 N.s3, .int .i64 N.a4, .int .i64 N.a5, .bool N.a6, .int .i64 N.a7, .string N.a8] 25)).alloc (.cells #[.int .i64 N2.k, .slice N2.r1 N2.r2 N2.r3, .int .i64 N2.a2, .slice N2.s1 N2.s2 N2.s3, .int .i64 N2.a4, .int .i64 N2.a5, .bool N2.a6, .int .i64 N2.a7, .string N2.a8] 25) := ⟨_, rfl⟩
  rw [← hU]
  have HB0 : Hid (Below w.heap.size w U0) := by rw [hU]; exact below_two' w _ _
  have HXx0 : Hid (BxN U0 w.heap.size N) := by rw [hU]; exact (heap_alloc_old _ _ (by simp)).trans (heap_alloc_new w _)
  have HXy0 : Hid (BxN U0 (w.heap.size + 1) N2) := by rw [hU]; exact two_new w _ _ _
  have HTx0 : Hid (TI U0 w.heap.size N t) := h.kept (fun b hb => HB0.out.block b hb)
  have HTy0 : Hid (TI U0 w.heap.size N2 u) := h2.kept (fun b hb => HB0.out.block b hb)
  clear hU h h2
  obtain ⟨y, hy⟩ : ∃ y, y = w.heap.size + 1 := ⟨_, rfl⟩
  rw [← hy] at HXy0 ⊢
  obtain ⟨x, hx⟩ : ∃ x, x = w.heap.size := ⟨_, rfl⟩
  rw [← hx] at HB0 HXx0 HTx0 HTy0 hy ⊢
  have HXE := hid hx
  have hxy : x < y := by omega
  clear hx hy
  have hsz0 : y < U0.heap.size := lt_of_block HXy0.out
  have HC := deep10 (HTx0.out.le (by omega))
  rw [decide_eq_false (by omega)] at HC
  obtain ⟨ao0, ao1, ao2, ao3, ao4, ao5, ao6, ao7, ao8⟩ := nine' HXx0.out
  go_upto_region 2 with (go_at_call 7; (with_reducible refine HC.mono ?_); rintro e U1 ⟨rfl, hb⟩; have HBS := hid (Chs.of_below (A := No) hb); clear hb HC)
  clear ao0 ao1 ao2 ao3 ao4 ao5 ao6 ao7 ao8
  have HXx1 : Hid (BxN U1 x N) := bxc HBS.out HXx0.out (fun h => h)
  have HXy1 : Hid (BxN U1 y N2) := bxc HBS.out HXy0.out (fun h => h)
  have HTx1 : Hid (TI U1 x N t) := tic HBS.out HTx0.out (by omega) (fun _ h => h.elim)
  have HTy1 : Hid (TI U1 x N2 u) := tic HBS.out HTy0.out (by omega) (fun _ h => h.elim)
  have HB1 : Hid (Below x w U1) := blc HBS.out HB0.out (by omega) (fun b h => by exact h.elim)
  have hsz1 : y < U1.heap.size := Nat.lt_of_lt_of_le hsz0 HBS.out.size
  clear HB0 hsz0 HBS HXx0 HXy0 HTx0 HTy0
  have HC := deep10 (HTy1.out.le (by omega))
  rw [decide_eq_true hd2] at HC
  obtain ⟨ao0, ao1, ao2, ao3, ao4, ao5, ao6, ao7, ao8⟩ := nine' HXy1.out
  go_wp2_with (first | (go_at_call 7; (with_reducible refine HC.mono ?_); rintro e U99 ⟨rfl, hb⟩; have HBS := hid (Chs.of_below (A := No) hb); clear hb HC))
  go_ret
  refine ⟨rfl, ?_⟩
  rw [← HXE.out]
  exact blc HBS.out HB1.out (by omega) (fun b h => h.elim)
set_option maxRecDepth 100000 in
set_option maxHeartbeats 32000000 in
theorem turns3_great {w : World} {N N2 : Nv} {t u : Tn} (h : TI w w.heap.size N t) (h2 : TI w w.heap.size N2 u) (hd : t.nodes ≤ 4194304) (hd2 : u.nodes ≤ 4194304) (hg : 200000 < t.nodes) : Calls Try.prog 3 #[N.v, N2.v] w fun e w' => e = .returned (.bool true) ∧ Below w.heap.size w w' := by
  go_enter Try.func3, Try.ntmps3
  go_upto_region 1 with fail
  obtain ⟨U0, hU⟩ : ∃ U, U = (w.alloc (.cells #[.int .i64 N.k, .slice N.r1 N.r2 N.r3, .int .i64 N.a2, .slice N.s1 N.s2 N.s3, .int .i64 N.a4, .int .i64 N.a5, .bool N.a6, .int .i64 N.a7, .string N.a8] 25)).alloc (.cells #[.int .i64 N2.k, .slice N2.r1 N2.r2 N2.r3, .int .i64 N2.a2, .slice N2.s1 N2.s2 N2.s3, .int .i64 N2.a4, .int .i64 N2.a5, .bool N2.a6, .int .i64 N2.a7, .string N2.a8] 25) := ⟨_, rfl⟩
  rw [← hU]
  have HB0 : Hid (Below w.heap.size w U0) := by rw [hU]; exact below_two' w _ _
  have HXx0 : Hid (BxN U0 w.heap.size N) := by rw [hU]; exact (heap_alloc_old _ _ (by simp)).trans (heap_alloc_new w _)
  have HXy0 : Hid (BxN U0 (w.heap.size + 1) N2) := by rw [hU]; exact two_new w _ _ _
  have HTx0 : Hid (TI U0 w.heap.size N t) := h.kept (fun b hb => HB0.out.block b hb)
  have HTy0 : Hid (TI U0 w.heap.size N2 u) := h2.kept (fun b hb => HB0.out.block b hb)
  clear hU h h2
  obtain ⟨y, hy⟩ : ∃ y, y = w.heap.size + 1 := ⟨_, rfl⟩
  rw [← hy] at HXy0 ⊢
  obtain ⟨x, hx⟩ : ∃ x, x = w.heap.size := ⟨_, rfl⟩
  rw [← hx] at HB0 HXx0 HTx0 HTy0 hy ⊢
  have HXE := hid hx
  have hxy : x < y := by omega
  clear hx hy
  have hsz0 : y < U0.heap.size := lt_of_block HXy0.out
  have HC := deep10 (HTx0.out.le (by omega))
  rw [decide_eq_false (by omega)] at HC
  obtain ⟨ao0, ao1, ao2, ao3, ao4, ao5, ao6, ao7, ao8⟩ := nine' HXx0.out
  go_upto_region 2 with (go_at_call 7; (with_reducible refine HC.mono ?_); rintro e U1 ⟨rfl, hb⟩; have HBS := hid (Chs.of_below (A := No) hb); clear hb HC)
  clear ao0 ao1 ao2 ao3 ao4 ao5 ao6 ao7 ao8
  have HXx1 : Hid (BxN U1 x N) := bxc HBS.out HXx0.out (fun h => h)
  have HXy1 : Hid (BxN U1 y N2) := bxc HBS.out HXy0.out (fun h => h)
  have HTx1 : Hid (TI U1 x N t) := tic HBS.out HTx0.out (by omega) (fun _ h => h.elim)
  have HTy1 : Hid (TI U1 x N2 u) := tic HBS.out HTy0.out (by omega) (fun _ h => h.elim)
  have HB1 : Hid (Below x w U1) := blc HBS.out HB0.out (by omega) (fun b h => by exact h.elim)
  have hsz1 : y < U1.heap.size := Nat.lt_of_lt_of_le hsz0 HBS.out.size
  clear HB0 hsz0 HBS HXx0 HXy0 HTx0 HTy0
  have HC := deep10 (HTy1.out.le (by omega))
  rw [decide_eq_false (by omega)] at HC
  obtain ⟨ao0, ao1, ao2, ao3, ao4, ao5, ao6, ao7, ao8⟩ := nine' HXy1.out
  go_upto_region 5 with (go_at_call 7; (with_reducible refine HC.mono ?_); rintro e U2 ⟨rfl, hb⟩; have HBS := hid (Chs.of_below (A := No) hb); clear hb HC)
  clear ao0 ao1 ao2 ao3 ao4 ao5 ao6 ao7 ao8
  have HXx2 : Hid (BxN U2 x N) := bxc HBS.out HXx1.out (fun h => h)
  have HXy2 : Hid (BxN U2 y N2) := bxc HBS.out HXy1.out (fun h => h)
  have HTx2 : Hid (TI U2 x N t) := tic HBS.out HTx1.out (by omega) (fun _ h => h.elim)
  have HTy2 : Hid (TI U2 x N2 u) := tic HBS.out HTy1.out (by omega) (fun _ h => h.elim)
  have HB2 : Hid (Below x w U2) := blc HBS.out HB1.out (by omega) (fun b h => by exact h.elim)
  have hsz2 : y < U2.heap.size := Nat.lt_of_lt_of_le hsz1 HBS.out.size
  clear HB1 hsz1 HBS HXx1 HXy1 HTx1 HTy1
  have HC := awake8 U2
  go_upto_region 6 with (go_at_call 8; (with_reducible refine HC.mono ?_); rintro e U3 ⟨rfl, hb⟩; have HBS := hid (Chs.of_below (A := No) hb); clear hb HC)
  have HXx3 : Hid (BxN U3 x N) := bxc HBS.out HXx2.out (fun h => h)
  have HXy3 : Hid (BxN U3 y N2) := bxc HBS.out HXy2.out (fun h => h)
  have HTx3 : Hid (TI U3 x N t) := tic HBS.out HTx2.out (by omega) (fun _ h => h.elim)
  have HTy3 : Hid (TI U3 x N2 u) := tic HBS.out HTy2.out (by omega) (fun _ h => h.elim)
  have HB3 : Hid (Below x w U3) := blc HBS.out HB2.out (by omega) (fun b h => by exact h.elim)
  have hsz3 : y < U3.heap.size := Nat.lt_of_lt_of_le hsz2 HBS.out.size
  clear HB2 hsz2 HBS HXx2 HXy2 HTx2 HTy2
  have HC := great14 (HTx3.out.le (by omega))
  rw [decide_eq_true hg] at HC
  obtain ⟨ao0, ao1, ao2, ao3, ao4, ao5, ao6, ao7, ao8⟩ := nine' HXx3.out
  go_upto_region 8 with (go_at_call 9; (with_reducible refine HC.mono ?_); rintro e U4 ⟨rfl, hb⟩; have HBS := hid (Chs.of_below (A := No) hb); clear hb HC)
  clear ao0 ao1 ao2 ao3 ao4 ao5 ao6 ao7 ao8
  have HXx4 : Hid (BxN U4 x N) := bxc HBS.out HXx3.out (fun h => h)
  have HXy4 : Hid (BxN U4 y N2) := bxc HBS.out HXy3.out (fun h => h)
  have HTx4 : Hid (TI U4 x N t) := tic HBS.out HTx3.out (by omega) (fun _ h => h.elim)
  have HTy4 : Hid (TI U4 x N2 u) := tic HBS.out HTy3.out (by omega) (fun _ h => h.elim)
  have HB4 : Hid (Below x w U4) := blc HBS.out HB3.out (by omega) (fun b h => by exact h.elim)
  have hsz4 : y < U4.heap.size := Nat.lt_of_lt_of_le hsz3 HBS.out.size
  clear HB3 hsz3 HBS HXx3 HXy3 HTx3 HTy3
  have hns : t.sound = false := by
    cases hs : t.sound with
    | false => rfl
    | true => have := (sound_in hs).2; omega
  have HC := mirror10_no (HTx4.out.le (by omega)) hns
  obtain ⟨ao0, ao1, ao2, ao3, ao4, ao5, ao6, ao7, ao8⟩ := nine' HXx4.out
  go_wp2_with (first | (go_at_call 10; (with_reducible refine HC.mono ?_); rintro e U99 ⟨rfl, hb⟩; have HBW := hid hb; clear hb HC))
  go_ret
  refine ⟨rfl, ?_⟩
  rw [← HXE.out]
  exact (blc (A := No) (Chs.of_below HBW.out) HB4.out (by omega) (fun b h => h.elim)).alloc (by have := HBW.out.size; omega) _
theorem turns3 {w : World} {N N2 : Nv} {t u : Tn} (h : TI w w.heap.size N t) (h2 : TI w w.heap.size N2 u) (hsm : t.small = true) : Calls Try.prog 3 #[N.v, N2.v] w fun e w' => e = .returned (.bool true) ∧ Below w.heap.size w w' := by
  by_cases h3 : 4194304 < t.nodes
  · exact turns3_deep1 h h2 h3
  by_cases h4 : 4194304 < u.nodes
  · exact turns3_deep2 h h2 (by omega) h4
  by_cases h5 : 200000 < t.nodes
  · exact turns3_great h h2 (by omega) (by omega) h5
  by_cases h6 : 200000 < u.nodes
  · exact turns3_huge h h2 (by omega) (by omega) h6 hsm
  · exact turns3_small h h2 (by omega) (by omega) (by omega) hsm
end Go.Proofs.Ytilpkeipjlnogaa
