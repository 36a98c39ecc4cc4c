/- HELPERS: to begin a node: alternatives, a group. -/
import Derived.Test.YtnpocciioedgpaaBc
namespace Go.Proofs.Ytnpocciioedgpaa
open Go.RowKit
set_option linter.unusedVariables false
set_option linter.unusedSimpArgs false
set_option maxRecDepth 100000 in
set_option maxHeartbeats 2000000 in
theorem begin_alt (g K m sb s3 : Nat) (L : List Nat) (A : Six) (ns : Nat → Int) (Ws : Nat → Way) (FS : List Nat) (ND : Nat → Nd) (KD : Nat → Int) (N : Nd) (f : FuncId) (fi ca : Array Value) (w : World) (hO : O7 w g A (ns 0)) (hgF : g ∉ FS)
    (hFl : ∀ k ∈ FS, k < w.heap.size) (hsb : sb < w.heap.size) (hsg : sb ≠ g) (hm : m ≤ 1000000) (hcap : m ≤ s3) (hcells : ∀ i, i < m → C9 w sb i (ND i) (KD i)) (hN : N.s1 = some ⟨sb, 0, none⟩ ∧ N.s2 = m ∧ N.s3 = s3) (hn : 0 ≤ ns m ∧ ns m < 1000000000)
    (HB : ∀ i, i < m → ∀ w', Chg w w' [g] [g] → O7 w' g A (ns i) → Calls Try.prog 53 #[pt g, (ND i).v (KD i), .func (.func f) fi ca] w' fun e w'' => ∃ v F, e = .returned v ∧ Mk g K L w' w'' A (ns (i + 1)) v (Ws i) FS F) :
    Calls Try.prog 53 #[pt g, N.v 5, .func (.func f) fi ca] w fun e w' => ∃ v F, e = .returned v ∧ Mk g K L w w' A (ns m + 1) v (.once (ns m + 1) (.inOrder ((List.range m).map Ws))) FS F := by
  have hgl := (Array.getElem?_eq_some_iff.1 hO).1
  obtain ⟨h1, h2, h3, h4⟩ := three_new w (.cells #[pt g] 60) (N.o 5) (.cells #[.func (.func f) fi ca] 84)
  have hch : Chg w (((w.alloc (.cells #[pt g] 60)).alloc (N.o 5)).alloc (.cells #[.func (.func f) fi ca] 84)) [g] [g] := (((Chg.refl w [g]).alloc _).alloc _).alloc _
  obtain ⟨W, hW⟩ : ∃ W, W = (((w.alloc (.cells #[pt g] 60)).alloc (N.o 5)).alloc (.cells #[.func (.func f) fi ca] 84)) := ⟨_, rfl⟩
  rw [← hW] at h1 h2 h3 h4 hch
  have hsW : W.heap.size = w.heap.size + 1 + 1 + 1 := by rw [hW]; simp
  have HC := firstOf67 g K m sb s3 L A ns Ws FS ND KD f fi ca W.drew ((h4 g hgl).trans hO) hgF (fun k hk => by have := hFl k hk; show k < W.heap.size; omega) (by show sb < W.heap.size; omega) hsg hm hcap (fun i hi => (hcells i hi).kept (h4 sb hsb)) (fun i hi w' hc ho => HB i hi w' (hch.trans ((show Chg W W.drew [g] [g] from (Chg.refl W [g]).drew).trans hc)) ho)
  have x3 : W.cell? ⟨w.heap.size, 0, none⟩ = some (pt g) := bx0 h1
  have x5 : W.cell? ⟨w.heap.size + 1 + 1, 0, none⟩ = some (.func (.func f) fi ca) := bx0 h3
  have x43 : W.cell? ⟨w.heap.size + 1, 3, none⟩ = some (.slice (some ⟨sb, 0, none⟩) m s3) := by rw [← hN.1, ← hN.2.1, ← hN.2.2]; exact Joins.cell_of_block h2 3
  obtain ⟨z, hz⟩ : ∃ z, z = w.heap.size := ⟨_, rfl⟩
  have HCH := hid hch
  have HW := hid hW
  have HS := hid hsW
  have HHG := hid hgF
  have HZ := hid hz
  have HNN := hid hN
  clear hO hch h1 h2 h3 h4 hgF hsW HB hcells hFl hN
  go_enter Try.func53, Try.ntmps53
  go_wp2_with fail
  rw [← hW, ← hz]
  rw [← hz] at x3 x5 x43
  clear hW hz
  have hb1 : ∀ w1, Chg W.drew w1 [g] [g] → w1.cell? ⟨z, 0, none⟩ = some (pt g) ∧ w1.cell? ⟨z + 1, 3, none⟩ = some (.slice (some ⟨sb, 0, none⟩) m s3) ∧ w1.cell? ⟨z + 1 + 1, 0, none⟩ = some (.func (.func f) fi ca) := fun w1 hc1 => by
    have hz := HZ.out
    have hs := HS.out
    have e : ∀ k o, z ≤ k → k < z + 3 → w1.cell? ⟨k, o, none⟩ = W.cell? ⟨k, o, none⟩ := fun k o h1 h2 => cell_heap (hc1.block k (by show k < W.heap.size; omega) (by simp; omega)) o
    exact ⟨(e _ _ (by omega) (by omega)).trans x3, (e _ _ (by omega) (by omega)).trans x43, (e _ _ (by omega) (by omega)).trans x5⟩
  have HB1 := hid hb1
  clear hb1
  go_region_held2 (fun w' => w'.cell? ⟨z, 0, none⟩ = some (pt g) ∧ w'.cell? ⟨z + 1, 3, none⟩ = some (.slice (some ⟨sb, 0, none⟩) m s3) ∧ w'.cell? ⟨z + 1 + 1, 0, none⟩ = some (.func (.func f) fi ca))
    (first | exact ⟨x3, x43, x5⟩ | exact HB1.out _ HM1.out.chg | exact HB1.out _ (HM1.out.chg.trans HM2.out.chg))
    (first | (go_at_call 67; (with_reducible refine HC.mono ?_); rintro e w1 ⟨v1, F1, rfl, M1⟩; obtain ⟨f1, fi1, ca1, rfl⟩ := M1.rep.form; have HC2 := once54 g K L A (ns m) _ _ F1 w1 M1.ob M1.rep (M1.away HHG.out (by show g < W.heap.size; have := HS.out; omega)) hn; have HM1 := hid M1; clear M1 HC) | (go_at_call 54; (with_reducible refine HC2.mono ?_); rintro e w2 ⟨v2, F2, rfl, M2⟩; obtain ⟨f2, fi2, ca2, rfl⟩ := M2.rep.form; have HM2 := hid M2; clear M2 HC2))
  all_goals
    go_wp2
    go_ret
    refine ⟨_, F2, rfl, Mk.from (HCH.out.trans ?_) (HM1.out.trans HM2.out)⟩
    exact (Chg.refl W [g]).drew
/-- a node of whose two lists the one is below it: what is asked of it to begin -/
def Sub (g K : Nat) (L : List Nat) (A : Six) (n n1 : Int) (N : Nd) (k : Int) (B W : Way) (FX F0 : List Nat) (w : World) : Prop :=
  ∀ (w' : World) (v : Value) (F1 : List Nat), Chg w w' [g] [g] → O7 w' g A n → Rep g K L w' v B F1 → g ∉ F1 → (∀ k ∈ F1, k ∈ F0 ∨ w.heap.size ≤ k) →
    Calls Try.prog 53 #[pt g, N.v k, v] w' fun e w'' => ∃ u F, e = .returned u ∧ Mk g K L w' w'' A n1 u W (FX ++ F1) F
set_option maxRecDepth 100000 in
set_option maxHeartbeats 4000000 in
theorem begin_group (g K i sb s3 : Nat) (L : List Nat) (A : Six) (n n1 : Int) (N M : Nd) (km : Int) (B W1 : Way) (FX F0 : List Nat) (vb : Value) (w : World) (hO : O7 w g A n) (hR : Rep g K L w vb B F0) (hgF : g ∉ F0) (hgX : g ∉ FX) (hi : 2 * i + 1 < K) (hi2 : i ≤ 1000)
    (hN : N.s1 = some ⟨sb, 0, none⟩ ∧ N.s2 = 1 ∧ N.s3 = s3 ∧ N.a7 = (i : Int)) (hs3 : 1 ≤ s3) (hsb : sb < w.heap.size) (hsg : sb ≠ g) (hc : C9 w sb 0 M km) (hn1 : 0 ≤ n1 ∧ n1 < 1000000000) (HB : Sub g K L A n n1 M km (.noted (2 * i + 1) B) W1 FX F0 w) :
    Calls Try.prog 53 #[pt g, N.v 7, vb] w fun e w' => ∃ v F, e = .returned v ∧ Mk g K L w w' A (n1 + 1) v (.once (n1 + 1) (.noted (2 * i) W1)) (FX ++ F0) F := by
  obtain ⟨f, fi, ca, rfl⟩ := hR.form
  have hgl := (Array.getElem?_eq_some_iff.1 hO).1
  obtain ⟨h1, h2, h3, h4⟩ := three_new w (.cells #[pt g] 60) (N.o 7) (.cells #[.func (.func f) fi ca] 84)
  have hch : Chg w (((w.alloc (.cells #[pt g] 60)).alloc (N.o 7)).alloc (.cells #[.func (.func f) fi ca] 84)) [g] [g] := (((Chg.refl w [g]).alloc _).alloc _).alloc _
  obtain ⟨W, hW⟩ : ∃ W, W = (((w.alloc (.cells #[pt g] 60)).alloc (N.o 7)).alloc (.cells #[.func (.func f) fi ca] 84)) := ⟨_, rfl⟩
  rw [← hW] at h1 h2 h3 h4 hch
  have hsW : W.heap.size = w.heap.size + 1 + 1 + 1 := by rw [hW]; simp
  have hRW : Rep g K L W.drew (.func (.func f) fi ca) B F0 := (hR.kept fun k hk => hch.block k (hR.low k hk) (by simp; intro e; exact hgF (e ▸ hk))).kept fun k hk => rfl
  have HC := noted68 g K (2 * i + 1) L A n (.func (.func f) fi ca) B F0 W.drew ((h4 g hgl).trans hO) hRW hgF hi
  obtain ⟨q0, q1, q2, q3, q4, q5, q6, q7, q8⟩ := hc.kept (h4 sb hsb)
  simp only [Nat.zero_mul, Nat.zero_add] at q0 q1 q2 q3 q4 q5 q6 q7 q8
  have x3 : W.cell? ⟨w.heap.size, 0, none⟩ = some (pt g) := bx0 h1
  have x5 : W.cell? ⟨w.heap.size + 1 + 1, 0, none⟩ = some (.func (.func f) fi ca) := bx0 h3
  have x43 : W.cell? ⟨w.heap.size + 1, 3, none⟩ = some (.slice (some ⟨sb, 0, none⟩) 1 s3) := by have h := Joins.cell_of_block h2 3; simpa [hN.1, hN.2.1, hN.2.2.1] using h
  have x47 : W.cell? ⟨w.heap.size + 1, 7, none⟩ = some (.int .i64 (i : Int)) := by have h := Joins.cell_of_block h2 7; simpa [hN.2.2.2] using h
  have m1 : IntKind.i64.wrap (2 * (i : Int)) = 2 * (i : Int) := by simp [IntKind.wrap, IntKind.bits, IntKind.signed]; omega
  have m2 : IntKind.i64.wrap (2 * (i : Int) + 1) = 2 * (i : Int) + 1 := by simp [IntKind.wrap, IntKind.bits, IntKind.signed]; omega
  rw [show ((2 * i + 1 : Nat) : Int) = 2 * (i : Int) + 1 by omega] at HC
  obtain ⟨z, hz⟩ : ∃ z, z = w.heap.size := ⟨_, rfl⟩
  have hS : ∀ w1, Chg W w1 [g] [g] → w1.cell? ⟨w.heap.size, 0, none⟩ = some (pt g) ∧ w1.cell? ⟨w.heap.size + 1, 3, none⟩ = some (.slice (some ⟨sb, 0, none⟩) 1 s3) ∧ w1.cell? ⟨w.heap.size + 1, 7, none⟩ = some (.int .i64 (i : Int)) ∧ w1.cell? ⟨w.heap.size + 1 + 1, 0, none⟩ = some (.func (.func f) fi ca) ∧
      w1.cell? ⟨sb, 0, none⟩ = some (.int .i64 km) ∧ w1.cell? ⟨sb, 1, none⟩ = some (.slice M.r1 M.r2 M.r3) ∧ w1.cell? ⟨sb, 2, none⟩ = some (.int .i64 M.a2) ∧ w1.cell? ⟨sb, 3, none⟩ = some (.slice M.s1 M.s2 M.s3) ∧ w1.cell? ⟨sb, 4, none⟩ = some (.int .i64 M.a4) ∧ w1.cell? ⟨sb, 5, none⟩ = some (.int .i64 M.a5) ∧ w1.cell? ⟨sb, 6, none⟩ = some (.bool M.a6) ∧ w1.cell? ⟨sb, 7, none⟩ = some (.int .i64 M.a7) ∧ w1.cell? ⟨sb, 8, none⟩ = some (.string M.a8) := fun w1 hc1 => by
    have e : ∀ k o, k < W.heap.size → k ≠ g → w1.cell? ⟨k, o, none⟩ = W.cell? ⟨k, o, none⟩ := fun k o h1 h2 => cell_heap (hc1.block k h1 (by simpa using h2)) o
    exact ⟨(e _ _ (by omega) (by omega)).trans x3, (e _ _ (by omega) (by omega)).trans x43, (e _ _ (by omega) (by omega)).trans x47, (e _ _ (by omega) (by omega)).trans x5, (e _ _ (by omega) hsg).trans q0, (e _ _ (by omega) hsg).trans q1, (e _ _ (by omega) hsg).trans q2, (e _ _ (by omega) hsg).trans q3, (e _ _ (by omega) hsg).trans q4, (e _ _ (by omega) hsg).trans q5, (e _ _ (by omega) hsg).trans q6, (e _ _ (by omega) hsg).trans q7, (e _ _ (by omega) hsg).trans q8⟩
  have hd : Chg W W.drew [g] [g] := (Chg.refl W [g]).drew
  have HD := hid hd
  have HSS := hid hS
  have HCH := hid hch
  have HS := hid hsW
  have HHG := hid hgF
  have HHX := hid hgX
  have HBB := hid HB
  have hgW : g < W.heap.size := by omega
  clear hO hch h1 h2 h3 h4 hgF hsW HB hN hc hR hRW hS hd q0 q1 q2 q3 q4 q5 q6 q7 q8 x3 x5 x43 x47 hgX
  go_enter Try.func53, Try.ntmps53
  go_wp2_with fail
  rw [← hW, ← hz]
  rw [← hz] at HSS HS
  have HW := hid hW
  have HZ := hid hz
  clear hW hz
  go_region_held2 (fun w1 => w1.cell? ⟨z, 0, none⟩ = some (pt g) ∧ w1.cell? ⟨z + 1, 3, none⟩ = some (.slice (some ⟨sb, 0, none⟩) 1 s3) ∧ w1.cell? ⟨z + 1, 7, none⟩ = some (.int .i64 (i : Int)) ∧ w1.cell? ⟨z + 1 + 1, 0, none⟩ = some (.func (.func f) fi ca) ∧
      w1.cell? ⟨sb, 0, none⟩ = some (.int .i64 km) ∧ w1.cell? ⟨sb, 1, none⟩ = some (.slice M.r1 M.r2 M.r3) ∧ w1.cell? ⟨sb, 2, none⟩ = some (.int .i64 M.a2) ∧ w1.cell? ⟨sb, 3, none⟩ = some (.slice M.s1 M.s2 M.s3) ∧ w1.cell? ⟨sb, 4, none⟩ = some (.int .i64 M.a4) ∧ w1.cell? ⟨sb, 5, none⟩ = some (.int .i64 M.a5) ∧ w1.cell? ⟨sb, 6, none⟩ = some (.bool M.a6) ∧ w1.cell? ⟨sb, 7, none⟩ = some (.int .i64 M.a7) ∧ w1.cell? ⟨sb, 8, none⟩ = some (.string M.a8))
    (first | exact HSS.out _ HD.out | exact HSS.out _ (HD.out.trans HM1.out.chg) | exact HSS.out _ (HD.out.trans (HM1.out.chg.trans HM2.out.chg)))
    (first | (go_at_call 68; (with_reducible refine HC.mono ?_); rintro e w1 ⟨v1, F1, rfl, M1⟩; obtain ⟨f1, fi1, ca1, rfl⟩ := M1.rep.form; have HC2 := HBB.out w1 _ F1 (HCH.out.trans (HD.out.trans M1.chg)) M1.ob M1.rep (M1.away HHG.out hgW) (fun k hk => (M1.new k hk).imp_right (fun h => by have h : W.heap.size ≤ k := h; have := HS.out; have := HZ.out; omega)); have HM1 := hid M1; clear M1 HC) | (go_at_call 53; (with_reducible refine HC2.mono ?_); rintro e w2 ⟨v2, F2, rfl, M2⟩; obtain ⟨f2, fi2, ca2, rfl⟩ := M2.rep.form; have HM2 := hid M2; clear M2 HC2))
  all_goals
    have hg2 : g ∉ F2 := HM2.out.away (by simp; exact ⟨HHX.out, HM1.out.away HHG.out hgW⟩) (by have := HM1.out.chg.size; have h : W.heap.size ≤ w1.heap.size := this; omega)
    have HC3 := noted68 g K (2 * i) L A n1 _ _ F2 w2.drew HM2.out.ob (HM2.out.rep.kept fun k hk => rfl) hg2 (by omega)
    rw [show ((2 * i : Nat) : Int) = 2 * (i : Int) by omega] at HC3
    have hd2 : Chg w2 w2.drew [g] [g] := (Chg.refl w2 [g]).drew
    have HD2 := hid hd2
    have HG2 := hid hg2
    clear hd2 hg2
    go_wp2_with fail
    go_region_held2 (fun w1 => w1.cell? ⟨z, 0, none⟩ = some (pt g) ∧ w1.cell? ⟨z + 1, 7, none⟩ = some (.int .i64 (i : Int)))
      (first | exact ⟨(HSS.out _ (HD.out.trans (HM1.out.chg.trans (HM2.out.chg.trans HD2.out)))).1, (HSS.out _ (HD.out.trans (HM1.out.chg.trans (HM2.out.chg.trans HD2.out)))).2.2.1⟩ | exact ⟨(HSS.out _ (HD.out.trans (HM1.out.chg.trans (HM2.out.chg.trans (HD2.out.trans HM3.out.chg))))).1, (HSS.out _ (HD.out.trans (HM1.out.chg.trans (HM2.out.chg.trans (HD2.out.trans HM3.out.chg))))).2.2.1⟩ | exact ⟨(HSS.out _ (HD.out.trans (HM1.out.chg.trans (HM2.out.chg.trans (HD2.out.trans (HM3.out.chg.trans HM4.out.chg)))))).1, (HSS.out _ (HD.out.trans (HM1.out.chg.trans (HM2.out.chg.trans (HD2.out.trans (HM3.out.chg.trans HM4.out.chg)))))).2.2.1⟩)
      (first | (go_at_call 68; (with_reducible refine HC3.mono ?_); rintro e w3 ⟨v3, F3, rfl, M3⟩; obtain ⟨f3, fi3, ca3, rfl⟩ := M3.rep.form; have HC4 := once54 g K L A n1 _ _ F3 w3 M3.ob M3.rep (M3.away HG2.out (by have h : W.heap.size ≤ w1.heap.size := HM1.out.chg.size; have := HM2.out.chg.size; show g < w2.heap.size; omega)) hn1; have HM3 := hid M3; clear M3 HC3) | (go_at_call 54; (with_reducible refine HC4.mono ?_); rintro e w4 ⟨v4, F4, rfl, M4⟩; obtain ⟨f4, fi4, ca4, rfl⟩ := M4.rep.form; have HM4 := hid M4; clear M4 HC4))
    all_goals
      go_wp2
      go_ret
      refine ⟨_, F4, rfl, ⟨HM4.out.rep, HM4.out.ob, HCH.out.trans (HD.out.trans (HM1.out.chg.trans (HM2.out.chg.trans (HD2.out.trans (HM3.out.chg.trans HM4.out.chg))))), fun k hk => ?_⟩⟩
      have hz := HZ.out
      have hs := HS.out
      have sz1 : W.heap.size ≤ w1.heap.size := HM1.out.chg.size
      have sz2 := HM2.out.chg.size
      rcases (HM3.out.trans HM4.out).new k hk with h | h
      · rcases HM2.out.new k h with h | h
        · rcases List.mem_append.1 h with h | h
          · left; simp [h]
          · rcases HM1.out.new k h with h | h
            · left; simp [h]
            · right; have h : W.heap.size ≤ k := h; omega
        · right; omega
      · right; have h : w2.heap.size ≤ k := h; omega
end Go.Proofs.Ytnpocciioedgpaa
