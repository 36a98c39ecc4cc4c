/- HELPERS: to begin a node: a count without an upper bound, from 1 on. -/
import Derived.Test.YtnpocciioedgpaaBe
namespace Go.Proofs.Ytnpocciioedgpaa
open Go.RowKit
set_option linter.unusedVariables false
set_option linter.unusedSimpArgs false
theorem Sub.next {g K : Nat} {L : List Nat} {A : Six} {n n1 : Int} {N : Nd} {k : Int} {B W : Way} {FX F0 : List Nat} {w w1 : World} (h : Sub g K L A n n1 N k B W FX F0 w) (hc : Chg w w1 [g] [g]) : Sub g K L A n n1 N k B W FX F0 w1 :=
  fun w' v F1 h1 h2 h3 h4 h5 => h w' v F1 (hc.trans h1) h2 h3 h4 (fun k hk => (h5 k hk).imp_right fun h => Nat.le_trans hc.size h)
theorem node9 {w : World} {b : Nat} {N : Nd} {k : Int} (h : w.heap[b]? = some (.cells #[.int .i64 k, .slice N.r1 N.r2 N.r3, .int .i64 N.a2, .slice N.s1 N.s2 N.s3, .int .i64 N.a4, .int .i64 N.a5, .bool N.a6, .int .i64 N.a7, .string N.a8] 28 (0, 0))) :
    w.cell? ⟨b, 0, none⟩ = some (.int .i64 k) ∧ w.cell? ⟨b, 1, none⟩ = some (.slice N.r1 N.r2 N.r3) ∧ w.cell? ⟨b, 2, none⟩ = some (.int .i64 N.a2) ∧ w.cell? ⟨b, 3, none⟩ = some (.slice N.s1 N.s2 N.s3) ∧ w.cell? ⟨b, 4, none⟩ = some (.int .i64 N.a4) ∧ w.cell? ⟨b, 5, none⟩ = some (.int .i64 N.a5) ∧ w.cell? ⟨b, 6, none⟩ = some (.bool N.a6) ∧ w.cell? ⟨b, 7, none⟩ = some (.int .i64 N.a7) ∧ w.cell? ⟨b, 8, none⟩ = some (.string N.a8) :=
  ⟨Joins.cell_of_block h 0, Joins.cell_of_block h 1, Joins.cell_of_block h 2, Joins.cell_of_block h 3, Joins.cell_of_block h 4, Joins.cell_of_block h 5, Joins.cell_of_block h 6, Joins.cell_of_block h 7, Joins.cell_of_block h 8⟩
set_option maxRecDepth 100000 in
set_option maxHeartbeats 4000000 in
theorem repeat69 (g K sb s3 : Nat) (L : List Nat) (A : Six) (n n2 : Int) (N M : Nd) (km : Int) (B : Way) (W1 : Nat → Way) (FX F0 : List Nat) (vb : Value) (w : World) (hO : O7 w g A n) (hR : Rep g K L w vb B F0) (hgF : g ∉ F0) (hgX : g ∉ FX) (hX : ∀ k ∈ FX, k < w.heap.size) (hn : 0 ≤ n ∧ n < 1000000000)
    (hN : N.s1 = some ⟨sb, 0, none⟩ ∧ N.s2 = 1 ∧ N.s3 = s3 ∧ N.a6 = false ∧ N.a4 = 1) (hN5 : N.a5 = -1) (hs3 : 1 ≤ s3) (hsb : sb < w.heap.size) (hsg : sb ≠ g) (hc : C9 w sb 0 M km)
    (HB : ∀ b, w.heap.size ≤ b → Sub g K (b :: L) A (n + 1) n2 M km (.once (n + 1) (.inOrder [.again b, B])) (W1 b) FX F0 w) :
    Calls Try.prog 69 #[pt g, N.v 6, vb] w fun e w' => ∃ b v F, e = .returned v ∧ w.heap.size ≤ b ∧ Mk g K (b :: L) w w' A n2 v (W1 b) (FX ++ F0) F ∧ Bx w' b 84 v ∧ b ∉ F := by
  obtain ⟨f, fi, ca, rfl⟩ := hR.form
  have hgl := (Array.getElem?_eq_some_iff.1 hO).1
  have hch : Chg w (w.alloc (N.o 6)) [g] [g] := (Chg.refl w [g]).alloc _
  have HC := atLeast96 g K sb s3 L A n n2 N M km B W1 FX F0 (.func (.func f) fi ca) (w.alloc (N.o 6)) ((heap_alloc_old w _ hgl).trans hO) (hR.kept fun k hk => heap_alloc_old w _ (hR.low k hk)) hgF hgX (fun k hk => by have := hX k hk; simp; omega) hn hN hs3 (by simp; omega) hsg (hc.kept (heap_alloc_old w _ hsb)) (fun b hb => (HB b (by simp at hb; omega)).next hch)
  have HCH := hid hch
  have m1 : (N.a5 == -1) = true := by simp [hN5]
  have m2 : decide (N.a5 = -1) = true := by simp [hN5]
  clear hO hR hgF hgX hX hN hc HB hch hN5
  go_enter Try.func69, Try.ntmps69
  go_wp2_with (go_at_call 96; (with_reducible refine HC.mono ?_); rintro e w1 ⟨b, v, F, rfl, hb, hM, hx, hbF⟩; obtain ⟨f1, fi1, ca1, rfl⟩ := hM.rep.form; have HM := hid hM; have HX := hid hx; have HBF := hid hbF; have HBb := hid hb; clear hM hx hbF hb HC)
  go_ret
  exact ⟨b, _, F, rfl, by have := HBb.out; simp at this; omega, HM.out.from HCH.out, HX.out, HBF.out⟩
set_option maxRecDepth 100000 in
set_option maxHeartbeats 4000000 in
theorem begin_rep (g K sb s3 : Nat) (L : List Nat) (A : Six) (n n2 : Int) (N M : Nd) (km : Int) (B : Way) (W1 : Nat → Way) (FX F0 : List Nat) (vb : Value) (w : World) (hO : O7 w g A n) (hR : Rep g K L w vb B F0) (hgF : g ∉ F0) (hgX : g ∉ FX) (hX : ∀ k ∈ FX, k < w.heap.size) (hn : 0 ≤ n ∧ n < 1000000000)
    (hN : N.s1 = some ⟨sb, 0, none⟩ ∧ N.s2 = 1 ∧ N.s3 = s3 ∧ N.a6 = false ∧ N.a4 = 1) (hN5 : N.a5 = -1) (hs3 : 1 ≤ s3) (hsb : sb < w.heap.size) (hsg : sb ≠ g) (hc : C9 w sb 0 M km)
    (HB : ∀ b, w.heap.size ≤ b → Sub g K (b :: L) A (n + 1) n2 M km (.once (n + 1) (.inOrder [.again b, B])) (W1 b) FX F0 w) :
    Calls Try.prog 53 #[pt g, N.v 6, vb] w fun e w' => ∃ b v F, e = .returned v ∧ w.heap.size ≤ b ∧ Mk g K (b :: L) w w' A n2 v (W1 b) (FX ++ F0) F ∧ Bx w' b 84 v ∧ b ∉ F := by
  obtain ⟨f, fi, ca, rfl⟩ := hR.form
  have hgl := (Array.getElem?_eq_some_iff.1 hO).1
  obtain ⟨h1, h2, h3, h4⟩ := three_new w (.cells #[pt g] 60) (N.o 6) (.cells #[.func (.func f) fi ca] 84)
  have hch : Chg w (((w.alloc (.cells #[pt g] 60)).alloc (N.o 6)).alloc (.cells #[.func (.func f) fi ca] 84)) [g] [g] := (((Chg.refl w [g]).alloc _).alloc _).alloc _
  have hss : (((w.alloc (.cells #[pt g] 60)).alloc (N.o 6)).alloc (.cells #[.func (.func f) fi ca] 84)).heap.size = w.heap.size + 1 + 1 + 1 := by simp
  have HC := repeat69 g K sb s3 L A n n2 N M km B W1 FX F0 (.func (.func f) fi ca) _ ((h4 g hgl).trans hO) (hR.kept fun k hk => h4 k (hR.low k hk)) hgF hgX (fun k hk => by have := hX k hk; omega) hn hN hN5 hs3 (by omega) hsg (hc.kept (h4 sb hsb)) (fun b hb => (HB b (by omega)).next hch)
  have HCH := hid hch
  have HSS := hid hss
  clear hO hR hgF hgX hX hN hc HB hch hN5 h1 h2 h3 h4 hss
  go_enter Try.func53, Try.ntmps53
  go_wp2_with (go_at_call 69; (with_reducible refine HC.mono ?_); rintro e w1 ⟨b, v, F, rfl, hb, hM, hx, hbF⟩; obtain ⟨f1, fi1, ca1, rfl⟩ := hM.rep.form; have HM := hid hM; have HX := hid hx; have HBF := hid hbF; have HBb := hid hb; clear hM hx hbF hb HC)
  go_ret
  exact ⟨b, _, F, rfl, by have := HBb.out; have := HSS.out; omega, HM.out.from HCH.out, HX.out, HBF.out⟩
end Go.Proofs.Ytnpocciioedgpaa
