/- HELPERS: to begin a node: nothing, a class. -/
import Derived.Test.YtnpocciioedgpaaBa
import Derived.Deep.Cut
import Derived.Deep.RegionHeld2
namespace Go.Proofs.Ytnpocciioedgpaa
open Go.RowKit
set_option linter.unusedVariables false
set_option linter.unusedSimpArgs false
/-- the other fields of a node -/
structure Nd where
  r1 : Option Addr
  r2 : Nat
  r3 : Nat
  a2 : Int
  s1 : Option Addr
  s2 : Nat
  s3 : Nat
  a4 : Int
  a5 : Int
  a6 : Bool
  a7 : Int
  a8 : ByteArray
abbrev Nd.v (N : Nd) (k : Int) : Value := .agg #[.int .i64 k, .slice N.r1 N.r2 N.r3, .int .i64 N.a2, .slice N.s1 N.s2 N.s3, .int .i64 N.a4, .int .i64 N.a5, .bool N.a6, .int .i64 N.a7, .string N.a8]
abbrev Nd.o (N : Nd) (k : Int) : Obj := .cells #[.int .i64 k, .slice N.r1 N.r2 N.r3, .int .i64 N.a2, .slice N.s1 N.s2 N.s3, .int .i64 N.a4, .int .i64 N.a5, .bool N.a6, .int .i64 N.a7, .string N.a8] 28
theorem Mk.from {g K : Nat} {L : List Nat} {w w1 w' : World} {A : Six} {n' : Int} {v : Value} {W : Way} {F0 F : List Nat} (hc : Chg w w1 [g] [g]) (h : Mk g K L w1 w' A n' v W F0 F) : Mk g K L w w' A n' v W F0 F :=
  ⟨h.rep, h.ob, hc.trans h.chg, fun k hk => by rcases h.new k hk with h | h; exact .inl h; right; have := hc.size; omega⟩
theorem Mk.away {g K : Nat} {L : List Nat} {w w' : World} {A : Six} {n' : Int} {v : Value} {W : Way} {F0 F : List Nat} (h : Mk g K L w w' A n' v W F0 F) (hg : g ∉ F0) (hl : g < w.heap.size) : g ∉ F := fun hm => by
  rcases h.new g hm with h | h
  · exact hg h
  · omega
theorem Mk.trans {g K : Nat} {L : List Nat} {w w1 w2 : World} {A : Six} {n1 n2 : Int} {v1 v2 : Value} {W1 W2 : Way} {F0 F1 F2 : List Nat} (h : Mk g K L w w1 A n1 v1 W1 F0 F1) (h2 : Mk g K L w1 w2 A n2 v2 W2 F1 F2) : Mk g K L w w2 A n2 v2 W2 F0 F2 :=
  ⟨h2.rep, h2.ob, h.chg.trans h2.chg, fun k hk => by
    rcases h2.new k hk with h3 | h3
    · exact h.new k h3
    · right; have := h.chg.size; omega⟩
set_option maxRecDepth 100000 in
set_option maxHeartbeats 2000000 in
theorem begin_empty (g K : Nat) (L : List Nat) (A : Six) (n : Int) (N : Nd) (vb : Value) (B : Way) (F0 : List Nat) (w : World) (hO : O7 w g A n) (hR : Rep g K L w vb B F0) (hgF : g ∉ F0) (hn : 0 ≤ n ∧ n < 1000000000) :
    Calls Try.prog 53 #[pt g, N.v 1, vb] w fun e w' => ∃ v F, e = .returned v ∧ Mk g K L w w' A (n + 1) v (.once (n + 1) B) F0 F := by
  obtain ⟨f, fi, ca, rfl⟩ := hR.form
  have hgl := (Array.getElem?_eq_some_iff.1 hO).1
  obtain ⟨h1, h2, h3, h4⟩ := three_new w (.cells #[pt g] 60) (N.o 1) (.cells #[.func (.func f) fi ca] 84)
  have hch : Chg w (((w.alloc (.cells #[pt g] 60)).alloc (N.o 1)).alloc (.cells #[.func (.func f) fi ca] 84)) [g] [g] := (((Chg.refl w [g]).alloc _).alloc _).alloc _
  have HC := once54 g K L A n (.func (.func f) fi ca) B F0 _ ((h4 g hgl).trans hO) (hR.kept fun k hk => hch.block k (hR.low k hk) (by simp; intro e; exact hgF (e ▸ hk))) hgF hn
  have HCH := hid hch
  clear hO hR hch h1 h2 h3 h4
  go_enter Try.func53, Try.ntmps53
  go_wp2_with (go_at_call 54; (with_reducible refine HC.mono ?_); rintro e w' ⟨v, F, rfl, M⟩; obtain ⟨f2, fi2, ca2, rfl⟩ := M.rep.form; have HM := hid M; clear M)
  go_ret
  exact ⟨_, F, rfl, HM.out.from HCH.out⟩
set_option maxRecDepth 100000 in
set_option maxHeartbeats 2000000 in
theorem begin_class (g K N0 : Nat) (L : List Nat) (A : Six) (n : Int) (N : Nd) (R : Rng) (vb : Value) (B : Way) (F0 : List Nat) (w : World) (hO : O7 w g A n) (hR : Rep g K L w vb B F0) (hgF : g ∉ F0) (hn : 0 ≤ n ∧ n < 1000000000)
    (hr : w.ownsRow N0 70 2 (.slice N.r1 N.r2 N.r3) R.length (fl R)) (hgr : ∀ k, (Value.slice N.r1 N.r2 N.r3).ownBlock = some k → k ≠ g) :
    Calls Try.prog 53 #[pt g, N.v 2, vb] w fun e w' => ∃ v F, e = .returned v ∧ Mk g K L w w' A (n + 1) v (.once (n + 1) (.runeOf R B)) ((Value.slice N.r1 N.r2 N.r3).ownBlock.toList ++ F0) F := by
  obtain ⟨f, fi, ca, rfl⟩ := hR.form
  have hgl := (Array.getElem?_eq_some_iff.1 hO).1
  obtain ⟨h1, h2, h3, h4⟩ := three_new w (.cells #[pt g] 60) (N.o 2) (.cells #[.func (.func f) fi ca] 84)
  have hch : Chg w (((w.alloc (.cells #[pt g] 60)).alloc (N.o 2)).alloc (.cells #[.func (.func f) fi ca] 84)) [g] [g] := (((Chg.refl w [g]).alloc _).alloc _).alloc _
  obtain ⟨W, hW⟩ : ∃ W, W = (((w.alloc (.cells #[pt g] 60)).alloc (N.o 2)).alloc (.cells #[.func (.func f) fi ca] 84)) := ⟨_, rfl⟩
  rw [← hW] at h1 h2 h3 h4 hch
  have HC := runeOf64 g K N0 L A n (.func (.func f) fi ca) (.slice N.r1 N.r2 N.r3) R B F0 W.drew ((h4 g hgl).trans hO) ((hR.kept fun k hk => hch.block k (hR.low k hk) (by simp; intro e; exact hgF (e ▸ hk))).kept fun k hk => rfl) hgF (row_kept hr fun b hb => h4 b (hr.lt b hb).2)
  have x3 : W.cell? ⟨w.heap.size, 0, none⟩ = some (pt g) := bx0 h1
  have x5 : W.cell? ⟨w.heap.size + 1 + 1, 0, none⟩ = some (.func (.func f) fi ca) := bx0 h3
  have x41 : W.cell? ⟨w.heap.size + 1, 1, none⟩ = some (.slice N.r1 N.r2 N.r3) := Joins.cell_of_block h2 1
  have hsW : W.heap.size = w.heap.size + 1 + 1 + 1 := by rw [hW]; simp
  obtain ⟨z, hz⟩ : ∃ z, z = w.heap.size := ⟨_, rfl⟩
  have HCH := hid hch
  have HW := hid hW
  have H1 := hid h1
  have HS := hid hsW
  have HG := hid hgr
  have HHG := hid hgF
  have HZ := hid hz
  clear hO hR hch h1 h2 h3 h4 hr hgF hgr hsW
  go_enter Try.func53, Try.ntmps53
  go_wp2_with fail
  rw [← hW, ← hz]
  rw [← hz] at x3 x5 x41
  clear hW hz
  have hb1 : ∀ w1, Chg W.drew w1 [g] [g] → w1.cell? ⟨z, 0, none⟩ = some (pt g) ∧ w1.cell? ⟨z + 1, 1, none⟩ = some (.slice N.r1 N.r2 N.r3) ∧ w1.cell? ⟨z + 1 + 1, 0, none⟩ = some (.func (.func f) fi ca) := fun w1 hc1 => by
    have hz := HZ.out
    have hs := HS.out
    have e : ∀ k o, z ≤ k → k < z + 3 → w1.cell? ⟨k, o, none⟩ = W.cell? ⟨k, o, none⟩ := fun k o h1 h2 => cell_heap (hc1.block k (by show k < W.heap.size; omega) (by simp; omega)) o
    exact ⟨(e _ _ (by omega) (by omega)).trans x3, (e _ _ (by omega) (by omega)).trans x41, (e _ _ (by omega) (by omega)).trans x5⟩
  have HB1 := hid hb1
  clear hb1
  go_region_held2 (fun w' => w'.cell? ⟨z, 0, none⟩ = some (pt g) ∧ w'.cell? ⟨z + 1, 1, none⟩ = some (.slice N.r1 N.r2 N.r3) ∧ w'.cell? ⟨z + 1 + 1, 0, none⟩ = some (.func (.func f) fi ca))
    (first | exact ⟨x3, x41, x5⟩ | exact HB1.out _ HM1.out.chg | exact HB1.out _ (HM1.out.chg.trans HM2.out.chg))
    (first | (go_at_call 64; (with_reducible refine HC.mono ?_); rintro e w1 ⟨v1, F1, rfl, M1⟩; obtain ⟨f1, fi1, ca1, rfl⟩ := M1.rep.form; have HC2 := once54 g K L A n _ _ F1 w1 M1.ob M1.rep (M1.away (by simp; exact ⟨fun e => HG.out g e rfl, HHG.out⟩) (by show g < W.heap.size; have := HS.out; omega)) hn; have HM1 := hid M1; clear M1 HC) | (go_at_call 54; (with_reducible refine HC2.mono ?_); rintro e w2 ⟨v2, F2, rfl, M2⟩; obtain ⟨f2, fi2, ca2, rfl⟩ := M2.rep.form; have HM2 := hid M2; clear M2 HC2))
  all_goals
    go_wp2
    go_ret
    refine ⟨_, F2, rfl, Mk.from (HCH.out.trans ?_) (HM1.out.trans HM2.out)⟩
    exact (Chg.refl W [g]).drew
end Go.Proofs.Ytnpocciioedgpaa
