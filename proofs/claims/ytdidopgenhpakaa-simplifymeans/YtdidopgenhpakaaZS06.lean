/- HELPERS: ways that are as they should be. -/
import Derived.Test.YtdidopgenhpakaaZS05
import Derived.RangeFuncNested
import Derived.RangeFuncBound
import Derived.RangeFuncCalls
import Derived.RangeFuncLeaves
import Derived.Shelf.Abstract
import Derived.Shelf.RegionOpen
import Derived.WalkKit
import Derived.OwnWalkIn
import Derived.TacticsInMore
import Derived.LoopNIn
import Derived.LoopIn
/- HELPERS: to begin a node, with what is claimed of the ways: a count with an upper bound. -/
namespace Go.Proofs.Ytdidopgenhpakaa
open Go.RowKit
set_option linter.unusedVariables false
set_option linter.unusedSimpArgs false
/-- the cells that a count's node and the one below it have -/
def S69 (w : World) (z sb o s3 : Nat) (lz : Bool) (mn : Int) (M : Nd) (km : Int) : Prop := w.cell? ⟨z, 3, none⟩ = some (.slice (some ⟨sb, o, none⟩) 1 s3) ∧ w.cell? ⟨z, 4, none⟩ = some (.int .i64 mn) ∧ w.cell? ⟨z, 6, none⟩ = some (.bool lz) ∧ w.cell? ⟨sb, o, none⟩ = some (.int .i64 km) ∧ w.cell? ⟨sb, o + 1, none⟩ = some (.slice M.r1 M.r2 M.r3) ∧ w.cell? ⟨sb, o + 2, none⟩ = some (.int .i64 M.a2) ∧ w.cell? ⟨sb, o + 3, none⟩ = some (.slice M.s1 M.s2 M.s3) ∧ w.cell? ⟨sb, o + 4, none⟩ = some (.int .i64 M.a4) ∧ w.cell? ⟨sb, o + 5, none⟩ = some (.int .i64 M.a5) ∧ w.cell? ⟨sb, o + 6, none⟩ = some (.bool M.a6) ∧ w.cell? ⟨sb, o + 7, none⟩ = some (.int .i64 M.a7) ∧ w.cell? ⟨sb, o + 8, none⟩ = some (.string M.a8)
set_option maxRecDepth 100000 in
set_option maxHeartbeats 4000000 in
theorem repeatBJ69 (g K sb o s3 mn m : Nat) (lz : Bool) (A : Six) (N M : Nd) (km n0 : Int) (B : Way) (J J' TJ : Nat → Jd) (FX F0 FE : List Nat) (vb : Value) (w : World) (hO : O7 w g A n0) (hR : Rep g K AL w vb B F0) (hj0 : (J 0).p n0 B FE w) (hgF : g ∉ F0) (hgX : g ∉ FX) (hgE : g ∉ FE)
    (hN : N.s1 = some ⟨sb, o, none⟩ ∧ N.s2 = 1 ∧ N.s3 = s3 ∧ N.a6 = lz ∧ N.a4 = (mn : Int) ∧ N.a5 = (mn : Int) + (m : Int)) (hmn : mn ≤ 1000 ∧ m ≤ 1000) (hs3 : 1 ≤ s3) (hsb : sb < w.heap.size) (hsg : sb ≠ g) (hc : C9 w sb o 0 M km)
    (hns : ∀ i n W FE w, i < m → (J' i).p n W FE w → 0 ≤ n ∧ n < 1000000000) (hOs : ∀ i n W FE w, i < m → (J' i).p n W FE w → (J (i + 1)).p (n + 1) (.once (n + 1) (.inOrder (if lz = true then [B, W] else [W, B]))) FE w)
    (hB : ∀ i, i < m → StepJ g K A M km FX (FX ++ (F0 ++ FE)) w (J i) (J' i)) (ht : ∀ n W FE w, (J m).p n W FE w → (TJ 0).p n W FE w) (hT : ∀ i, i < mn → StepJ g K A M km FX (FX ++ (F0 ++ FE)) w (TJ i) (TJ (i + 1))) :
    Calls Try.prog 87 #[pt g, N.v 6, vb] w fun e w' => ∃ v F FE' n' W, e = .returned v ∧ Mj g K (TJ mn) w w' A n' v W (FX ++ (F0 ++ FE)) F FE' := by
  obtain ⟨f, fi, ca, rfl⟩ := hR.form
  have hgl := (Array.getElem?_eq_some_iff.1 hO).1
  obtain ⟨W, hW⟩ : ∃ W, W = w.alloc (N.o 6) := ⟨_, rfl⟩
  have hWs : W.heap.size = w.heap.size + 1 := by rw [hW]; simp
  have hWz : W.heap[w.heap.size]? = some (.cells #[.int .i64 6, .slice N.r1 N.r2 N.r3, .int .i64 N.a2, .slice N.s1 N.s2 N.s3, .int .i64 N.a4, .int .i64 N.a5, .bool N.a6, .int .i64 N.a7, .string N.a8] 25 (0, 0)) := by rw [hW]; exact heap_alloc_new w _
  have hWo : ∀ k, k < w.heap.size → W.heap[k]? = w.heap[k]? := fun k hk => by rw [hW]; exact heap_alloc_old w _ hk
  have hch : Chg w W [g] [g] := by rw [hW]; exact (Chg.refl w [g]).alloc _
  have hS : ∀ w1, Chg W w1 [g] [g] → S69 w1 w.heap.size sb o s3 lz (mn : Int) M km := fun w1 hc1 => by
    have e : ∀ k, k < W.heap.size → k ≠ g → w1.heap[k]? = W.heap[k]? := fun k h1 h2 => hc1.block k h1 (by simpa using h2)
    have hz := (e w.heap.size (by omega) (by omega)).trans hWz
    obtain ⟨q0, q1, q2, q3, q4, q5, q6, q7, q8⟩ := hc.kept ((e sb (by omega) hsg).trans (hWo sb hsb))
    simp only [Nat.zero_mul, Nat.add_zero] at q0 q1 q2 q3 q4 q5 q6 q7 q8
    refine ⟨?_, ?_, ?_, q0, q1, q2, q3, q4, q5, q6, q7, q8⟩
    · have h := Joins.cell_of_block hz 3
      simpa [hN.1, hN.2.1, hN.2.2.1] using h
    · have h := Joins.cell_of_block hz 4
      simpa [hN.2.2.2.2.1] using h
    · have h := Joins.cell_of_block hz 6
      simpa [hN.2.2.2.1] using h
  have x5 : W.cell? ⟨w.heap.size, 5, none⟩ = some (.int .i64 ((mn : Int) + (m : Int))) := by have h := Joins.cell_of_block hWz 5; simpa [hN.2.2.2.2.2] using h
  have hRk : ∀ w1, Chg W w1 [g] [g] → Rep g K AL w1 (.func (.func f) fi ca) B F0 := fun w1 hc1 => hR.kept fun k hk => (hch.trans hc1).block k (hR.low k hk) (by simp; intro e; exact hgF (e ▸ hk))
  have hM0 : Mj g K (J 0) W W A n0 (.func (.func f) fi ca) B (FX ++ (F0 ++ FE)) F0 FE := ⟨⟨hRk W (Chg.refl W [g]), (hWo g hgl).trans hO, Chg.refl W [g], fun k hk => .inl (by simp [hk])⟩, (J 0).stab hj0 hch.size (fun k hk => hWo k ((J 0).low hj0 k hk)), fun k hk => .inl (by simp [hk])⟩
  have hBW : ∀ i, i < m → StepJ g K A M km FX (FX ++ (F0 ++ FE)) W (J i) (J' i) := fun i hi => (hB i hi).next hch
  have hTW : ∀ i, i < mn → StepJ g K A M km FX (FX ++ (F0 ++ FE)) W (TJ i) (TJ (i + 1)) := fun i hi => (hT i hi).next hch
  have hgA : g ∉ FX ++ (F0 ++ FE) := by simp; exact ⟨hgX, hgF, hgE⟩
  have HGA := hid hgA
  have y4 := (hS W (Chg.refl W [g])).2.1
  have b5 : ((mn : Int) + (m : Int) == -1) = false := by simp; omega
  have b5' : decide ((mn : Int) + (m : Int) = -1) = false := by simp; omega
  have sb1 : IntKind.i64.wrap ((mn : Int) + (m : Int) - (mn : Int)) = (m : Int) := by simp [IntKind.wrap, IntKind.bits, IntKind.signed]; omega
  have m5 : (N.a5 == -1) = false := by rw [hN.2.2.2.2.2]; simp; omega
  have m5' : decide (N.a5 = -1) = false := by rw [hN.2.2.2.2.2]; simp; omega
  have HS := hid hS
  have HRK := hid hRk
  have HM0 := hid hM0
  have HBW := hid hBW
  have HTW := hid hTW
  have HCH := hid hch
  have HNS := hid hns
  have HOS := hid hOs
  have HTT := hid ht
  have HGF := hid hgF
  have HGX := hid hgX
  have HWS := hid hWs
  have hgW : g < W.heap.size := by omega
  clear hO hR hgF hgX hgE hgA hj0 hN hc hns hOs hB ht hT hWs hWz hWo hch hS hRk hM0 hBW hTW
  go_enter Try.func87, Try.ntmps87
  go_upto_region 4 with fail
  rw [← hW]
  obtain ⟨z, hz⟩ : ∃ z, z = w.heap.size := ⟨_, rfl⟩
  rw [← hz] at HS x5 y4 HWS ⊢
  have HW := hid hW
  have HZ := hid hz
  clear hW hz
  go_wp2_with fail
  go_loopw [7, 21] (fun u x wq => ∃ (i : Nat) (f' : FuncId) (fi' ca' : Array Value), u = .func (.func f') fi' ca' ∧ x = .int .i64 (i : Int) ∧ i ≤ m ∧ Hid (∃ F FE' n' W', Mj g K (J i) W wq A n' (.func (.func f') fi' ca') W' (FX ++ (F0 ++ FE)) F FE')) (fun _ x _ => m - (intOf x).toNat)
  case atStart => exact ⟨0, f, fi, ca, rfl, rfl, by omega, by exact ⟨F0, FE, n0, B, HM0.out⟩⟩
  case round =>
    obtain ⟨i, f', fi', ca', rfl, rfl, hi, HI⟩ := hrel
    by_cases hil : i < m
    · have b1 : decide ((i : Int) < (m : Int)) = true := by simp; omega
      have b2 : (i : Int) < (m : Int) := by omega
      obtain ⟨F, FE1, n1, W1, M1J⟩ := HI.out
      have M1 := M1J.m
      have hgM : g ∉ F := M1.away HGA.out hgW
      have hgM2 : g ∉ FE1 := M1J.awayE HGA.out hgW
      have hd : Chg wr wr.drew [g] [g] := (Chg.refl wr [g]).drew
      have HC := HBW.out i hil wr.drew _ n1 W1 F FE1 (M1.chg.trans hd) M1.ob (M1.rep.kept fun _ _ => rfl) hgM hgM2 M1.new M1J.newE ((J i).drew M1J.j)
      have HM1J := hid M1J
      have ad1 : IntKind.i64.wrap ((i : Int) + 1) = (i : Int) + 1 := by simp [IntKind.wrap, IntKind.bits, IntKind.signed]; omega
      have HM1 := hid M1
      have HD := hid hd
      clear M1 M1J HI hgM hgM2 hd
      go_wp2_with fail
      go_region_held2 (fun w1 => w1.cell? ⟨z, 3, none⟩ = some (.slice (some ⟨sb, o, none⟩) 1 s3) ∧ w1.cell? ⟨z, 4, none⟩ = some (.int .i64 (mn : Int)) ∧ w1.cell? ⟨z, 6, none⟩ = some (.bool lz) ∧ w1.cell? ⟨sb, o, none⟩ = some (.int .i64 km) ∧ w1.cell? ⟨sb, o + 1, none⟩ = some (.slice M.r1 M.r2 M.r3) ∧ w1.cell? ⟨sb, o + 2, none⟩ = some (.int .i64 M.a2) ∧ w1.cell? ⟨sb, o + 3, none⟩ = some (.slice M.s1 M.s2 M.s3) ∧ w1.cell? ⟨sb, o + 4, none⟩ = some (.int .i64 M.a4) ∧ w1.cell? ⟨sb, o + 5, none⟩ = some (.int .i64 M.a5) ∧ w1.cell? ⟨sb, o + 6, none⟩ = some (.bool M.a6) ∧ w1.cell? ⟨sb, o + 7, none⟩ = some (.int .i64 M.a7) ∧ w1.cell? ⟨sb, o + 8, none⟩ = some (.string M.a8))
        (first | exact HS.out _ (HM1.out.chg.trans HD.out) | exact HS.out _ (HM1.out.chg.trans (HD.out.trans HM2.out.chg)) | exact HS.out _ (HM1.out.chg.trans (HD.out.trans (HM2.out.chg.trans (Chg.of_below HB3.out)))) | exact HS.out _ (HM1.out.chg.trans (HD.out.trans (HM2.out.chg.trans ((Chg.of_below HB3.out).trans HM4.out.chg)))))
        (first | (go_at_call 57; (with_reducible refine HC.mono ?_); rintro e w2 ⟨v2, F2, FE2, n2, W2, rfl, M2, j2, hE2⟩; obtain ⟨f2, fi2, ca2, rfl⟩ := M2.rep.form; have HJ2 := hid j2; have HE2 := hid hE2; clear j2 hE2; have HC2 := choice_any g K AL lz _ _ _ _ F2 F0 w2 M2.rep (HRK.out w2 (HM1.out.chg.trans (HD.out.trans M2.chg))); have HM2 := hid M2; clear M2 HC) | (go_at_call 115; (with_reducible refine HC2.mono ?_); rintro e w3 ⟨v3, F3, rfl, hr3, hb3, hn3⟩; obtain ⟨f3, fi3, ca3, rfl⟩ := hr3.form; have hg3 : g ∉ F3 := (fun hm => by rcases hn3 g hm with h | h; (rcases List.mem_append.1 h with h | h; (exact HM2.out.away (by simp; exact ⟨HGX.out, HM1.out.away HGA.out hgW⟩) (by have := HM1.out.chg.size; show g < wr.heap.size; omega) h); exact HGF.out h); (have := HM1.out.chg.size; have h2 : wr.heap.size ≤ w2.heap.size := HM2.out.chg.size; omega)); have HC3 := once54 g K AL A n2 _ _ F3 w3 ((hb3.block g (by have := HM1.out.chg.size; have h2 : wr.heap.size ≤ w2.heap.size := HM2.out.chg.size; omega)).trans HM2.out.ob) hr3 hg3 (HNS.out i _ _ _ _ hil HJ2.out); have HB3 := hid hb3; have HN3 := hid hn3; clear hr3 hb3 hn3 hg3 HC2) | (go_at_call 58; (with_reducible refine HC3.mono ?_); rintro e w4 ⟨v4, F4, rfl, M4⟩; obtain ⟨f4, fi4, ca4, rfl⟩ := M4.rep.form; have HM4 := hid M4; clear M4 HC3))
      all_goals
        go_wp2
        refine ⟨⟨i + 1, f4, fi4, ca4, rfl, by push_cast; rfl, by omega, ?_⟩, by simp [intOf]; omega⟩
        have s1 := HM1.out.chg.size
        have s2 : wr.heap.size ≤ w2.heap.size := HM2.out.chg.size
        have s3' := HB3.out.size
        have hgE2 : g ∉ FE2 := fun hm => by
          rcases HE2.out g hm with h | h | h
          · exact HM1J.out.awayE HGA.out hgW h
          · rcases List.mem_append.1 h with h | h
            · exact HGX.out h
            · exact HM1.out.away HGA.out hgW h
          · have h : wr.heap.size ≤ g := h; omega
        have fX : ∀ k ∈ FX ++ F, k ∈ FX ++ (F0 ++ FE) ∨ W.heap.size ≤ k := fun k hk => by
          rcases List.mem_append.1 hk with h | h
          · left; simp [h]
          · exact HM1.out.new k h
        refine ⟨F4, FE2, n2 + 1, _, ⟨HM4.out.rep, HM4.out.ob, HM1.out.chg.trans (HD.out.trans (HM2.out.chg.trans ((Chg.of_below HB3.out).trans HM4.out.chg))), fun k hk => ?_⟩, HOS.out i _ _ _ _ hil ((J' i).chg ((J' i).below HJ2.out HB3.out) HM4.out.chg hgE2), fun k hk => ?_⟩
        · rcases HM4.out.new k hk with h | h
          · rcases HN3.out k h with h | h
            · rcases List.mem_append.1 h with h | h
              · rcases HM2.out.new k h with h | h
                · exact fX k h
                · right; have h : wr.heap.size ≤ k := h; omega
              · left; simp [h]
            · right; omega
          · right; omega
        · rcases HE2.out k hk with h | h | h
          · exact HM1J.out.newE k h
          · exact fX k h
          · right; have h : wr.heap.size ≤ k := h; omega
    · have b1 : decide ((i : Int) < (m : Int)) = false := by simp; omega
      obtain rfl : i = m := by omega
      obtain ⟨F, FE1, n1, W1, M1J⟩ := HI.out
      have M1 := M1J.m
      have hgM : g ∉ F := M1.away HGA.out hgW
      have hgM2 : g ∉ FE1 := M1J.awayE HGA.out hgW
      have hd : Chg wr wr.drew [g] [g] := (Chg.refl wr [g]).drew
      have HC := timesJ98 g K mn A M km n1 W1 TJ FX F FE1 _ wr.drew M1.ob (M1.rep.kept fun _ _ => rfl) ((TJ 0).drew (HTT.out _ _ _ _ M1J.j)) hgM HGX.out hgM2 (by omega) (fun j hj => (HTW.out j hj).widen (M1.chg.trans hd) (fun k hk => by
        rcases List.mem_append.1 hk with h | h
        · left; simp [h]
        · rcases List.mem_append.1 h with h | h
          · exact M1.new k h
          · exact M1J.newE k h))
      have HM1J := hid M1J
      have HM1 := hid M1
      have HD := hid hd
      clear M1 M1J HI hgM hgM2 hd
      go_wp2_with fail
      go_region_held2 (fun w1 => w1.cell? ⟨z, 3, none⟩ = some (.slice (some ⟨sb, o, none⟩) 1 s3) ∧ w1.cell? ⟨z, 4, none⟩ = some (.int .i64 (mn : Int)) ∧ w1.cell? ⟨z, 6, none⟩ = some (.bool lz) ∧ w1.cell? ⟨sb, o, none⟩ = some (.int .i64 km) ∧ w1.cell? ⟨sb, o + 1, none⟩ = some (.slice M.r1 M.r2 M.r3) ∧ w1.cell? ⟨sb, o + 2, none⟩ = some (.int .i64 M.a2) ∧ w1.cell? ⟨sb, o + 3, none⟩ = some (.slice M.s1 M.s2 M.s3) ∧ w1.cell? ⟨sb, o + 4, none⟩ = some (.int .i64 M.a4) ∧ w1.cell? ⟨sb, o + 5, none⟩ = some (.int .i64 M.a5) ∧ w1.cell? ⟨sb, o + 6, none⟩ = some (.bool M.a6) ∧ w1.cell? ⟨sb, o + 7, none⟩ = some (.int .i64 M.a7) ∧ w1.cell? ⟨sb, o + 8, none⟩ = some (.string M.a8))
        (first | exact HS.out _ (HM1.out.chg.trans HD.out) | exact HS.out _ (HM1.out.chg.trans (HD.out.trans HM2.out.chg)))
        (first | (go_at_call 116; (with_reducible refine HC.mono ?_); rintro e w2 ⟨v2, F2, FE2, n2, W2, rfl, M2J⟩; obtain ⟨f2, fi2, ca2, rfl⟩ := M2J.m.rep.form; have HM2 := hid M2J.m; have HM2J := hid M2J; clear M2J HC))
      all_goals
        go_wp2
        go_ret
        have s1 := HM1.out.chg.size
        have s0 := HCH.out.size
        have fX : ∀ k ∈ FX ++ (F ++ FE1), k ∈ FX ++ (F0 ++ FE) ∨ w.heap.size ≤ k := fun k hk => by
          rcases List.mem_append.1 hk with h | h
          · left; simp [h]
          · rcases List.mem_append.1 h with h | h
            · exact (HM1.out.new k h).imp_right (fun h => by omega)
            · exact (HM1J.out.newE k h).imp_right (fun h => by omega)
        refine ⟨_, F2, FE2, n2, W2, rfl, ⟨HM2.out.rep, HM2.out.ob, HCH.out.trans (HM1.out.chg.trans (HD.out.trans HM2.out.chg)), fun k hk => ?_⟩, HM2J.out.j, fun k hk => ?_⟩
        · rcases HM2.out.new k hk with h | h
          · exact fX k h
          · right; have h : wr.heap.size ≤ k := h; omega
        · rcases HM2J.out.newE k hk with h | h
          · exact fX k h
          · right; have h : wr.heap.size ≤ k := h; omega
end Go.Proofs.Ytdidopgenhpakaa
/- HELPERS: to begin a node, with what is claimed of the ways: a count without an upper bound. -/
namespace Go.Proofs.Ytdidopgenhpakaa
open Go.RowKit
set_option linter.unusedVariables false
set_option linter.unusedSimpArgs false
/-- what is decided about a loop -/
abbrev Dcd (lz : Bool) (n : Int) (b : Nat) (B : Way) : Way := .once (n + 1) (.inOrder (if lz = true then [B, .again b] else [.again b, B]))
set_option maxRecDepth 100000 in
set_option maxHeartbeats 4000000 in
theorem atLeastJ96 (g K sb o s3 mn : Nat) (lz : Bool) (A : Six) (n : Int) (N M : Nd) (km : Int) (B : Way) (JD J1 JR : Nat → Jd) (TJ : Nat → Nat → Jd) (JF : Jd) (FX F0 FE : List Nat) (vb : Value) (w : World) (hO : O7 w g A n) (hR : Rep g K AL w vb B F0) (hj0 : ∀ b, w.heap.size ≤ b → (JD b).p (n + 1) (Dcd lz n b B) FE w) (hgF : g ∉ F0) (hgX : g ∉ FX) (hgE : g ∉ FE) (hX : ∀ k ∈ FX, k < w.heap.size) (hn : 0 ≤ n ∧ n < 1000000000)
    (hN : N.s1 = some ⟨sb, o, none⟩ ∧ N.s2 = 1 ∧ N.s3 = s3 ∧ N.a6 = lz ∧ N.a4 = (mn : Int)) (hmn : mn ≤ 1000) (hs3 : 1 ≤ s3) (hsb : sb < w.heap.size) (hsg : sb ≠ g) (hc : C9 w sb o 0 M km)
    (HB : ∀ b, w.heap.size ≤ b → StepJ g K A M km FX (F0 ++ FE) w (JD b) (J1 b))
    (hset : ∀ (b : Nat) (n2 : Int) (W1 : Way) (v3 : Value) (F3 FE3 : List Nat) (w3 X : World), w.heap.size ≤ b → (J1 b).p n2 W1 FE3 w3 → b ∉ FE3 → X.heap.size = w3.heap.size → (∀ k, k ≠ b → X.heap[k]? = w3.heap[k]?) → Bx X b 84 v3 → Rep g K AL X v3 W1 F3 → b ∉ F3 → (JR b).p n2 W1 (b :: (F3 ++ FE3)) X)
    (hz : mn = 0 → ∀ b n2 W1 FE w', w.heap.size ≤ b → (JR b).p n2 W1 FE w' → JF.p n2 (Dcd lz n b B) FE w')
    (hT0 : 0 < mn → ∀ b n2 W1 FE w', w.heap.size ≤ b → (JR b).p n2 W1 FE w' → (TJ b 0).p n2 W1 FE w') (hT : ∀ b i, w.heap.size ≤ b → i < mn - 1 → StepJ g K A M km FX (FX ++ (F0 ++ FE)) w (TJ b i) (TJ b (i + 1))) (hTf : 0 < mn → ∀ b n2 W1 FE w', w.heap.size ≤ b → (TJ b (mn - 1)).p n2 W1 FE w' → JF.p n2 W1 FE w') :
    Calls Try.prog 114 #[pt g, N.v 6, vb] w fun e w' => ∃ v F FE' n' W', e = .returned v ∧ Mj g K JF w w' A n' v W' (FX ++ (F0 ++ FE)) F FE' := by
  obtain ⟨f, fi, ca, rfl⟩ := hR.form
  have hm := hmf
  have hgl := (Array.getElem?_eq_some_iff.1 hO).1
  obtain ⟨W, hW⟩ : ∃ W, W = (w.alloc (N.o 6)).alloc (.cells #[.nilFunc] 84) := ⟨_, rfl⟩
  obtain ⟨b, hb⟩ : ∃ b, b = w.heap.size + 1 := ⟨_, rfl⟩
  have sw1 : (w.alloc (N.o 6)).heap.size = w.heap.size + 1 := by simp
  have hsW : W.heap.size = w.heap.size + 1 + 1 := by rw [hW]; simp
  have hWz : W.heap[w.heap.size]? = some (.cells #[.int .i64 6, .slice N.r1 N.r2 N.r3, .int .i64 N.a2, .slice N.s1 N.s2 N.s3, .int .i64 N.a4, .int .i64 N.a5, .bool N.a6, .int .i64 N.a7, .string N.a8] 25 (0, 0)) := by
    rw [hW]; exact (heap_alloc_old _ _ (by omega)).trans (heap_alloc_new w _)
  have hWb : W.heap[b]? = some (.cells #[.nilFunc] 84 (0, 0)) := by rw [hW, hb, ← sw1]; exact heap_alloc_new _ _
  have hWo : ∀ k, k < w.heap.size → W.heap[k]? = w.heap[k]? := fun k hk => by rw [hW]; exact (heap_alloc_old _ _ (by omega)).trans (heap_alloc_old w _ hk)
  have hch : Chg w W [g] [g] := by rw [hW]; exact ((Chg.refl w [g]).alloc _).alloc _
  have hRW : Rep g K AL W (.func (.func f) fi ca) B F0 := hR.kept fun k hk => hWo k (hR.low k hk)
  have hlow : ∀ k ∈ F0, k < w.heap.size := hR.low
  have HC := choice_any g K AL lz (.func (.func 127) #[] #[pt b]) (.func (.func f) fi ca) (.again b) B [] F0 W (.again trivial) hRW
  have x6 : W.cell? ⟨w.heap.size, 6, none⟩ = some (.bool lz) := by have h := Joins.cell_of_block hWz 6; simpa [hN.2.2.2.1] using h
  have hS : ∀ w1, Chg W w1 [g] [g] → w1.cell? ⟨w.heap.size, 3, none⟩ = some (.slice (some ⟨sb, o, none⟩) 1 s3) ∧ w1.cell? ⟨w.heap.size, 4, none⟩ = some (.int .i64 (mn : Int)) ∧ C9 w1 sb o 0 M km ∧ w1.heap[b]? = some (.cells #[.nilFunc] 84 (0, 0)) := fun w1 hc1 => by
    have e : ∀ k, k < W.heap.size → k ≠ g → w1.heap[k]? = W.heap[k]? := fun k h1 h2 => hc1.block k h1 (by simpa using h2)
    refine ⟨?_, ?_, ?_, (e b (by omega) (by omega)).trans hWb⟩
    · have h := Joins.cell_of_block ((e w.heap.size (by omega) (by omega)).trans hWz) 3
      simpa [hN.1, hN.2.1, hN.2.2.1] using h
    · have h := Joins.cell_of_block ((e w.heap.size (by omega) (by omega)).trans hWz) 4
      simpa [hN.2.2.2.2] using h
    · exact hc.kept ((e sb (by omega) hsg).trans (hWo sb hsb))
  have HS0 := hid hS
  have HSZ := hid hsW
  have HCH := hid hch
  have HHG := hid hgF
  have HHX := hid hgX
  have HXL := hid hX
  have HLO := hid hlow
  have HOW := hid ((hWo g hgl).trans hO)
  have HBB := hid (HB b (by omega))
  have HJ0 := hid (hj0 b (by omega))
  have HHE := hid hgE
  have hEl : ∀ k ∈ FE, k < w.heap.size := (JD b).low (hj0 b (by omega))
  have HEL := hid hEl
  have HSET := hid hset
  have HHZ := hid hz
  have HT0 := hid hT0
  have HTT := hid hT
  have HTF := hid hTf
  clear hO hR hgF hgX hgE hX hlow hN hc HB hWz hWb hWo hch hRW hS hsW hj0 hEl hset hz hT0 hT hTf
  go_enter Try.func114, Try.ntmps114
  go_upto_region 3 with fail
  obtain ⟨z, hz⟩ : ∃ z, z = w.heap.size := ⟨_, rfl⟩
  rw [← hW]
  rw [← hz] at HS0 x6 hb HSZ ⊢
  rw [← hb]
  have HW := hid hW
  have HZ := hid hz
  have HB0 := hid hb
  clear hW hz hb sw1
  have hbz : b ≠ g := by have := HB0.out; have := HZ.out; omega
  go_upto_region 4 with (first | (go_at_call 115; (with_reducible refine HC.mono ?_); rintro e w1 ⟨v1, F1, rfl, hr1, hb1, hn1⟩; obtain ⟨f1, fi1, ca1, rfl⟩ := hr1.form; have hg1 : g ∉ F1 := (fun hm => by rcases hn1 g hm with h | h; exact HHG.out (by simpa using h); have := HSZ.out; have := HZ.out; omega); have HC2 := once54 g K AL A n _ _ F1 w1 ((hb1.block g (by have := HSZ.out; have := HZ.out; omega)).trans HOW.out) hr1 hg1 hn; have HBL := hid hb1; have HN1 := hid hn1; have HG1 := hid hg1; clear hr1 hb1 hn1 hg1 HC) | (go_at_call 58; (with_reducible refine HC2.mono ?_); rintro e w2 ⟨v2, F2, rfl, M2⟩; obtain ⟨f2, fi2, ca2, rfl⟩ := M2.rep.form; have HM2 := hid M2; clear M2 HC2))
  have hc2 : Chg W w2 [g] [g] := (Chg.of_below HBL.out).trans HM2.out.chg
  obtain ⟨y3, y4, y9, yb⟩ := HS0.out w2 hc2
  obtain ⟨q0, q1, q2, q3, q4, q5, q6, q7, q8⟩ := y9
  simp only [Nat.zero_mul, Nat.add_zero] at q0 q1 q2 q3 q4 q5 q6 q7 q8
  have hs1 := HBL.out.size
  have hs2 := HM2.out.chg.size
  have hnew2 : ∀ k ∈ F2, k ∈ F0 ∨ W.heap.size ≤ k := fun k hk => by
    rcases HM2.out.new k hk with h | h
    · rcases HN1.out k h with h | h
      · exact .inl (by simpa using h)
      · exact .inr h
    · right; omega
  have hg2 : g ∉ F2 := fun hm => by
    rcases hnew2 g hm with h | h
    · exact HHG.out h
    · have := HSZ.out; have := HZ.out; omega
  have HC3 := HBB.out w2 _ (n + 1) _ F2 FE (HCH.out.trans hc2) HM2.out.ob HM2.out.rep hg2 HHE.out (fun k hk => by rcases hnew2 k hk with h | h; (left; simp [h]); (right; have := HSZ.out; have := HZ.out; omega)) (fun k hk => .inl (by simp [hk])) ((JD b).chg HJ0.out (HCH.out.trans hc2) HHE.out)
  have HC2' := hid hc2
  have HN2 := hid hnew2
  have HG2 := hid hg2
  clear hc2 hnew2 hg2 yb
  have i0 : (0 : Int) < 1 := by decide
  go_upto_region 5 with (go_at_call 57; (with_reducible refine HC3.mono ?_); rintro e w3 ⟨v3, F3, FE3, n2, W1, rfl, M3, j3, hE3⟩; obtain ⟨f3, fi3, ca3, rfl⟩ := M3.rep.form; have HJ3 := hid j3; have HE3 := hid hE3; clear j3 hE3; have hb3 := (HS0.out w3 (HC2'.out.trans M3.chg)).2.2.2; have z0 : w3.cell? ⟨b, 0, none⟩ = some .nilFunc := bx0 hb3; have zf := Joins.unfrozen_of_block hb3 0; have HB3 := hid hb3; have HM3 := hid M3; clear M3 HC3 hb3)
  obtain ⟨X, hX⟩ : ∃ X, X = w3.setCell ⟨b, 0, none⟩ (.func (.func f3) fi3 ca3) := ⟨_, rfl⟩
  rw [← hX]
  have hc3 : Chg W w3 [g] [g] := HC2'.out.trans HM3.out.chg
  have hXb : Bx X b 84 (.func (.func f3) fi3 ca3) := by rw [hX]; exact Joins.block_setCell (i := 0) HB3.out _
  have hXo : ∀ k, k ≠ b → X.heap[k]? = w3.heap[k]? := fun k hk => by rw [hX]; exact Below.heap_setCell _ _ _ _ hk
  have hXs : X.heap.size = w3.heap.size := by rw [hX]; simp [World.setCell]
  have hcX : Chg w X [g] [g] := by rw [hX]; exact (HCH.out.trans hc3).setNew (a := ⟨b, 0, none⟩) _ (by show w.heap.size ≤ b; have := HB0.out; have := HZ.out; omega)
  have sb_ne : sb ≠ b := by have := HB0.out; have := HZ.out; omega
  have hz_ne : z ≠ b := by have := HB0.out; omega
  have hz_g : z ≠ g := by have := HZ.out; omega
  have hSX : ∀ w4 : World, (∀ k, k < X.heap.size → k ≠ g → w4.heap[k]? = X.heap[k]?) → w4.cell? ⟨z, 3, none⟩ = some (.slice (some ⟨sb, o, none⟩) 1 s3) ∧ w4.cell? ⟨z, 4, none⟩ = some (.int .i64 (mn : Int)) ∧ w4.cell? ⟨b, 0, none⟩ = some (.func (.func f3) fi3 ca3) ∧
      w4.cell? ⟨sb, o, none⟩ = some (.int .i64 km) ∧ w4.cell? ⟨sb, o + 1, none⟩ = some (.slice M.r1 M.r2 M.r3) ∧ w4.cell? ⟨sb, o + 2, none⟩ = some (.int .i64 M.a2) ∧ w4.cell? ⟨sb, o + 3, none⟩ = some (.slice M.s1 M.s2 M.s3) ∧ w4.cell? ⟨sb, o + 4, none⟩ = some (.int .i64 M.a4) ∧ w4.cell? ⟨sb, o + 5, none⟩ = some (.int .i64 M.a5) ∧ w4.cell? ⟨sb, o + 6, none⟩ = some (.bool M.a6) ∧ w4.cell? ⟨sb, o + 7, none⟩ = some (.int .i64 M.a7) ∧ w4.cell? ⟨sb, o + 8, none⟩ = some (.string M.a8) := fun w4 h4 => by
    obtain ⟨t3, t4, t9, _⟩ := HS0.out w3 hc3
    obtain ⟨p0, p1, p2, p3, p4, p5, p6, p7, p8⟩ := t9
    simp only [Nat.zero_mul, Nat.add_zero] at p0 p1 p2 p3 p4 p5 p6 p7 p8
    have hszb : b < X.heap.size := bx_lt hXb
    have hzb : z < X.heap.size := by have := HB0.out; omega
    have hsbx : sb < X.heap.size := by have := HZ.out; omega
    have e : ∀ k o, k < X.heap.size → k ≠ b → k ≠ g → w4.cell? ⟨k, o, none⟩ = w3.cell? ⟨k, o, none⟩ := fun k o h1 h2 h3 => cell_heap ((h4 k h1 h3).trans (hXo k h2)) o
    exact ⟨(e _ _ hzb hz_ne hz_g).trans t3, (e _ _ hzb hz_ne hz_g).trans t4, bx0 (t := 84) ((h4 b hszb hbz).trans hXb), (e _ _ hsbx sb_ne hsg).trans p0, (e _ _ hsbx sb_ne hsg).trans p1, (e _ _ hsbx sb_ne hsg).trans p2, (e _ _ hsbx sb_ne hsg).trans p3, (e _ _ hsbx sb_ne hsg).trans p4, (e _ _ hsbx sb_ne hsg).trans p5, (e _ _ hsbx sb_ne hsg).trans p6, (e _ _ hsbx sb_ne hsg).trans p7, (e _ _ hsbx sb_ne hsg).trans p8⟩
  have hzz := HZ.out
  have hbb := HB0.out
  have hss := HSZ.out
  have hs3' := HM3.out.chg.size
  have hF3 : ∀ k ∈ F3, k ∈ FX ++ (F0 ++ FE) ∨ W.heap.size ≤ k := fun k hk => by
    rcases HM3.out.new k hk with h | h
    · rcases List.mem_append.1 h with h | h
      · left; simp [h]
      · rcases HN2.out k h with h | h
        · left; simp [h]
        · exact .inr h
    · right; omega
  have hEE3 : ∀ k ∈ FE3, k ∈ FX ++ (F0 ++ FE) ∨ W.heap.size ≤ k := fun k hk => by
    rcases HE3.out k hk with h | h | h
    · left; simp [h]
    · rcases List.mem_append.1 h with h | h
      · left; simp [h]
      · rcases HN2.out k h with h | h
        · left; simp [h]
        · exact .inr h
    · right; omega
  have hold : ∀ k ∈ FX ++ (F0 ++ FE), k < w.heap.size := fun k hk => by
    rcases List.mem_append.1 hk with h | h
    · exact HXL.out k h
    · rcases List.mem_append.1 h with h | h
      · exact HLO.out k h
      · exact HEL.out k h
  have hbF : b ∉ F3 := fun hm => by
    rcases hF3 b hm with h | h
    · have := hold b h; omega
    · omega
  have hbE : b ∉ FE3 := fun hm => by
    rcases hEE3 b hm with h | h
    · have := hold b h; omega
    · omega
  have hgA : g ∉ FX ++ (F0 ++ FE) := by simp; exact ⟨HHX.out, HHG.out, HHE.out⟩
  have hgF3 : g ∉ F3 := fun hm => by
    rcases hF3 g hm with h | h
    · exact hgA h
    · omega
  have hgE3 : g ∉ FE3 := fun hm => by
    rcases hEE3 g hm with h | h
    · exact hgA h
    · omega
  have hwb : w.heap.size ≤ b := by omega
  have hRX : Rep g K AL X (.func (.func f3) fi3 ca3) W1 F3 := HM3.out.rep.kept fun k hk => hXo k (fun e => hbF (e ▸ hk))
  have hJR : (JR b).p n2 W1 (b :: (F3 ++ FE3)) X := HSET.out b n2 W1 _ F3 FE3 w3 X hwb HJ3.out hbE hXs hXo hXb hRX hbF
  have hOX : O7 X g A n2 := (hXo g (fun e => hbz e.symm)).trans HM3.out.ob
  have hbs : b < X.heap.size := bx_lt hXb
  have hnewR : ∀ k ∈ b :: (F3 ++ FE3), k ∈ FX ++ (F0 ++ FE) ∨ w.heap.size ≤ k := fun k hk => by
    simp only [List.mem_cons, List.mem_append] at hk
    rcases hk with rfl | hk | hk
    · right; omega
    · exact (hF3 k hk).imp_right (fun h => by omega)
    · exact (hEE3 k hk).imp_right (fun h => by omega)
  have hgR : g ∉ b :: (F3 ++ FE3) := by simp; exact ⟨fun e => hbz e.symm, hgF3, hgE3⟩
  have hF2X : Rep g K AL X (.func (.func f2) fi2 ca2) (Dcd lz n b B) F2 := HM2.out.rep.kept fun k hk => (hXo k (fun e => by
    rcases HN2.out k hk with h | h
    · have := HLO.out k h; omega
    · omega)).trans (HM3.out.chg.block k (HM2.out.rep.low k hk) (by simp; intro e; exact HG2.out (e ▸ hk)))
  have hF2n : ∀ k ∈ F2, k ∈ FX ++ (F0 ++ FE) ∨ w.heap.size ≤ k := fun k hk => by
    rcases HN2.out k hk with h | h
    · left; simp [h]
    · right; omega
  have w4 := (hSX X (fun _ _ _ => rfl)).2.1
  have HJR := hid hJR
  have HF2X := hid hF2X
  have HF2N := hid hF2n
  have HNR := hid hnewR
  have HXB := hid hXb
  have HXO := hid hXo
  have HCX := hid hcX
  have HSX := hid hSX
  have HX := hid hX
  have HOX := hid hOX
  have HRX := hid hRX
  have HGR := hid hgR
  have HGF3 := hid hgF3
  have HF3 := hid hF3
  clear hXb hXo hcX hSX hX y3 y4 q0 q1 q2 q3 q4 q5 q6 q7 q8 z0 zf hc3 hJR hF2X hF2n hnewR hOX hRX hgR hgF3 hgE3 hF3 hEE3 hold hgA hzz hbb hss
  by_cases hm0 : mn = 0
  · have m0 : ((mn : Int) == 0) = true := by simp; omega
    go_wp2
    go_ret
    have hfin : Mj g K JF w X A n2 (.func (.func f2) fi2 ca2) (Dcd lz n b B) (FX ++ (F0 ++ FE)) F2 (b :: (F3 ++ FE3)) := ⟨⟨HF2X.out, HOX.out, HCX.out, HF2N.out⟩, HHZ.out hm0 b n2 W1 _ X hwb HJR.out, HNR.out⟩
    first
      | exact ⟨_, _, _, _, _, rfl, hfin⟩
      | exact ⟨_, rfl, _, _, _, _, hfin⟩
  · have m0 : ((mn : Int) == 0) = false := by simp; omega
    have ad9 : IntKind.i64.wrap ((mn : Int) - 1) = ((mn - 1 : Nat) : Int) := by simp [IntKind.wrap, IntKind.bits, IntKind.signed]; omega
    have HT : Calls Try.prog 116 #[pt g, .int .i64 (IntKind.i64.wrap ((mn : Int) - 1)), M.v km, .func (.func f3) fi3 ca3] X.drew fun e w' => ∃ v F FE' n' W', e = .returned v ∧ Mj g K (TJ b (mn - 1)) X.drew w' A n' v W' (FX ++ (F3 ++ (b :: (F3 ++ FE3)))) F FE' := by
      rw [ad9]
      refine timesJ98 g K (mn - 1) A M km n2 W1 (TJ b) FX F3 (b :: (F3 ++ FE3)) _ X.drew HOX.out (HRX.out.kept fun _ _ => rfl) ((TJ b 0).drew (HT0.out (by omega) b n2 W1 _ X hwb HJR.out)) HGF3.out HHX.out HGR.out (by omega) (fun i hi => (HTT.out b i hwb hi).widen (HCX.out.trans (Chg.refl X [g]).drew) (fun k hk => ?_))
      rcases List.mem_append.1 hk with h | h
      · left; simp [h]
      · rcases List.mem_append.1 h with h | h
        · exact (HF3.out k h).imp_right (fun h => by have := HSZ.out; have := HZ.out; omega)
        · exact HNR.out k h
    clear ad9
    go_wp2_with fail
    go_region_held2 (fun w4 => w4.cell? ⟨z, 3, none⟩ = some (.slice (some ⟨sb, o, none⟩) 1 s3) ∧ w4.cell? ⟨z, 4, none⟩ = some (.int .i64 (mn : Int)) ∧ w4.cell? ⟨b, 0, none⟩ = some (.func (.func f3) fi3 ca3) ∧
        w4.cell? ⟨sb, o, none⟩ = some (.int .i64 km) ∧ w4.cell? ⟨sb, o + 1, none⟩ = some (.slice M.r1 M.r2 M.r3) ∧ w4.cell? ⟨sb, o + 2, none⟩ = some (.int .i64 M.a2) ∧ w4.cell? ⟨sb, o + 3, none⟩ = some (.slice M.s1 M.s2 M.s3) ∧ w4.cell? ⟨sb, o + 4, none⟩ = some (.int .i64 M.a4) ∧ w4.cell? ⟨sb, o + 5, none⟩ = some (.int .i64 M.a5) ∧ w4.cell? ⟨sb, o + 6, none⟩ = some (.bool M.a6) ∧ w4.cell? ⟨sb, o + 7, none⟩ = some (.int .i64 M.a7) ∧ w4.cell? ⟨sb, o + 8, none⟩ = some (.string M.a8))
      (first | exact HSX.out _ (fun _ _ _ => rfl) | exact HSX.out _ (fun k hk hkg => HM5.out.m.chg.block k hk (by simpa using hkg)))
      (first | (go_at_call 116; (with_reducible refine HT.mono ?_); rintro e w5 ⟨v5, F5, FE5, n5, W5, rfl, M5⟩; obtain ⟨f5, fi5, ca5, rfl⟩ := M5.m.rep.form; have HM5 := hid M5; clear M5 HT))
    all_goals
      go_wp2
      go_ret
      have hzz := HZ.out
      have hss := HSZ.out
      have sX : w.heap.size ≤ X.heap.size := HCX.out.size
      have fX : ∀ k ∈ FX ++ (F3 ++ (b :: (F3 ++ FE3))), k ∈ FX ++ (F0 ++ FE) ∨ w.heap.size ≤ k := fun k hk => by
        rcases List.mem_append.1 hk with h | h
        · left; simp [h]
        · rcases List.mem_append.1 h with h | h
          · exact (HF3.out k h).imp_right (fun h => by omega)
          · exact HNR.out k h
      have hfin : Mj g K JF w w5 A n5 (.func (.func f5) fi5 ca5) W5 (FX ++ (F0 ++ FE)) F5 FE5 := by
        refine ⟨⟨HM5.out.m.rep, HM5.out.m.ob, HCX.out.trans ((Chg.refl X [g]).drew.trans HM5.out.m.chg), fun k hk => ?_⟩, HTF.out (by omega) b n5 W5 _ w5 hwb HM5.out.j, fun k hk => ?_⟩
        · rcases HM5.out.m.new k hk with h | h
          · exact fX k h
          · right; have h : X.heap.size ≤ k := h; omega
        · rcases HM5.out.newE k hk with h | h
          · exact fX k h
          · right; have h : X.heap.size ≤ k := h; omega
      first
        | exact ⟨_, _, _, _, _, rfl, hfin⟩
        | exact ⟨_, rfl, _, _, _, _, hfin⟩
end Go.Proofs.Ytdidopgenhpakaa
/- HELPERS: to begin a node: a count, whichever. -/
namespace Go.Proofs.Ytdidopgenhpakaa
open Go.RowKit
set_option linter.unusedVariables false
set_option linter.unusedSimpArgs false
theorem Mj.from {g K : Nat} {J : Jd} {w w1 w' : World} {A : Six} {n : Int} {v : Value} {W : Way} {F0 F FE : List Nat} (hc : Chg w w1 [g] [g]) (h : Mj g K J w1 w' A n v W F0 F FE) : Mj g K J w w' A n v W F0 F FE :=
  ⟨h.m.from hc, h.j, fun k hk => (h.newE k hk).imp_right fun h => Nat.le_trans hc.size h⟩
set_option maxRecDepth 100000 in
set_option maxHeartbeats 4000000 in
theorem repeatA69 (g K : Nat) (A : Six) (N : Nd) (J : Jd) (FS : List Nat) (f : FuncId) (fi ca : Array Value) (w : World) (h5 : N.a5 = -1)
    (HC : Calls Try.prog 114 #[pt g, N.v 6, .func (.func f) fi ca] (w.alloc (N.o 6)) fun e w' => ∃ v F FE' n' W', e = .returned v ∧ Mj g K J (w.alloc (N.o 6)) w' A n' v W' FS F FE') :
    Calls Try.prog 87 #[pt g, N.v 6, .func (.func f) fi ca] w fun e w' => ∃ v F FE' n' W', e = .returned v ∧ Mj g K J w w' A n' v W' FS F FE' := by
  have hch : Chg w (w.alloc (N.o 6)) [g] [g] := (Chg.refl w [g]).alloc _
  have HCH := hid hch
  have m1 : (N.a5 == -1) = true := by simp [h5]
  have m2 : decide (N.a5 = -1) = true := by simp [h5]
  clear h5 hch
  go_enter Try.func87, Try.ntmps87
  go_wp2_with (go_at_call 114; (with_reducible refine HC.mono ?_); rintro e w1 ⟨v, F, FE', n', W', rfl, hM⟩; obtain ⟨f1, fi1, ca1, rfl⟩ := hM.m.rep.form; have HM := hid hM; clear hM HC)
  go_ret
  first
    | exact ⟨_, _, _, _, _, rfl, HM.out.from HCH.out⟩
    | exact ⟨_, rfl, _, _, _, _, HM.out.from HCH.out⟩
set_option maxRecDepth 100000 in
set_option maxHeartbeats 4000000 in
theorem beginR53 (g K : Nat) (A : Six) (N : Nd) (J : Jd) (FS : List Nat) (f : FuncId) (fi ca : Array Value) (w : World)
    (HC : Calls Try.prog 87 #[pt g, N.v 6, .func (.func f) fi ca] (((w.alloc (.cells #[pt g] 65)).alloc (N.o 6)).alloc (.cells #[.func (.func f) fi ca] 84)) fun e w' => ∃ v F FE' n' W', e = .returned v ∧ Mj g K J (((w.alloc (.cells #[pt g] 65)).alloc (N.o 6)).alloc (.cells #[.func (.func f) fi ca] 84)) w' A n' v W' FS F FE') :
    Calls Try.prog 57 #[pt g, N.v 6, .func (.func f) fi ca] w fun e w' => ∃ v F FE' n' W', e = .returned v ∧ Mj g K J w w' A n' v W' FS F FE' := by
  have hch : Chg w (((w.alloc (.cells #[pt g] 65)).alloc (N.o 6)).alloc (.cells #[.func (.func f) fi ca] 84)) [g] [g] := (((Chg.refl w [g]).alloc _).alloc _).alloc _
  have HCH := hid hch
  clear hch
  go_enter Try.func57, Try.ntmps57
  go_wp2_with (go_at_call 87; (with_reducible refine HC.mono ?_); rintro e w1 ⟨v, F, FE', n', W', rfl, hM⟩; obtain ⟨f1, fi1, ca1, rfl⟩ := hM.m.rep.form; have HM := hid hM; clear hM HC)
  go_ret
  first
    | exact ⟨_, _, _, _, _, rfl, HM.out.from HCH.out⟩
    | exact ⟨_, rfl, _, _, _, _, HM.out.from HCH.out⟩
end Go.Proofs.Ytdidopgenhpakaa
/- HELPERS: slices.Backward over nodes. -/
namespace Go.Proofs.Ytdidopgenhpakaa
open Go.RowKit Go.Shelf
set_option linter.unusedVariables false
set_option linter.unusedSimpArgs false
attribute [local go_sem] Oper.semAt_some
/-- what has come: the last ones, from the last on -/
def Dn (m : Nat) (pre : List (Fin m)) : Prop := pre.map (·.val) = (List.range pre.length).map (fun j => m - 1 - j)
theorem Dn.snoc {m : Nat} {pre : List (Fin m)} (h : Dn m pre) (x : Fin m) (hx : x.val = m - 1 - pre.length) : Dn m (pre ++ [x]) := by
  unfold Dn at *
  rw [List.map_append, List.length_append, h]
  simp [List.range_succ, hx]
/-- what the iterator reads stays -/
def Kp2 (Bs sb : Nat) (W W' : World) : Prop := ∀ k, k = Bs ∨ k = sb → W'.heap[k]? = W.heap[k]?
set_option maxRecDepth 100000 in
set_option maxHeartbeats 2000000 in
theorem back93 (n : Nat) (hn : 1 ≤ n) (l Bs sb o m cap : Nat) (hm : m ≤ 1000000) (hcap : m ≤ cap) (ND : Nat → Nd) (KD : Nat → Int) (J Jx : List (Fin m) → World → Prop)
    (hY : Hid (∀ pre x W, J pre W → pre.length < m → YieldAt Fence.wide (n - 1) Try.prog l #[.int .i64 (x.val : Int), (ND x.val).v (KD x.val)] W fun e W' =>
      (e = .returned (.bool true) ∧ J (pre ++ [x]) W' ∧ Kp2 Bs sb W W') ∨ (e = .returned (.bool false) ∧ Jx (pre ++ [x]) W')))
    (W : World) (hBs : Bx W Bs 23 (.slice (some ⟨sb, o, none⟩) m cap)) (hc : Hid (∀ i, i < m → C9 W sb o i (ND i) (KD i))) (h0 : J [] W) :
    CallsIn Fence.wide n Try.prog 111 #[.func (.yield l) #[] #[], pt Bs] W fun e W' => (∃ v, e = .returned v) ∧
      ((∃ ys, (ys.length = m ∧ Dn m ys) ∧ J ys W') ∨ (∃ pre, True ∧ Jx pre W')) := by
  have cB := bx0 hBs
  have HBs := hid hBs
  have sb1 : IntKind.i64.wrap ((m : Int) - 1) = (m : Int) - 1 := by simp [IntKind.wrap, IntKind.bits, IntKind.signed]; omega
  clear hBs
  refine callsIn_of_wp Try.func111 rfl trivial ?_ rfl
  simp only [Try.ntmps111, List.size_toArray, List.length_cons, List.length_nil, Nat.reduceAdd, Nat.reduceSub, Array.replicate_succ, Array.replicate_zero, List.push_toArray, List.append_toArray, List.nil_append, List.cons_append]
  gi_wp2
  gi_loopw [3] (fun i wr => ∃ (c : Nat) (pre : List (Fin m)), i = .int .i64 ((c : Int) - 1) ∧ c + pre.length = m ∧ Dn m pre ∧ J pre wr ∧ Hid (Kp2 Bs sb W wr))
    (fun i _ => (intOf i + 1).toNat)
  case atStart => exact ⟨m, [], rfl, by simp, rfl, h0, fun k _ => rfl⟩
  case round =>
    obtain ⟨c, pre, rfl, hcm, hD, hJ, hK⟩ := hrel
    have cB2 : wr.cell? ⟨Bs, 0, none⟩ = some (.slice (some ⟨sb, o, none⟩) m cap) := bx0 (t := 23) ((hK.out Bs (.inl rfl)).trans HBs.out)
    cases c with
    | zero =>
      simp only [Int.ofNat_eq_natCast, Int.natCast_zero, Int.zero_sub]
      gi_wp2
      go_end0
      exact ⟨⟨_, rfl⟩, .inl ⟨pre, ⟨by omega, hD⟩, hJ⟩⟩
    | succ j =>
      have hj : j < m := by omega
      obtain ⟨fn, tmps, assign, body, hy, hR⟩ := hY.out pre ⟨j, hj⟩ wr hJ (by omega)
      dsimp only at hy
      obtain ⟨n0, n1, n2, n3, n4, n5, n6, n7, n8⟩ := (hc.out j hj).kept (hK.out sb (.inr rfl))
      rw [show ((j + 1 : Nat) : Int) - 1 = (j : Int) by omega]
      have b1 : decide ((j : Int) ≥ 0) = true := by simp
      have b2 : (j : Int) < (m : Int) := by omega
      have b3 : decide ((j : Int) < (m : Int)) = true := by simp; omega
      have sj : IntKind.i64.wrap ((j : Int) - 1) = (j : Int) - 1 := by simp [IntKind.wrap, IntKind.bits, IntKind.signed]; omega
      gi_wp2
      refine hR.mono ?_
      rintro e W3 (⟨rfl, hJ3, hk3⟩ | ⟨rfl, hJx3⟩)
      · gi_wp2
        go_roundw
        case rel => exact ⟨j, pre ++ [⟨j, hj⟩], rfl, by simp; omega, hD.snoc _ (by show j = _; omega), hJ3, fun k hk => (hk3 k hk).trans (hK.out k hk)⟩
        case measure => simp [intOf]
      · gi_wp2
        refine bodyPost_ret (results_none rfl _ _ _) rfl ?_
        exact ⟨⟨_, rfl⟩, .inr ⟨_, trivial, hJx3⟩⟩
theorem back_stops (n : Nat) (hn : 1 ≤ n) (Bs sb o m cap : Nat) (hm : m ≤ 1000000) (hcap : m ≤ cap) (ND : Nat → Nd) (KD : Nat → Int) (w : World) (hBs : Bx w Bs 23 (.slice (some ⟨sb, o, none⟩) m cap)) (hsb : sb < w.heap.size) (hc : ∀ i, i < m → C9 w sb o i (ND i) (KD i)) :
    SeqStopsK Fence.wide n Try.prog 111 #[pt Bs] (fun x : Fin m => #[.int .i64 (x.val : Int), (ND x.val).v (KD x.val)]) (Kp2 Bs sb) (fun ys => ys.length = m ∧ Dn m ys) (fun _ => True) m w := fun l J Jx W hW _ _ hY h0 =>
  back93 n hn l Bs sb o m cap hm hcap ND KD J Jx hY W ((hW.block Bs (bx_lt hBs)).trans hBs) (fun i hi => (hc i hi).kept (hW.block sb hsb)) h0
set_option maxRecDepth 100000 in
set_option maxHeartbeats 1000000 in
theorem back66 (n : Nat) (a : Option Addr) (len cap : Nat) (w : World) :
    CallsIn Fence.wide n Try.prog 84 #[.slice a len cap] w fun e w' => e = .returned (.func (.func 111) #[] #[pt w.heap.size]) ∧ w' = w.alloc (.cells #[.slice a len cap] 23) := by
  refine callsIn_of_wp Try.func84 rfl trivial ?_ rfl
  simp only [Try.ntmps84, List.size_toArray, List.length_cons, List.length_nil, Nat.reduceAdd, Nat.reduceSub, Array.replicate_succ, Array.replicate_zero, List.push_toArray, List.append_toArray, List.nil_append, List.cons_append]
  gi_wp2
  go_ret
  exact ⟨rfl, rfl⟩
/-- the blocks of a way are cells -/
def IsC (w : World) (k : Nat) : Prop := ∃ c t x, w.heap[k]? = some (.cells c t x)
theorem row_isc {w : World} {base e size n : Nat} {v : Value} {xs : List Value} (h : w.ownsRow base e size v n xs) {b : Nat} (hb : v.ownBlock = some b) : IsC w b := by
  rcases h.2 with ⟨rfl, _⟩ | ⟨g, cap, cur, rfl, _, hgg, _⟩
  · cases hb
  · cases hb; exact ⟨_, _, _, hgg⟩
theorem cell_isc {w : World} {b o : Nat} {v : Value} (h : w.cell? ⟨b, o, none⟩ = some v) : IsC w b := by
  have hl : b < w.heap.size := World.block_lt_of_cell? _ _ h
  cases hb : w.heap[b]? with
  | none => simp [World.cell?, hb] at h
  | some ob =>
    cases ob with
    | cells c t x => exact ⟨c, t, x, hb⟩
    | _ => simp [World.cell?, hb] at h
theorem RowIn.isc {w : World} {v : Value} {R : Rng} {G : List Nat} (h : RowIn w v R G) : ∀ k ∈ G, IsC w k := by
  rcases h with ⟨_, _, _, _, rfl⟩ | ⟨b, off, cap, h1, h2, rfl, h3, h4⟩
  · intro k hk; cases hk
  · intro k hk
    simp at hk
    subst hk
    exact cell_isc (h3 0 h2)
mutual
theorem Rep.isc {g K : Nat} {L : Nat → Prop} {w : World} {v : Value} {d : Way} {F : List Nat} (h : Rep g K L w v d F) : ∀ k ∈ F, IsC w k := by
  cases h with
  | through => intro k hk; cases hk
  | once h5 h2 h3 hn hd =>
    intro k hk
    simp only [List.mem_cons] at hk
    rcases hk with rfl | rfl | rfl | hk
    · exact ⟨_, _, _, h5⟩
    · exact ⟨_, _, _, h2⟩
    · exact ⟨_, _, _, h3⟩
    · exact hd.isc k hk
  | noted h3 h4 h5 hc hd =>
    intro k hk
    simp only [List.mem_cons] at hk
    rcases hk with rfl | rfl | rfl | hk
    · exact ⟨_, _, _, h3⟩
    · exact ⟨_, _, _, h4⟩
    · exact ⟨_, _, _, h5⟩
    · exact hd.isc k hk
  | runeOf h3 h4 h5 hr hd =>
    intro k hk
    simp only [List.mem_cons, List.mem_append] at hk
    rcases hk with rfl | rfl | rfl | hk | hk
    · exact ⟨_, _, _, h3⟩
    · exact ⟨_, _, _, h4⟩
    · exact ⟨_, _, _, h5⟩
    · exact hr.isc k hk
    · exact hd.isc k hk
  | ifHolds h4 h3 h5 hd =>
    intro k hk
    simp only [List.mem_cons] at hk
    rcases hk with rfl | rfl | rfl | hk
    · exact ⟨_, _, _, h4⟩
    · exact ⟨_, _, _, h3⟩
    · exact ⟨_, _, _, h5⟩
    · exact hd.isc k hk
  | inOrder h1 hs hl =>
    intro k hk
    simp only [List.mem_cons, List.mem_append, Option.mem_toList] at hk
    rcases hk with rfl | hk | hk
    · exact ⟨_, _, _, h1⟩
    · exact row_isc hs hk
    · exact hl.isc k hk
  | again hb => intro k hk; cases hk
theorem Reps.isc {g K : Nat} {L : Nat → Prop} {w : World} {v : List Value} {d : List Way} {F : List Nat} (h : Reps g K L w v d F) : ∀ k ∈ F, IsC w k := by
  cases h with
  | nil => intro k hk; cases hk
  | cons h hs =>
    intro k hk
    rcases List.mem_append.1 hk with hk | hk
    · exact h.isc k hk
    · exact hs.isc k hk
end
end Go.Proofs.Ytdidopgenhpakaa
/- HELPERS: to begin a node, with what is claimed of the ways: one behind another. -/
namespace Go.Proofs.Ytdidopgenhpakaa
open Go.RowKit Go.Shelf
set_option linter.unusedVariables false
set_option linter.unusedSimpArgs false
attribute [local go_sem] Oper.semAt_some
/-- between two rounds -/
structure CI {m : Nat} (g K : Nat) (A : Six) (JP : List (Fin m) → Jd) (FS : List Nat) (z : Nat) (sv : Value) (w : World) (n : Int) (v : Value) (W' : Way) (F FE : List Nat) (pre : List (Fin m)) (W : World) : Prop where
  box : Bx W (z + 1 + 1) 84 v
  mj : Mj g K (JP pre) w W A n v W' FS F FE
  out : ∀ k ∈ F, k ∈ FS ∨ z + 1 + 1 + 1 + 1 ≤ k
  outE : ∀ k ∈ FE, k ∈ FS ∨ z + 1 + 1 + 1 + 1 ≤ k
  me : Bx W z 65 (pt g)
  sl : Bx W (z + 1 + 1 + 1) 23 sv
theorem CI.own {m : Nat} {g K : Nat} {A : Six} {JP : List (Fin m) → Jd} {FS : List Nat} {z : Nat} {sv : Value} {w : World} (hz : z = w.heap.size) (hg : g < z) (hisc : ∀ pre n W FE w, (JP pre).p n W FE w → ∀ k ∈ FE, IsC w k) :
    OwnFrom (z + 1 + 1 + 1 + 1) (fun (pre : List (Fin m)) W => ∃ n v W' F FE, CI g K A JP FS z sv w n v W' F FE pre W) := by
  rintro pre W W' row ⟨n, v, Wy, F, FE, h⟩ hgr hr
  have keep : ∀ k, k < W.heap.size → (k < z + 4 ∨ IsC W k) → W'.heap[k]? = W.heap[k]? := fun k hk h2 => hgr.block k hk (fun e => by
    obtain ⟨h3, o, ho, hc⟩ := hr k e.symm
    rcases h2 with h2 | ⟨c, t, x, h2⟩
    · omega
    · rw [h2] at ho; cases ho; cases hc)
  have bk : ∀ {b : Nat} {t : TypeId} {u : Value}, Bx W b t u → Bx W' b t u := fun hb => (keep _ (bx_lt hb) (.inr ⟨_, _, _, hb⟩)).trans hb
  have hM := h.mj.m
  refine ⟨n, v, Wy, F, FE, bk h.box, ⟨⟨hM.rep.kept fun k hk => keep k (hM.rep.low k hk) (.inr (hM.rep.isc k hk)), (keep g (Array.getElem?_eq_some_iff.1 hM.ob).1 (.inl (by omega))).trans hM.ob, ?_, hM.new⟩, (JP pre).stab h.mj.j hgr.size fun k hk => keep k ((JP pre).low h.mj.j k hk) (.inr (hisc _ _ _ _ _ h.mj.j k hk)), h.mj.newE⟩, h.out, h.outE, bk h.me, bk h.sl⟩
  exact ⟨hgr.os.trans hM.chg.os, hgr.tape.trans hM.chg.tape, hgr.output.trans hM.chg.output, Nat.le_trans hM.chg.size hgr.size, fun k hk hn => (keep k (Nat.lt_of_lt_of_le hk hM.chg.size) (.inl (by omega))).trans (hM.chg.block k hk hn), hM.chg.new⟩
set_option maxRecDepth 100000 in
set_option maxHeartbeats 4000000 in
theorem catJ (g K m sb o s3 : Nat) (A : Six) (n : Int) (JP : List (Fin m) → Jd) (FX F0 FE0 : List Nat) (ND : Nat → Nd) (KD : Nat → Int) (N : Nd) (vb : Value) (B : Way) (w : World) (hO : O7 w g A n) (hR : Rep g K AL w vb B F0) (hj0 : (JP []).p n B FE0 w) (hisc : ∀ pre n W FE w, (JP pre).p n W FE w → ∀ k ∈ FE, IsC w k) (hgF : g ∉ F0) (hgX : g ∉ FX) (hgE : g ∉ FE0)
    (hFX : ∀ k ∈ FX, k < w.heap.size) (hsb : sb < w.heap.size) (hsg : sb ≠ g) (hm : m ≤ 1000000) (hcap : m ≤ s3) (hcells : ∀ i, i < m → C9 w sb o i (ND i) (KD i)) (hN : N.s1 = some ⟨sb, o, none⟩ ∧ N.s2 = m ∧ N.s3 = s3)
    (HB : ∀ (pre : List (Fin m)) (x : Fin m), pre.length < m → StepJ g K A (ND x.val) (KD x.val) FX (FX ++ (F0 ++ FE0)) w (JP pre) (JP (pre ++ [x]))) :
    Calls Try.prog 57 #[pt g, N.v 4, vb] w fun e w' => ∃ v F FE n' W', ∃ ys : List (Fin m), (ys.length = m ∧ Dn m ys) ∧ e = .returned v ∧ Mj g K (JP ys) w w' A n' v W' (FX ++ (F0 ++ FE0)) F FE := by
  obtain ⟨f, fi, ca, rfl⟩ := hR.form
  have hgl := (Array.getElem?_eq_some_iff.1 hO).1
  obtain ⟨r1, r2, r3, a2, s1, s2, t3, a4, a5, a6, a7, a8⟩ := N
  obtain ⟨e1, e2, e3⟩ := hN
  dsimp only at e1 e2 e3
  have e2' := e2.symm
  have e3' := e3.symm
  subst e1 e2' e3'
  clear e2 e3
  obtain ⟨N, hNN⟩ : ∃ N : Nd, N = ⟨r1, r2, r3, a2, some ⟨sb, o, none⟩, m, s3, a4, a5, a6, a7, a8⟩ := ⟨_, rfl⟩
  obtain ⟨h1, h2, h3, h4⟩ := three_new w (.cells #[pt g] 65) (Nd.o ⟨r1, r2, r3, a2, some ⟨sb, o, none⟩, m, s3, a4, a5, a6, a7, a8⟩ 4) (.cells #[.func (.func f) fi ca] 84)
  have hch : Chg w (((w.alloc (.cells #[pt g] 65)).alloc (Nd.o ⟨r1, r2, r3, a2, some ⟨sb, o, none⟩, m, s3, a4, a5, a6, a7, a8⟩ 4)).alloc (.cells #[.func (.func f) fi ca] 84)) [g] [g] := (((Chg.refl w [g]).alloc _).alloc _).alloc _
  obtain ⟨W, hW⟩ : ∃ W, W = (((w.alloc (.cells #[pt g] 65)).alloc (Nd.o ⟨r1, r2, r3, a2, some ⟨sb, o, none⟩, m, s3, a4, a5, a6, a7, a8⟩ 4)).alloc (.cells #[.func (.func f) fi ca] 84)) := ⟨_, rfl⟩
  rw [← hW] at h1 h2 h3 h4 hch
  have hsW : W.heap.size = w.heap.size + 1 + 1 + 1 := by rw [hW]; simp
  obtain ⟨z, hz⟩ : ∃ z, z = w.heap.size := ⟨_, rfl⟩
  refine (callsIn_wide (n := 5)).1 ?_
  refine callsIn_of_wp_marks Try.func57 rfl trivial ?_ rfl
  simp only [Try.ntmps57, List.size_toArray, List.length_cons, List.length_nil, Nat.reduceAdd, Nat.reduceSub, Array.replicate_succ, Array.replicate_zero, List.push_toArray, List.append_toArray, List.nil_append, List.cons_append]
  gi_wp2_with (refine ⟨trivial, ?_⟩; gi_at_call 84; refine (back66 _ _ _ _ _).mono ?_; rintro e w' ⟨rfl, rfl⟩)
  rw [← hW]
  rw [← hz]
  have hsW1 : (W.alloc (.cells #[.slice (some ⟨sb, o, none⟩) m s3] 23)).heap.size = z + 1 + 1 + 1 + 1 := by simp; omega
  have hWW : ∀ k, k < W.heap.size → (W.alloc (.cells #[.slice (some ⟨sb, o, none⟩) m s3] 23)).heap[k]? = W.heap[k]? := fun k hk => heap_alloc_old W _ hk
  have hsl : Bx (W.alloc (.cells #[.slice (some ⟨sb, o, none⟩) m s3] 23)) (z + 1 + 1 + 1) 23 (.slice (some ⟨sb, o, none⟩) m s3) := by
    have := heap_alloc_new W (.cells #[.slice (some ⟨sb, o, none⟩) m s3] 23)
    rw [show W.heap.size = z + 1 + 1 + 1 by omega] at this
    exact this
  have hch1 : Chg w (W.alloc (.cells #[.slice (some ⟨sb, o, none⟩) m s3] 23)) [g] [g] := hch.alloc _
  obtain ⟨W1, hW1⟩ : ∃ W1, W1 = W.alloc (.cells #[.slice (some ⟨sb, o, none⟩) m s3] 23) := ⟨_, rfl⟩
  rw [← hW1] at hsW1 hWW hsl hch1 ⊢
  have hgA : g ∉ FX ++ (F0 ++ FE0) := by simp; exact ⟨hgX, hgF, hgE⟩
  have hold : ∀ k ∈ FX ++ (F0 ++ FE0), k < z := fun k hk => by
    rcases List.mem_append.1 hk with h | h
    · have := hFX k h; omega
    · rcases List.mem_append.1 h with h | h
      · have := hR.low k h; omega
      · have := (JP []).low hj0 k h; omega
  have HOLD := hid hold
  clear hold
  have hCI0 : CI g K A JP (FX ++ (F0 ++ FE0)) z (.slice (some ⟨sb, o, none⟩) m s3) w n (.func (.func f) fi ca) B F0 FE0 [] W1 :=
    ⟨(hWW _ (by omega)).trans (by rw [hz]; exact h3), ⟨⟨hR.kept fun k hk => (hWW k (by have := hR.low k hk; omega)).trans (h4 k (hR.low k hk)), (hWW g (by omega)).trans ((h4 g hgl).trans hO), hch1, fun k hk => .inl (by simp [hk])⟩, (JP []).stab hj0 hch1.size fun k hk => (hWW k (by have := (JP []).low hj0 k hk; omega)).trans (h4 k ((JP []).low hj0 k hk)), fun k hk => .inl (by simp [hk])⟩, fun k hk => .inl (by simp [hk]), fun k hk => .inl (by simp [hk]), (hWW _ (by omega)).trans (by rw [hz]; exact h1), hsl⟩
  refine wpIn_rangeFunc_ownH rfl (by decide) (gf := 111) (lb := #[pt (z + 1 + 1 + 1)]) rfl trivial (enter_of Try.func111 (by kernel_rfl) rfl)
    (back_stops 4 (by decide) (z + 1 + 1 + 1) sb o m s3 hm hcap ND KD W1 hsl (by omega) (fun i hi => (hcells i hi).kept ((hWW sb (by omega)).trans (h4 sb hsb)))) (fun h1 h2 k hk => (h2 k hk).trans (h1 k hk)) ?hKb (Below.refl _ _) (fun _ => rfl)
    (fun pre W => ∃ n v W' F FE, CI g K A JP (FX ++ (F0 ++ FE0)) z (.slice (some ⟨sb, o, none⟩) m s3) w n v W' F FE pre W)
    (fun _ _ _ => False) (by rw [hsW1]; exact CI.own hz (by omega) hisc) (fun _ _ _ _ _ hs _ _ => hs) ⟨n, _, B, F0, FE0, hCI0⟩
    (fun x a' W => ∃ Bn, z + 1 + 1 + 1 + 1 ≤ Bn ∧ W.heap[Bn]? = some (.cells #[.int .i64 (KD x.val), .slice (ND x.val).r1 (ND x.val).r2 (ND x.val).r3, .int .i64 (ND x.val).a2, .slice (ND x.val).s1 (ND x.val).s2 (ND x.val).s3, .int .i64 (ND x.val).a4, .int .i64 (ND x.val).a5, .bool (ND x.val).a6, .int .i64 (ND x.val).a7, .string (ND x.val).a8] 25 (0, 0)) ∧ a' = { tmps := #[pt g, Nd.v ⟨r1, r2, r3, a2, some ⟨sb, o, none⟩, m, s3, a4, a5, a6, a7, a8⟩ 4, .func (.func f) fi ca, pt z, pt (z + 1), pt (z + 1 + 1), .nilFunc, undef, pt Bn, undef, pt (z + 1), .int .i64 4, .bool false, .bool false, undef, undef, undef, undef, undef, undef, undef, .bool false, .bool false, undef, undef, undef, undef, undef, undef, undef, .bool true, .bool true, .pointer (some ⟨z + 1, 3, none⟩), .slice (some ⟨sb, o, none⟩) m s3, .func (.func 111) #[] #[pt (z + 1 + 1 + 1)], .int .i64 (x.val : Int), (ND x.val).v (KD x.val), undef, undef, undef, undef, undef, undef, undef, undef, undef, undef, undef, undef, undef, undef, undef, undef, undef, undef, undef, undef, undef, undef, undef, undef, undef, undef, undef, undef, undef, undef, undef, undef, undef, undef, undef, undef, undef, undef, undef, undef, undef, undef, undef, undef, undef, undef], defers := [] })
    ?hAx ?assign ?body ?done ?stop
  case hKb =>
    intro W l o o' hl ho hc1 hc2 k hk
    refine World.putObj_heap_other ?_
    rw [hsW1] at hl
    omega
  case hAx =>
    rintro x a' _ X Y row ⟨Bn, e1, e2, e3⟩ hg hr
    exact ⟨Bn, e1, (hg.block Bn (Array.getElem?_eq_some_iff.1 e2).1 (fun e => by obtain ⟨_, o, ho, hc⟩ := hr Bn e.symm; rw [e2] at ho; cases ho; cases hc)).trans e2, e3⟩
  case assign =>
    rintro l pre x X Kk ⟨n1, v1, W1', F1, FE1, hC⟩ hK
    have hown := (CI.own (g := g) (K := K) (A := A) (JP := JP) (FS := FX ++ (F0 ++ FE0)) (sv := .slice (some ⟨sb, o, none⟩) m s3) hz (by omega) hisc).alloc (s := pre) (W := X) ((ND x.val).o (KD x.val)) ⟨n1, v1, W1', F1, FE1, hC⟩
    have hXs : z + 1 + 1 + 1 + 1 ≤ X.heap.size := by have := bx_lt hC.sl; omega
    have hk2 : Kp2 (z + 1 + 1 + 1) sb X (X.alloc ((ND x.val).o (KD x.val))) := fun k hk => heap_alloc_old X _ (by rcases hk with rfl | rfl <;> omega)
    have hbn : (X.alloc ((ND x.val).o (KD x.val))).heap[X.heap.size]? = some (.cells #[.int .i64 (KD x.val), .slice (ND x.val).r1 (ND x.val).r2 (ND x.val).r3, .int .i64 (ND x.val).a2, .slice (ND x.val).s1 (ND x.val).s2 (ND x.val).s3, .int .i64 (ND x.val).a4, .int .i64 (ND x.val).a5, .bool (ND x.val).a6, .int .i64 (ND x.val).a7, .string (ND x.val).a8] 25 (0, 0)) := heap_alloc_new X _
    have HOWN := hid hown
    have HK2 := hid hk2
    have HBN := hid hbn
    clear hz hown hk2 hbn hW hW1 hC
    gi_wp2
    exact hK _ _ ((KeepsOthers.alloc _ _).from _) HK2.out HOWN.out ⟨X.heap.size, hXs, HBN.out, rfl⟩
  case body =>
    rintro l pre x a' X hl ⟨r, hr⟩ ⟨n1, v1, Wy, F1, FE1, hC⟩ ⟨Bn, hBn, bN, rfl⟩ hlt
    have hM := hC.mj.m
    obtain ⟨f1, fi1, ca1, rfl⟩ := hM.rep.form
    have hgW : g < w.heap.size := hgl
    have HC := HB pre x hlt X _ n1 Wy F1 FE1 hM.chg hM.ob hM.rep (hM.away hgA hgW) (hC.mj.awayE hgA hgW) hM.new hC.mj.newE hC.mj.j
    have hXs : z + 1 + 1 + 1 < X.heap.size := bx_lt hC.sl
    obtain ⟨y0, y1, y2, y3, y4, y5, y6, y7, y8⟩ := nine' bN
    have c3 := bx0 hC.me
    have c5 := bx0 hC.box
    have hC' := hid hC
    have hgz : g < z := by omega
    have HZ := hid hz
    have HHB := hid (Nat.le_refl 0)
    clear hz hC hM hW hW1 hCI0 h1 h2 h3 h4 hch hch1 hsl hWW hR hO hj0 HB hcells bN
    gi_wp2_with (refine ⟨trivial, ?_⟩; gi_at_call 57; refine (CallsIn.inRound l (callsIn_wide.2 HC)).mono ?_; rintro e w2 ⟨u, F2, FE2, n2, W2, rfl, M2, j2, hE2⟩; obtain ⟨f2, fi2, ca2, rfl⟩ := M2.rep.form; have hb2 : Bx w2 (z + 1 + 1) 84 (.func (.func f1) fi1 ca1) := (M2.chg.block (z + 1 + 1) (by omega) (by simp; omega)).trans hC'.out.box; have zc := bx0 hb2; have zf := Joins.unfrozen_of_block hb2 0; have HB2 := hid hb2; have HM2 := hid M2; have HJ2 := hid j2; have HE2 := hid hE2; clear M2 HC hb2 j2 hE2)
    have hzz := HZ.out
    have sX := HM2.out.chg.size
    have sw : w.heap.size ≤ X.heap.size := hC'.out.mj.m.chg.size
    obtain ⟨X2, hX2⟩ : ∃ X2, X2 = w2.setCell ⟨z + 1 + 1, 0, none⟩ (.func (.func f2) fi2 ca2) := ⟨_, rfl⟩
    rw [← hX2]
    have hXb : Bx X2 (z + 1 + 1) 84 (.func (.func f2) fi2 ca2) := by rw [hX2]; exact Joins.block_setCell (i := 0) HB2.out _
    have hXo : ∀ k, k ≠ z + 1 + 1 → X2.heap[k]? = w2.heap[k]? := fun k hk => by rw [hX2]; exact Below.heap_setCell _ _ _ _ hk
    have hXs2 : X2.heap.size = w2.heap.size := by rw [hX2]; simp [World.setCell]
    have hgA1 : g ∉ FX ++ F1 := by simp; exact ⟨hgX, hC'.out.mj.m.away hgA hgW⟩
    have hold := HOLD.out
    have fX : ∀ k ∈ FX ++ F1, k ∈ FX ++ (F0 ++ FE0) ∨ z + 1 + 1 + 1 + 1 ≤ k := fun k hk => by
      rcases List.mem_append.1 hk with h | h
      · left; simp [h]
      · exact hC'.out.out k h
    have f2o : ∀ k ∈ F2, k ∈ FX ++ (F0 ++ FE0) ∨ z + 1 + 1 + 1 + 1 ≤ k := fun k hk => by
      rcases HM2.out.new k hk with h | h
      · exact fX k h
      · right; omega
    have e2o : ∀ k ∈ FE2, k ∈ FX ++ (F0 ++ FE0) ∨ z + 1 + 1 + 1 + 1 ≤ k := fun k hk => by
      rcases HE2.out k hk with h | h | h
      · exact hC'.out.outE k h
      · exact fX k h
      · right; omega
    have ne2 : ∀ k, (k ∈ FX ++ (F0 ++ FE0) ∨ z + 1 + 1 + 1 + 1 ≤ k) → k ≠ z + 1 + 1 := fun k h => by
      rcases h with h | h
      · have := hold k h; omega
      · omega
    have hcX : Chg X w2 [g] [g] := HM2.out.chg
    refine ⟨⟨by omega, fun k o hk h1 h2 => ?_⟩, fun k hk => ?_, n2, _, W2, F2, FE2, hXb, ⟨⟨HM2.out.rep.kept fun k hk => hXo k (ne2 k (f2o k hk)), (hXo g (by omega)).trans HM2.out.ob, ?_, fun k hk => (f2o k hk).imp_right (fun h => by omega)⟩, (JP (pre ++ [x])).stab HJ2.out (by omega) (fun k hk => hXo k (ne2 k (e2o k hk))), fun k hk => (e2o k hk).imp_right (fun h => by omega)⟩, f2o, e2o, ?_, ?_⟩
    · rw [hsW1] at hk
      exact (hXo k (by omega)).trans ((hcX.block k (Array.getElem?_eq_some_iff.1 h1).1 (by simp; omega)).trans h1)
    · have hkl : k < X.heap.size := by rcases hk with rfl | rfl <;> omega
      exact (hXo k (by rcases hk with rfl | rfl <;> omega)).trans (hcX.block k hkl (by rcases hk with rfl | rfl <;> simp <;> omega))
    · rw [hX2]; exact (hC'.out.mj.m.chg.trans hcX).setNew (a := ⟨z + 1 + 1, 0, none⟩) _ (by show w.heap.size ≤ z + 1 + 1; omega)
    · exact (hXo z (by omega)).trans ((hcX.block z (by omega) (by simp; omega)).trans hC'.out.me)
    · exact (hXo _ (by omega)).trans ((hcX.block _ hXs (by simp; omega)).trans hC'.out.sl)
  case done =>
    rintro D xs X hD ⟨hlen, hDn⟩ ⟨n1, v1, Wy, F1, FE1, hC⟩ hDD
    obtain ⟨f1, fi1, ca1, rfl⟩ := hC.mj.m.rep.form
    have hown := (CI.own (g := g) (K := K) (A := A) (JP := JP) (FS := FX ++ (F0 ++ FE0)) (sv := .slice (some ⟨sb, o, none⟩) m s3) hz (by omega) hisc).putObj (s := xs) (W := X) (l := D) (o := .deferred (some [])) (.deferred none) ⟨n1, _, Wy, F1, FE1, hC⟩ (by rw [hsW1] at hD; exact hD) hDD rfl
    have c5 := bx0 hC.box
    have HOWN := hid hown
    have hC' := hid hC
    have HZ := hid hz
    clear hz hown hC hW hW1 hCI0 h1 h2 h3 h4 hch hch1 hsl hWW hR hO hj0 HB hcells
    gi_wp2
    refine ⟨by simp, .inl ⟨_, _, rfl, run_takeDeferred hDD, ?_⟩⟩
    obtain ⟨n9, v9, W9, F9, FE9, h9⟩ := HOWN.out
    have hDz : z + 1 + 1 ≠ D := by rw [hsW1] at hD; omega
    have e9 : (X.putObj D (.deferred none)).heap[z + 1 + 1]? = X.heap[z + 1 + 1]? := World.putObj_heap_other hDz
    have hb9 := h9.box
    rw [Bx, e9, hC'.out.box] at hb9
    simp at hb9
    subst hb9
    refine ⟨_, results_tmp rfl _ _ _, .func (.func f1) fi1 ca1, F9, FE9, n9, W9, xs, ⟨hlen, hDn⟩, ?_, h9.mj⟩
    rfl
  case stop =>
    intro D c pre X _ _ hf _
    exact hf.elim
end Go.Proofs.Ytdidopgenhpakaa
namespace Go.Proofs.Ytdidopgenhpakaa
open Go.RowKit
set_option linter.unusedVariables false
set_option linter.unusedSimpArgs false
mutual
/-- the loops that a way names ahead of any thing -/
def Way.ua : Way → List Nat
  | .through => []
  | .once _ d => []
  | .noted _ d => d.ua
  | .runeOf _ d => d.ua
  | .ifHolds _ d => d.ua
  | .inOrder l => uaL l
  | .again b => [b]
def uaL : List Way → List Nat
  | [] => []
  | d :: l => d.ua ++ uaL l
end
mutual
/-- its things are at most so many; nothing comes through but as a thing -/
def Way.tg (top : Nat) : Way → Prop
  | .through => False
  | .once n d => (0 ≤ n ∧ n ≤ (top : Int)) ∧ (n = 1 ∧ d = .through ∨ d.tg top)
  | .noted _ d => d.tg top
  | .runeOf _ d => d.tg top
  | .ifHolds _ d => d.tg top
  | .inOrder l => tgL top l
  | .again b => True
def tgL (top : Nat) : List Way → Prop
  | [] => True
  | d :: l => d.tg top ∧ tgL top l
end
/-- a way as it should be -/
structure Gw (W : Way) : Prop where
  tg : W.tg 1000000000
  few : W.few true
theorem Gw.once {n : Int} {d : Way} (h : Gw d) (h0 : 0 ≤ n) (h1 : n ≤ 1000000000) : Gw (.once n d) := ⟨by simp only [Way.tg]; exact ⟨⟨h0, by omega⟩, .inr h.tg⟩, by simp only [Way.few]; exact h.few⟩
theorem Gw.noted {c : Nat} {d : Way} (h : Gw d) : Gw (.noted c d) := ⟨by simp only [Way.tg]; exact h.tg, by simp only [Way.few]; exact h.few⟩
theorem Gw.runeOf {R : Rng} {d : Way} (h : Gw d) (hR : R.length ≤ 1000000) : Gw (.runeOf R d) := ⟨by simp only [Way.tg]; exact h.tg, by simp only [Way.few]; exact ⟨hR, h.few⟩⟩
theorem Gw.ifHolds {a : Int} {d : Way} (h : Gw d) : Gw (.ifHolds a d) := ⟨by simp only [Way.tg]; exact h.tg, by simp only [Way.few]; exact ⟨by trivial, h.few⟩⟩
/-- a row of ways as they should be -/
structure GwL (l : List Way) : Prop where
  tg : tgL 1000000000 l
  few : Ways.few true l
theorem GwL.nil : GwL [] := ⟨trivial, trivial⟩
theorem GwL.cons {d : Way} {l : List Way} (h : Gw d) (hl : GwL l) : GwL (d :: l) := ⟨⟨h.tg, hl.tg⟩, ⟨h.few, hl.few⟩⟩
theorem GwL.snoc {d : Way} : ∀ {l : List Way}, GwL l → Gw d → GwL (l ++ [d])
  | [], _, h => .cons h .nil
  | e :: l, hl, h => .cons ⟨hl.tg.1, hl.few.1⟩ (GwL.snoc ⟨hl.tg.2, hl.few.2⟩ h)
theorem Gw.inOrder {l : List Way} (h : GwL l) : Gw (.inOrder l) := ⟨by simp only [Way.tg]; exact h.tg, by simp only [Way.few]; exact h.few⟩
theorem Gw.again (b : Nat) : Gw (.again b) := ⟨by simp only [Way.tg], by simp only [Way.few]⟩
theorem Gw.pair {lz : Bool} {B W : Way} (h1 : Gw B) (h2 : Gw W) : Gw (.inOrder (if lz = true then [B, W] else [W, B])) := by
  cases lz
  · exact .inOrder (.cons h2 (.cons h1 .nil))
  · exact .inOrder (.cons h1 (.cons h2 .nil))
end Go.Proofs.Ytdidopgenhpakaa
