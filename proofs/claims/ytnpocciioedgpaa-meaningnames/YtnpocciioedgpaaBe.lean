/- HELPERS: to begin a node: a loop that is gone through at least once. -/
import Derived.Test.YtnpocciioedgpaaBd
namespace Go.Proofs.Ytnpocciioedgpaa
open Go.RowKit
set_option linter.unusedVariables false
set_option linter.unusedSimpArgs false
mutual
theorem Rep.mono {g K : Nat} {L L' : List Nat} {w : World} {v : Value} {d : Way} {F : List Nat} (h : Rep g K L w v d F) (hL : ∀ k ∈ L, k ∈ L') : Rep g K L' w v d F := by
  cases h with
  | through => exact .through
  | once h5 h2 h3 hn hd => exact .once h5 h2 h3 hn (hd.mono hL)
  | noted h3 h4 h5 hc hd => exact .noted h3 h4 h5 hc (hd.mono hL)
  | runeOf h3 h4 h5 hr hd => exact .runeOf h3 h4 h5 hr (hd.mono hL)
  | inOrder h1 hs hl => exact .inOrder h1 hs (hl.mono hL)
  | again hb => exact .again (hL _ hb)
theorem Reps.mono {g K : Nat} {L L' : List Nat} {w : World} {v : List Value} {d : List Way} {F : List Nat} (h : Reps g K L w v d F) (hL : ∀ k ∈ L, k ∈ L') : Reps g K L' w v d F := by
  cases h with
  | nil => exact .nil
  | cons h hs => exact .cons (h.mono hL) (hs.mono hL)
end
set_option maxRecDepth 100000 in
set_option maxHeartbeats 2000000 in
theorem times98 (g : Nat) (N : Nd) (k : Int) (f : FuncId) (fi ca : Array Value) (w : World) : Calls Try.prog 98 #[pt g, .int .i64 0, N.v k, .func (.func f) fi ca] w fun e w' => e = .returned (.func (.func f) fi ca) ∧ Below w.heap.size w w' := by
  go_enter Try.func98, Try.ntmps98
  go_wp2_with fail
  go_loopw [3, 10] (fun u x wq => u = .func (.func f) fi ca ∧ x = .int .i64 0 ∧ Below w.heap.size w wq) (fun _ _ _ => 0)
  case atStart => exact ⟨rfl, rfl, Joins.below_alloc1 w _⟩
  case round =>
    obtain ⟨rfl, rfl, hb⟩ := hrel
    go_wp2
    go_ret
    exact ⟨rfl, hb⟩
set_option maxRecDepth 100000 in
set_option maxHeartbeats 4000000 in
theorem atLeast96 (g K sb s3 : Nat) (L : List Nat) (A : Six) (n n2 : Int) (N M : Nd) (km : Int) (B : Way) (W1 : Nat → Way) (FX F0 : List Nat) (vb : Value) (w : World) (hO : O7 w g A n) (hR : Rep g K L w vb B F0) (hgF : g ∉ F0) (hgX : g ∉ FX) (hX : ∀ k ∈ FX, k < w.heap.size) (hn : 0 ≤ n ∧ n < 1000000000)
    (hN : N.s1 = some ⟨sb, 0, none⟩ ∧ N.s2 = 1 ∧ N.s3 = s3 ∧ N.a6 = false ∧ N.a4 = 1) (hs3 : 1 ≤ s3) (hsb : sb < w.heap.size) (hsg : sb ≠ g) (hc : C9 w sb 0 M km)
    (HB : ∀ b, w.heap.size ≤ b → Sub g K (b :: L) A (n + 1) n2 M km (.once (n + 1) (.inOrder [.again b, B])) (W1 b) FX F0 w) :
    Calls Try.prog 96 #[pt g, N.v 6, vb] w fun e w' => ∃ b v F, e = .returned v ∧ w.heap.size ≤ b ∧ Mk g K (b :: L) w w' A n2 v (W1 b) (FX ++ F0) F ∧ Bx w' b 84 v ∧ b ∉ F := by
  obtain ⟨f, fi, ca, rfl⟩ := hR.form
  have hm := hmf
  have hgl := (Array.getElem?_eq_some_iff.1 hO).1
  obtain ⟨W, hW⟩ : ∃ W, W = (w.alloc (N.o 6)).alloc (.cells #[.nilFunc] 84) := ⟨_, rfl⟩
  obtain ⟨b, hb⟩ : ∃ b, b = w.heap.size + 1 := ⟨_, rfl⟩
  have sw1 : (w.alloc (N.o 6)).heap.size = w.heap.size + 1 := by simp
  have hsW : W.heap.size = w.heap.size + 1 + 1 := by rw [hW]; simp
  have hWz : W.heap[w.heap.size]? = some (.cells #[.int .i64 6, .slice N.r1 N.r2 N.r3, .int .i64 N.a2, .slice N.s1 N.s2 N.s3, .int .i64 N.a4, .int .i64 N.a5, .bool N.a6, .int .i64 N.a7, .string N.a8] 28 (0, 0)) := by
    rw [hW]; exact (heap_alloc_old _ _ (by omega)).trans (heap_alloc_new w _)
  have hWb : W.heap[b]? = some (.cells #[.nilFunc] 84 (0, 0)) := by rw [hW, hb, ← sw1]; exact heap_alloc_new _ _
  have hWo : ∀ k, k < w.heap.size → W.heap[k]? = w.heap[k]? := fun k hk => by rw [hW]; exact (heap_alloc_old _ _ (by omega)).trans (heap_alloc_old w _ hk)
  have hch : Chg w W [g] [g] := by rw [hW]; exact ((Chg.refl w [g]).alloc _).alloc _
  have hRW : Rep g K (b :: L) W (.func (.func f) fi ca) B F0 := (hR.kept fun k hk => hWo k (hR.low k hk)).mono fun k hk => by simp [hk]
  have hlow : ∀ k ∈ F0, k < w.heap.size := hR.low
  have HC := choice97 g K (b :: L) (.func (.func 110) #[] #[pt b]) (.func (.func f) fi ca) (.again b) B [] F0 W (.again (by simp)) hRW
  have x6 : W.cell? ⟨w.heap.size, 6, none⟩ = some (.bool false) := by have h := Joins.cell_of_block hWz 6; simpa [hN.2.2.2.1] using h
  have hS : ∀ w1, Chg W w1 [g] [g] → w1.cell? ⟨w.heap.size, 3, none⟩ = some (.slice (some ⟨sb, 0, none⟩) 1 s3) ∧ w1.cell? ⟨w.heap.size, 4, none⟩ = some (.int .i64 1) ∧ C9 w1 sb 0 M km ∧ w1.heap[b]? = some (.cells #[.nilFunc] 84 (0, 0)) := fun w1 hc1 => by
    have e : ∀ k, k < W.heap.size → k ≠ g → w1.heap[k]? = W.heap[k]? := fun k h1 h2 => hc1.block k h1 (by simpa using h2)
    refine ⟨?_, ?_, ?_, (e b (by omega) (by omega)).trans hWb⟩
    · have h := Joins.cell_of_block ((e w.heap.size (by omega) (by omega)).trans hWz) 3
      simpa [hN.1, hN.2.1, hN.2.2.1] using h
    · have h := Joins.cell_of_block ((e w.heap.size (by omega) (by omega)).trans hWz) 4
      simpa [hN.2.2.2.2] using h
    · exact hc.kept ((e sb (by omega) hsg).trans (hWo sb hsb))
  have HS0 := hid hS
  have HSZ := hid hsW
  have HCH := hid hch
  have HHG := hid hgF
  have HHX := hid hgX
  have HXL := hid hX
  have HLO := hid hlow
  have HOW := hid ((hWo g hgl).trans hO)
  have HBB := hid (HB b (by omega))
  clear hO hR hgF hgX hX hlow hN hc HB hWz hWb hWo hch hRW hS hsW
  go_enter Try.func96, Try.ntmps96
  go_upto_region 3 with fail
  obtain ⟨z, hz⟩ : ∃ z, z = w.heap.size := ⟨_, rfl⟩
  rw [← hW]
  rw [← hz] at HS0 x6 hb HSZ ⊢
  rw [← hb]
  have HW := hid hW
  have HZ := hid hz
  have HB0 := hid hb
  clear hW hz hb sw1
  have hbz : b ≠ g := by have := HB0.out; have := HZ.out; omega
  go_upto_region 4 with (first | (go_at_call 97; (with_reducible refine HC.mono ?_); rintro e w1 ⟨v1, F1, rfl, hr1, hb1, hn1⟩; obtain ⟨f1, fi1, ca1, rfl⟩ := hr1.form; have hg1 : g ∉ F1 := (fun hm => by rcases hn1 g hm with h | h; exact HHG.out (by simpa using h); have := HSZ.out; have := HZ.out; omega); have HC2 := once54 g K (b :: L) A n _ _ F1 w1 ((hb1.block g (by have := HSZ.out; have := HZ.out; omega)).trans HOW.out) hr1 hg1 hn; have HBL := hid hb1; have HN1 := hid hn1; have HG1 := hid hg1; clear hr1 hb1 hn1 hg1 HC) | (go_at_call 54; (with_reducible refine HC2.mono ?_); rintro e w2 ⟨v2, F2, rfl, M2⟩; obtain ⟨f2, fi2, ca2, rfl⟩ := M2.rep.form; have HM2 := hid M2; clear M2 HC2))
  have hc2 : Chg W w2 [g] [g] := (Chg.of_below HBL.out).trans HM2.out.chg
  obtain ⟨y3, y4, y9, yb⟩ := HS0.out w2 hc2
  obtain ⟨q0, q1, q2, q3, q4, q5, q6, q7, q8⟩ := y9
  simp only [Nat.zero_mul, Nat.zero_add] at q0 q1 q2 q3 q4 q5 q6 q7 q8
  have hs1 := HBL.out.size
  have hs2 := HM2.out.chg.size
  have hnew2 : ∀ k ∈ F2, k ∈ F0 ∨ W.heap.size ≤ k := fun k hk => by
    rcases HM2.out.new k hk with h | h
    · rcases HN1.out k h with h | h
      · exact .inl (by simpa using h)
      · exact .inr h
    · right; omega
  have hg2 : g ∉ F2 := fun hm => by
    rcases hnew2 g hm with h | h
    · exact HHG.out h
    · have := HSZ.out; have := HZ.out; omega
  have HC3 := HBB.out w2 _ F2 (HCH.out.trans hc2) HM2.out.ob HM2.out.rep hg2 (fun k hk => (hnew2 k hk).imp_right (fun h => by have := HSZ.out; have := HZ.out; omega))
  have HC2' := hid hc2
  have HN2 := hid hnew2
  have HG2 := hid hg2
  clear hc2 hnew2 hg2 yb
  have i0 : (0 : Int) < 1 := by decide
  go_upto_region 5 with (go_at_call 53; (with_reducible refine HC3.mono ?_); rintro e w3 ⟨v3, F3, rfl, M3⟩; obtain ⟨f3, fi3, ca3, rfl⟩ := M3.rep.form; have hb3 := (HS0.out w3 (HC2'.out.trans M3.chg)).2.2.2; have z0 : w3.cell? ⟨b, 0, none⟩ = some .nilFunc := bx0 hb3; have zf := Joins.unfrozen_of_block hb3 0; have HB3 := hid hb3; have HM3 := hid M3; clear M3 HC3 hb3)
  obtain ⟨X, hX⟩ : ∃ X, X = w3.setCell ⟨b, 0, none⟩ (.func (.func f3) fi3 ca3) := ⟨_, rfl⟩
  rw [← hX]
  have hc3 : Chg W w3 [g] [g] := HC2'.out.trans HM3.out.chg
  have hXb : Bx X b 84 (.func (.func f3) fi3 ca3) := by rw [hX]; exact Joins.block_setCell (i := 0) HB3.out _
  have hXo : ∀ k, k ≠ b → X.heap[k]? = w3.heap[k]? := fun k hk => by rw [hX]; exact Below.heap_setCell _ _ _ _ hk
  have hXs : X.heap.size = w3.heap.size := by rw [hX]; simp [World.setCell]
  have hcX : Chg w X [g] [g] := by rw [hX]; exact (HCH.out.trans hc3).setNew (a := ⟨b, 0, none⟩) _ (by show w.heap.size ≤ b; have := HB0.out; have := HZ.out; omega)
  have sb_ne : sb ≠ b := by have := HB0.out; have := HZ.out; omega
  have hz_ne : z ≠ b := by have := HB0.out; omega
  have hSX : ∀ w4 : World, (∀ k, k < X.heap.size → w4.heap[k]? = X.heap[k]?) → w4.cell? ⟨z, 3, none⟩ = some (.slice (some ⟨sb, 0, none⟩) 1 s3) ∧ w4.cell? ⟨z, 4, none⟩ = some (.int .i64 1) ∧ w4.cell? ⟨b, 0, none⟩ = some (.func (.func f3) fi3 ca3) ∧
      w4.cell? ⟨sb, 0, none⟩ = some (.int .i64 km) ∧ w4.cell? ⟨sb, 1, none⟩ = some (.slice M.r1 M.r2 M.r3) ∧ w4.cell? ⟨sb, 2, none⟩ = some (.int .i64 M.a2) ∧ w4.cell? ⟨sb, 3, none⟩ = some (.slice M.s1 M.s2 M.s3) ∧ w4.cell? ⟨sb, 4, none⟩ = some (.int .i64 M.a4) ∧ w4.cell? ⟨sb, 5, none⟩ = some (.int .i64 M.a5) ∧ w4.cell? ⟨sb, 6, none⟩ = some (.bool M.a6) ∧ w4.cell? ⟨sb, 7, none⟩ = some (.int .i64 M.a7) ∧ w4.cell? ⟨sb, 8, none⟩ = some (.string M.a8) := fun w4 h4 => by
    obtain ⟨t3, t4, t9, _⟩ := HS0.out w3 hc3
    obtain ⟨p0, p1, p2, p3, p4, p5, p6, p7, p8⟩ := t9
    simp only [Nat.zero_mul, Nat.zero_add] at p0 p1 p2 p3 p4 p5 p6 p7 p8
    have hszb : b < X.heap.size := bx_lt hXb
    have hzb : z < X.heap.size := by have := HB0.out; omega
    have hsbx : sb < X.heap.size := by have := HZ.out; omega
    have e : ∀ k o, k < X.heap.size → k ≠ b → w4.cell? ⟨k, o, none⟩ = w3.cell? ⟨k, o, none⟩ := fun k o h1 h2 => cell_heap ((h4 k h1).trans (hXo k h2)) o
    exact ⟨(e _ _ hzb hz_ne).trans t3, (e _ _ hzb hz_ne).trans t4, bx0 (t := 84) ((h4 b hszb).trans hXb), (e _ _ hsbx sb_ne).trans p0, (e _ _ hsbx sb_ne).trans p1, (e _ _ hsbx sb_ne).trans p2, (e _ _ hsbx sb_ne).trans p3, (e _ _ hsbx sb_ne).trans p4, (e _ _ hsbx sb_ne).trans p5, (e _ _ hsbx sb_ne).trans p6, (e _ _ hsbx sb_ne).trans p7, (e _ _ hsbx sb_ne).trans p8⟩
  have w4 := (hSX X (fun _ _ => rfl)).2.1
  have HT : Calls Try.prog 98 #[pt g, .int .i64 (IntKind.i64.wrap 0), M.v km, .func (.func f3) fi3 ca3] X.drew fun e w' => e = .returned (.func (.func f3) fi3 ca3) ∧ Below X.drew.heap.size X.drew w' := by
    rw [show IntKind.i64.wrap 0 = 0 by decide]
    exact times98 g M km f3 fi3 ca3 X.drew
  have HXB := hid hXb
  have HXO := hid hXo
  have HCX := hid hcX
  have HSX := hid hSX
  have HX := hid hX
  clear hXb hXo hcX hSX hX y3 y4 q0 q1 q2 q3 q4 q5 q6 q7 q8 z0 zf hc3
  go_wp2_with fail
  go_region_held2 (fun w4 => w4.cell? ⟨z, 3, none⟩ = some (.slice (some ⟨sb, 0, none⟩) 1 s3) ∧ w4.cell? ⟨z, 4, none⟩ = some (.int .i64 1) ∧ w4.cell? ⟨b, 0, none⟩ = some (.func (.func f3) fi3 ca3) ∧
      w4.cell? ⟨sb, 0, none⟩ = some (.int .i64 km) ∧ w4.cell? ⟨sb, 1, none⟩ = some (.slice M.r1 M.r2 M.r3) ∧ w4.cell? ⟨sb, 2, none⟩ = some (.int .i64 M.a2) ∧ w4.cell? ⟨sb, 3, none⟩ = some (.slice M.s1 M.s2 M.s3) ∧ w4.cell? ⟨sb, 4, none⟩ = some (.int .i64 M.a4) ∧ w4.cell? ⟨sb, 5, none⟩ = some (.int .i64 M.a5) ∧ w4.cell? ⟨sb, 6, none⟩ = some (.bool M.a6) ∧ w4.cell? ⟨sb, 7, none⟩ = some (.int .i64 M.a7) ∧ w4.cell? ⟨sb, 8, none⟩ = some (.string M.a8))
    (first | exact HSX.out _ (fun _ _ => rfl) | exact HSX.out _ (fun k hk => HB4.out.block k hk))
    (first | (go_at_call 98; (with_reducible refine HT.mono ?_); rintro e w5 ⟨rfl, hb4⟩; have HB4 := hid hb4; clear hb4))
  all_goals
    go_wp2
    go_ret
    have hbo : ∀ k, k < X.heap.size → w5.heap[k]? = X.heap[k]? := fun k hk => HB4.out.block k hk
    have hzz := HZ.out
    have hbb := HB0.out
    have hss := HSZ.out
    have hs3' := HM3.out.chg.size
    have hF3 : ∀ k ∈ F3, k ∈ FX ++ F0 ∨ W.heap.size ≤ k := fun k hk => by
      rcases HM3.out.new k hk with h | h
      · rcases List.mem_append.1 h with h | h
        · left; simp [h]
        · rcases HN2.out k h with h | h
          · left; simp [h]
          · exact .inr h
      · right; omega
    have hbF : b ∉ F3 := fun hm => by
      rcases hF3 b hm with h | h
      · rcases List.mem_append.1 h with h | h
        · have := HXL.out b h; omega
        · have := HLO.out b h; omega
      · omega
    refine ⟨b, _, F3, rfl, by omega, ⟨HM3.out.rep.kept fun k hk => (hbo k (by have := HM3.out.rep.low k hk; omega)).trans (HXO.out k (fun e => hbF (e ▸ hk))), ?_, ?_, fun k hk => (hF3 k hk).imp_right (fun h => by omega)⟩, (hbo b (bx_lt HXB.out)).trans HXB.out, hbF⟩
    · exact (hbo g (by omega)).trans ((HXO.out g (fun e => hbz e.symm)).trans HM3.out.ob)
    · exact HCX.out.trans (Chg.of_below ⟨HB4.out.os, HB4.out.tape, HB4.out.output, HB4.out.size, HB4.out.block⟩)
end Go.Proofs.Ytnpocciioedgpaa
