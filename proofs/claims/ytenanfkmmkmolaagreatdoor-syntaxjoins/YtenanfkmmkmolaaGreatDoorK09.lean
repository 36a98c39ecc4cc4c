/- HELPERS: Bg, Eg. -/
import Derived.Test.YtenanfkmmkmolaaGreatDoorK08
import Derived.Deep.Cut
import Derived.Deep.CutRange
import Derived.Deep.CutBlock
/- HELPERS: a group begins. -/
namespace Go.Proofs.YtenanfkmmkmolaaGreatDoor
open Go.RowKit Go.Mx
set_option linter.unusedVariables false
set_option linter.unusedSimpArgs false
theorem news6 (w : World) (L : Array Value) : ∀ (j : Nat) (u : Value), L.toList[j]? = some u → (w.alloc (.cells L 85)).cell? ((⟨w.heap.size, 0, none⟩ : Addr).add j) = some u := by
  intro j u h
  rw [Addr.add_lit, Nat.zero_add, World.cell?_alloc_at L 85 _ j rfl]
  simpa using h
theorem cells6 {w : World} {b : Nat} {a0 a1 a2 a3 a4 a5 : Value} (h : w.heap[b]? = some (.cells #[a0, a1, a2, a3, a4, a5] 85 (0, 0))) : w.cell? ⟨b, 0, none⟩ = some a0 ∧ w.cell? ⟨b, 1, none⟩ = some a1 ∧ w.cell? ⟨b, 2, none⟩ = some a2 ∧ w.cell? ⟨b, 3, none⟩ = some a3 ∧ w.cell? ⟨b, 4, none⟩ = some a4 ∧ w.cell? ⟨b, 5, none⟩ = some a5 :=
  ⟨Joins.cell_of_block h 0, Joins.cell_of_block h 1, Joins.cell_of_block h 2, Joins.cell_of_block h 3, Joins.cell_of_block h 4, Joins.cell_of_block h 5⟩
theorem one6 (lf la : Bool) (li : Int) (ln : ByteArray) : ∀ u ∈ [Value.slice none 0 0, .slice none 0 0, .bool lf, .bool la, .int .i64 li, .string ln], u.oneCell' = true := by
  intro u hu
  simp only [List.mem_cons, List.not_mem_nil, or_false] at hu
  rcases hu with rfl | rfl | rfl | rfl | rfl | rfl <;> rfl
set_option maxRecDepth 100000 in
set_option maxHeartbeats 8000000 in
theorem beginGroup43_rx {N : Nat} {w : World} {g : Nat} {t : List Int} {S : St} {c : Cs} {ob cap : Nat} {c1 c2 : List Value} {G1 F1 : List Nat} {mb nn : Nat} {D : DataW Unit} (H : Hid (RX N w g t S c ob cap c1 c2 G1 F1 mb nn D)) (hx : nx t S.pos = 40) {bx : Nat} (HA : Hid (Ap bx w g ob mb G1 F1)) :
    Calls Tryz.prog 43 #[.pointer (some ⟨g, 0, none⟩)] w fun e w' => EndR N bx w w' g t e (begins t S) := by
  obtain ⟨i, hi⟩ : ∃ i, S.pos = i := ⟨_, rfl⟩
  obtain ⟨n, hn⟩ : ∃ n, S.low.length = n := ⟨_, rfl⟩
  obtain ⟨fold, hfo⟩ : ∃ b, S.top.fold = b := ⟨_, rfl⟩
  obtain ⟨all, hal⟩ : ∃ b, S.top.all = b := ⟨_, rfl⟩
  have hp := H.out.hp
  have hb1 := H.out.b1
  rw [hi] at hx hp hb1
  have hlt := nx_lt (t := t) (i := i) (by omega)
  have R0 : Hid (RW w g t i c S.wr) := by rw [← hi]; exact H.out.rw
  have hov : c.ov = .slice (some ⟨ob, 0, none⟩) (n + 1) cap := by rw [← hn]; exact H.out.ov
  have hog := H.out.og
  obtain ⟨k2, k3, hcap⟩ := H.out.flags
  rw [hn, hfo] at k2
  rw [hn, hal] at k3
  rw [hn] at hcap hb1
  have cc1 := Joins.cell_of_block R0.out.rd.blk 1
  have ff1 := Joins.unfrozen_of_block R0.out.rd.blk 1
  simp at cc1
  have add1 : IntKind.i64.wrap ((i : Int) + 1) = (i : Int) + 1 := i64_small _ (by omega) (by omega)
  have R1 := atSet (k := i + 1) R0 (by omega)
  push_cast at R1
  have hT := fun U hU => top41_h (rdC R1) ob n cap hov hcap (by omega) U hU
  have nog : ¬ g = ob := fun e => hog e.symm
  have obl : ob < w.heap.size := cell_lt k2
  have gl : g < w.heap.size := R0.out.rd.gl
  have ne1 : ¬ ob = w.heap.size := by omega
  have ne2 : ¬ w.heap.size = ob := by omega
  have k2' := fun o => (World.cell?_alloc_lt (w.setCell ⟨g, 1, none⟩ (.int .i64 ((i : Int) + 1))) o ⟨ob, n * 6 + 2, none⟩ (by simp [World.setCell]; exact obl)).trans ((World.cell?_setCell_other _ _ _ _ (by intro h; injection h with h _; exact nog h)).trans k2)
  have k3' := fun o => (World.cell?_alloc_lt (w.setCell ⟨g, 1, none⟩ (.int .i64 ((i : Int) + 1))) o ⟨ob, n * 6 + 3, none⟩ (by simp [World.setCell]; exact obl)).trans ((World.cell?_setCell_other _ _ _ _ (by intro h; injection h with h _; exact nog h)).trans k3)
  go_enter Tryz.func43, Tryz.ntmps43
  go_upto_region 15 with fail
  go_cut [3] from 4 (fun s3 wx => s3 = .pointer (some ⟨w.heap.size, 0, none⟩) ∧ Hid (Boxed (w.setCell ⟨g, 1, none⟩ (.int .i64 ((i : Int) + 1))) wx #[.slice none 0 0, .slice none 0 0, .bool fold, .bool all, .int .i64 0, .string ⟨#[]⟩]))
  case first =>
    clear H hi hn hfo hal hp hb1 hx R0
    go_region_with (go_at_call 41; (with_reducible refine (hT _ ?_).mono ?_); (first | exact .inl rfl | exact .inr ⟨_, rfl⟩); rintro e w' ⟨rfl, m, rfl⟩)
    all_goals go_wp2
    all_goals go_meet
    all_goals (refine ⟨rfl, ?_⟩)
    all_goals first | (with_reducible exact box_A _ _ _) | (with_reducible exact box_B _ _ _ _ _ _ _ _ _ _ (by simp only [zset])) | (with_reducible exact box_C _ _ _ _ _ _ _ _ _ (by simp only [zset]))
  case rest =>
    obtain ⟨rfl, HB⟩ := hcut
    have B0 := hid (bgn_start H.out hi hlt HB.out)
    clear HB hT R1 k2 k3 k2' k3' cc1 ff1 R0
    have hml := map_lt H.out.map
    have hmg := H.out.mg
    have h4 : 4 ≤ w.heap.size := Nat.le_trans H.out.n4 H.out.hN
    have htl := fun b hb => (H.out.tvl (by omega) b hb).1
    have hgv := H.out.gv
    go_upto_block 0 with fail
    go_cut [] from 4 (fun wx => Hid (Ready N w g t S ob cap c1 c2 G1 F1 mb wx))
    case first =>
      obtain ⟨gr, hgr⟩ : ∃ gr, S.groups + 1 = gr := ⟨_, rfl⟩
      have hgb : S.groups ≤ i := by have := H.out.b4; rw [hi] at this; exact this
      have hnb : nn ≤ i := by have := H.out.b5; rw [hi] at this; exact this
      have hNg := H.out.ng
      have hNm := H.out.nm
      have hNw := H.out.hN
      have HI := B0.out.blk
      have kI2 := Joins.cell_of_block HI 2
      have kI3 := Joins.cell_of_block HI 3
      simp at kI2 kI3
      clear HI
      by_cases h1 : nx t (i + 1) = 63
      · have hl1 := nx_lt (t := t) (i := i + 1) (by omega)
        have C1 := tookE (rdC (hid B0.out.rw)) 63 (by decide) h1
        go_wp2_with (go_at_call 60; (with_reducible refine C1.mono ?_); rintro e w1 ⟨rfl, G1'⟩; have B1 : Hid (Bgn w w1 g t mb (i + 2) c S.wr nn D #[.slice none 0 0, .slice none 0 0, .bool fold, .bool all, .int .i64 0, .string ⟨#[]⟩]) := hid (B0.out.go G1'.mo gl hmg (B0.out.rw.go1 G1' (by omega))); clear G1')
        clear C1
        by_cases h2 : nx t (i + 2) = 80
        · have hl2 := nx_lt (t := t) (i := i + 2) (by omega)
          have C2 := tookE (rdC (hid B1.out.rw)) 80 (by decide) h2
          go_wp2_with (go_at_call 60; (with_reducible refine C2.mono ?_); rintro e w2 ⟨rfl, G2'⟩; have B2 : Hid (Bgn w w2 g t mb (i + 3) c S.wr nn D #[.slice none 0 0, .slice none 0 0, .bool fold, .bool all, .int .i64 0, .string ⟨#[]⟩]) := hid (B1.out.go G2'.mo gl hmg (B1.out.rw.go1 G2' (by omega))); clear G2')
          have X2 : RX N w2 g t { S with pos := i + 3 } c ob cap c1 c2 G1 F1 mb nn D := B2.out.rx H.out (gr := S.groups) (nms := S.names) rfl rfl hgv rfl H.out.nms (by omega) (by omega) (by omega)
          have C3 := groupName62_rx X2 i
          cases hz : nameP t (i + 3) with
          | error k =>
            rw [show ({ S with pos := i + 3 } : St).pos = i + 3 from rfl, hz] at C3
            go_wp2_with (go_at_call 62; (with_reducible refine C3.mono ?_); rintro e w3 ⟨rfl, M3⟩)
            have hbe : begins t S = .error k := by unfold begins; rw [hi, if_pos h1, if_pos h2, hz]
            rw [hbe]
            exact ⟨rfl, rfl, (B2.out.below hNg hNm hNw).trans (M3.below hNg (by have := B2.out.size; omega))⟩
          | ok r =>
            obtain ⟨nm, k⟩ := r
            rw [show ({ S with pos := i + 3 } : St).pos = i + 3 from rfl, hz] at C3
            go_wp2_with (go_at_call 62; (with_reducible refine C3.mono ?_); rintro e w3 ⟨rfl, M3, nn3, D3, X3⟩; have B3 : Hid (Bgn w w3 g t mb k c (noteIf (hasName S.names nm) S.wr 44 i) nn3 D3 #[.slice none 0 0, .slice none 0 0, .bool fold, .bool all, .int .i64 0, .string ⟨#[]⟩]) := hid (B2.out.named M3 gl hml X3.rw X3.map); have HX3 := hid X3; have kI5 := Joins.cell_of_block B3.out.blk 5; have fI5 := Joins.unfrozen_of_block B3.out.blk 5; simp at kI5; clear M3 X3)
            have B4 := hid (B3.out.set gl hml htl h4 5 (.string nm))
            have C4 := nextIndex61 S.groups (hid B4.out.rw) hgv (by omega) i
            rw [hgr] at C4
            go_wp2_with (go_at_call 61; (with_reducible refine C4.mono ?_); rintro e w5 ⟨rfl, M5, R5⟩; have B5 : Hid (Bgn w w5 g t mb k { c with gv := .int .i64 (gr : Int) } (noteIf (decide (gr > 500)) (noteIf (hasName S.names nm) S.wr 44 i) 46 i) nn3 D3 #[.slice none 0 0, .slice none 0 0, .bool fold, .bool all, .int .i64 0, .string nm]) := hid (B4.out.go M5 gl hmg R5); have kI4 := Joins.cell_of_block B5.out.blk 4; have fI4 := Joins.unfrozen_of_block B5.out.blk 4; simp at kI4; clear M5 R5)
            go_meet
            have B6 : Hid (Bgn w _ g t mb k { c with gv := .int .i64 (gr : Int) } (noteIf (decide (gr > 500)) (noteIf (hasName S.names nm) S.wr 44 i) 46 i) nn3 D3 #[.slice none 0 0, .slice none 0 0, .bool fold, .bool all, .int .i64 (gr : Int), .string nm]) := hid (B5.out.set gl hml htl h4 4 (.int .i64 (gr : Int)))
            have hmo := nameP_mono t (i + 3)
            rw [hz] at hmo
            have hmo' : i + 3 ≤ k := hmo
            have hb5 : nn3 ≤ k := HX3.out.b5
            exact ⟨k, gr, nn3, { inner0 S with index := (gr : Int), name := nm }, noteIf (decide (gr > 500)) (noteIf (hasName S.names nm) S.wr 44 i) 46 i, S.names ++ [nm], { c with gv := .int .i64 (gr : Int) }, D3, by unfold begins; rw [hi, if_pos h1, if_pos h2, hz]; simp only [capWr, hgr]; rw [← hgr]; rfl, rfl, rfl, by omega, B6.out.rx H.out rfl rfl rfl rfl HX3.out.nms (by omega) (by omega) hb5, by simpa [inner0, hfo, hal] using B6.out.blk, B6.out.below hNg hNm hNw, B6.out.fr⟩
        · have C2 := tookN (rdC (hid B1.out.rw)) 80 (by decide) h2
          go_wp2_with (go_at_call 60; (with_reducible refine C2.mono ?_); rintro e w2 ⟨rfl, G2'⟩; have B2 : Hid (Bgn w w2 g t mb (i + 2) c S.wr nn D #[.slice none 0 0, .slice none 0 0, .bool fold, .bool all, .int .i64 0, .string ⟨#[]⟩]) := hid (B1.out.go G2'.mo gl hmg (B1.out.rw.go1 G2' (by omega))); clear G2')
          clear C2 B1
          by_cases h3 : nx t (i + 2) = 105
          · have hl3 := nx_lt (t := t) (i := i + 2) (by omega)
            have C3 := tookE (rdC (hid B2.out.rw)) 105 (by decide) h3
            go_wp2_with (go_at_call 60; (with_reducible refine C3.mono ?_); rintro e w3 ⟨rfl, G3'⟩; have B3 : Hid (Bgn w w3 g t mb (i + 3) c S.wr nn D #[.slice none 0 0, .slice none 0 0, .bool fold, .bool all, .int .i64 0, .string ⟨#[]⟩]) := hid (B2.out.go G3'.mo gl hmg (B2.out.rw.go1 G3' (by omega))); have k32 := Joins.cell_of_block B3.out.blk 2; have f32 := Joins.unfrozen_of_block B3.out.blk 2; simp at k32; clear G3')
            have B4 : Hid (Bgn w _ g t mb (i + 3) c S.wr nn D #[.slice none 0 0, .slice none 0 0, .bool true, .bool all, .int .i64 0, .string ⟨#[]⟩]) := hid (B3.out.set gl hml htl h4 2 (.bool true))
            clear C3
            by_cases h5 : nx t (i + 3) = 115
            · have hl5 := nx_lt (t := t) (i := i + 3) (by omega)
              have C5 := tookE (rdC (hid B4.out.rw)) 115 (by decide) h5
              go_wp2_with (go_at_call 60; (with_reducible refine C5.mono ?_); rintro e w5 ⟨rfl, G5'⟩; have B5 : Hid (Bgn w w5 g t mb (i + 3 + 1) c S.wr nn D #[.slice none 0 0, .slice none 0 0, .bool true, .bool all, .int .i64 0, .string ⟨#[]⟩]) := hid (B4.out.go G5'.mo gl hmg (B4.out.rw.go1 G5' (by omega))); have k53 := Joins.cell_of_block B5.out.blk 3; have f53 := Joins.unfrozen_of_block B5.out.blk 3; simp at k53; clear G5')
              have B6 : Hid (Bgn w _ g t mb (i + 3 + 1) c S.wr nn D #[.slice none 0 0, .slice none 0 0, .bool true, .bool true, .int .i64 0, .string ⟨#[]⟩]) := hid (B5.out.set gl hml htl h4 3 (.bool true))
              clear C5
              by_cases h7 : nx t (i + 3 + 1) = 58
              · have hl7 := nx_lt (t := t) (i := i + 3 + 1) (by omega)
                have C7 := mustE (rdC (hid B6.out.rw)) 58 (by decide) h7
                go_wp2_with (go_at_call 63; (with_reducible refine C7.mono ?_); rintro e w7 ⟨rfl, G7'⟩; have B7 : Hid (Bgn w w7 g t mb (i + 3 + 1 + 1) c S.wr nn D #[.slice none 0 0, .slice none 0 0, .bool true, .bool true, .int .i64 0, .string ⟨#[]⟩]) := hid (B6.out.go G7'.mo gl hmg (B6.out.rw.go1 G7' (by omega))); clear G7')
                go_meet
                exact ⟨i + 3 + 1 + 1, S.groups, nn, { inner0 S with fold := decide (nx t (i + 2) = 105) || S.top.fold, all := decide (nx t (i + 3) = 115) || S.top.all }, S.wr, S.names, c, D, by unfold begins; rw [hi, if_pos h1, if_neg h2]; simp only; rw [if_pos h3, if_pos h5, if_pos h7]; rfl, rfl, rfl, by omega, B7.out.rx H.out rfl rfl hgv rfl H.out.nms (by omega) (by omega) (by omega), by simpa [inner0, hfo, hal, h3, h5] using B7.out.blk, B7.out.below hNg hNm hNw, B7.out.fr⟩
              · have C7 := mustN (rdC (hid B6.out.rw)) 58 (by decide) h7
                go_wp2_with (go_at_call 63; (with_reducible refine C7.mono ?_); rintro e w7 ⟨rfl, G7'⟩)
                have hbe : begins t S = .error (i + 3 + 1) := by unfold begins; rw [hi, if_pos h1, if_neg h2]; simp only; rw [if_pos h3, if_pos h5, if_neg h7]
                rw [hbe]
                exact ⟨rfl, rfl, (B6.out.below hNg hNm hNw).trans (G7'.mo.below hNg (by have := B6.out.size; omega))⟩
            · have hl5 := hl1
              have C5 := tookN (rdC (hid B4.out.rw)) 115 (by decide) h5
              go_wp2_with (go_at_call 60; (with_reducible refine C5.mono ?_); rintro e w5 ⟨rfl, G5'⟩; have B5 : Hid (Bgn w w5 g t mb (i + 3) c S.wr nn D #[.slice none 0 0, .slice none 0 0, .bool true, .bool all, .int .i64 0, .string ⟨#[]⟩]) := hid (B4.out.go G5'.mo gl hmg (B4.out.rw.go1 G5' (by omega))); have k53 := Joins.cell_of_block B5.out.blk 3; have f53 := Joins.unfrozen_of_block B5.out.blk 3; simp at k53; clear G5')
              have B6 : Hid (Bgn w _ g t mb (i + 3) c S.wr nn D #[.slice none 0 0, .slice none 0 0, .bool true, .bool all, .int .i64 0, .string ⟨#[]⟩]) := hid (B5.out.set gl hml htl h4 3 (.bool all))
              clear C5
              by_cases h7 : nx t (i + 3) = 58
              · have hl7 := nx_lt (t := t) (i := i + 3) (by omega)
                have C7 := mustE (rdC (hid B6.out.rw)) 58 (by decide) h7
                go_wp2_with (go_at_call 63; (with_reducible refine C7.mono ?_); rintro e w7 ⟨rfl, G7'⟩; have B7 : Hid (Bgn w w7 g t mb (i + 3 + 1) c S.wr nn D #[.slice none 0 0, .slice none 0 0, .bool true, .bool all, .int .i64 0, .string ⟨#[]⟩]) := hid (B6.out.go G7'.mo gl hmg (B6.out.rw.go1 G7' (by omega))); clear G7')
                go_meet
                exact ⟨i + 3 + 1, S.groups, nn, { inner0 S with fold := decide (nx t (i + 2) = 105) || S.top.fold, all := decide (nx t (i + 3) = 115) || S.top.all }, S.wr, S.names, c, D, by unfold begins; rw [hi, if_pos h1, if_neg h2]; simp only; rw [if_pos h3, if_neg h5, if_pos h7]; rfl, rfl, rfl, by omega, B7.out.rx H.out rfl rfl hgv rfl H.out.nms (by omega) (by omega) (by omega), by simpa [inner0, hfo, hal, h3, h5] using B7.out.blk, B7.out.below hNg hNm hNw, B7.out.fr⟩
              · have C7 := mustN (rdC (hid B6.out.rw)) 58 (by decide) h7
                go_wp2_with (go_at_call 63; (with_reducible refine C7.mono ?_); rintro e w7 ⟨rfl, G7'⟩)
                have hbe : begins t S = .error (i + 3) := by unfold begins; rw [hi, if_pos h1, if_neg h2]; simp only; rw [if_pos h3, if_neg h5, if_neg h7]
                rw [hbe]
                exact ⟨rfl, rfl, (B6.out.below hNg hNm hNw).trans (G7'.mo.below hNg (by have := B6.out.size; omega))⟩
          · have hl3 := hl1
            have C3 := tookN (rdC (hid B2.out.rw)) 105 (by decide) h3
            go_wp2_with (go_at_call 60; (with_reducible refine C3.mono ?_); rintro e w3 ⟨rfl, G3'⟩; have B3 : Hid (Bgn w w3 g t mb (i + 2) c S.wr nn D #[.slice none 0 0, .slice none 0 0, .bool fold, .bool all, .int .i64 0, .string ⟨#[]⟩]) := hid (B2.out.go G3'.mo gl hmg (B2.out.rw.go1 G3' (by omega))); have k32 := Joins.cell_of_block B3.out.blk 2; have f32 := Joins.unfrozen_of_block B3.out.blk 2; simp at k32; clear G3')
            have B4 : Hid (Bgn w _ g t mb (i + 2) c S.wr nn D #[.slice none 0 0, .slice none 0 0, .bool fold, .bool all, .int .i64 0, .string ⟨#[]⟩]) := hid (B3.out.set gl hml htl h4 2 (.bool fold))
            clear C3
            by_cases h5 : nx t (i + 2) = 115
            · have hl5 := nx_lt (t := t) (i := i + 2) (by omega)
              have C5 := tookE (rdC (hid B4.out.rw)) 115 (by decide) h5
              go_wp2_with (go_at_call 60; (with_reducible refine C5.mono ?_); rintro e w5 ⟨rfl, G5'⟩; have B5 : Hid (Bgn w w5 g t mb (i + 2 + 1) c S.wr nn D #[.slice none 0 0, .slice none 0 0, .bool fold, .bool all, .int .i64 0, .string ⟨#[]⟩]) := hid (B4.out.go G5'.mo gl hmg (B4.out.rw.go1 G5' (by omega))); have k53 := Joins.cell_of_block B5.out.blk 3; have f53 := Joins.unfrozen_of_block B5.out.blk 3; simp at k53; clear G5')
              have B6 : Hid (Bgn w _ g t mb (i + 2 + 1) c S.wr nn D #[.slice none 0 0, .slice none 0 0, .bool fold, .bool true, .int .i64 0, .string ⟨#[]⟩]) := hid (B5.out.set gl hml htl h4 3 (.bool true))
              clear C5
              by_cases h7 : nx t (i + 2 + 1) = 58
              · have hl7 := nx_lt (t := t) (i := i + 2 + 1) (by omega)
                have C7 := mustE (rdC (hid B6.out.rw)) 58 (by decide) h7
                go_wp2_with (go_at_call 63; (with_reducible refine C7.mono ?_); rintro e w7 ⟨rfl, G7'⟩; have B7 : Hid (Bgn w w7 g t mb (i + 2 + 1 + 1) c S.wr nn D #[.slice none 0 0, .slice none 0 0, .bool fold, .bool true, .int .i64 0, .string ⟨#[]⟩]) := hid (B6.out.go G7'.mo gl hmg (B6.out.rw.go1 G7' (by omega))); clear G7')
                go_meet
                exact ⟨i + 2 + 1 + 1, S.groups, nn, { inner0 S with fold := decide (nx t (i + 2) = 105) || S.top.fold, all := decide (nx t (i + 2) = 115) || S.top.all }, S.wr, S.names, c, D, by unfold begins; rw [hi, if_pos h1, if_neg h2]; simp only; rw [if_neg h3, if_pos h5, if_pos h7]; rfl, rfl, rfl, by omega, B7.out.rx H.out rfl rfl hgv rfl H.out.nms (by omega) (by omega) (by omega), by simpa [inner0, hfo, hal, h3, h5] using B7.out.blk, B7.out.below hNg hNm hNw, B7.out.fr⟩
              · have C7 := mustN (rdC (hid B6.out.rw)) 58 (by decide) h7
                go_wp2_with (go_at_call 63; (with_reducible refine C7.mono ?_); rintro e w7 ⟨rfl, G7'⟩)
                have hbe : begins t S = .error (i + 2 + 1) := by unfold begins; rw [hi, if_pos h1, if_neg h2]; simp only; rw [if_neg h3, if_pos h5, if_neg h7]
                rw [hbe]
                exact ⟨rfl, rfl, (B6.out.below hNg hNm hNw).trans (G7'.mo.below hNg (by have := B6.out.size; omega))⟩
            · have hl5 := hl1
              have C5 := tookN (rdC (hid B4.out.rw)) 115 (by decide) h5
              go_wp2_with (go_at_call 60; (with_reducible refine C5.mono ?_); rintro e w5 ⟨rfl, G5'⟩; have B5 : Hid (Bgn w w5 g t mb (i + 2) c S.wr nn D #[.slice none 0 0, .slice none 0 0, .bool fold, .bool all, .int .i64 0, .string ⟨#[]⟩]) := hid (B4.out.go G5'.mo gl hmg (B4.out.rw.go1 G5' (by omega))); have k53 := Joins.cell_of_block B5.out.blk 3; have f53 := Joins.unfrozen_of_block B5.out.blk 3; simp at k53; clear G5')
              have B6 : Hid (Bgn w _ g t mb (i + 2) c S.wr nn D #[.slice none 0 0, .slice none 0 0, .bool fold, .bool all, .int .i64 0, .string ⟨#[]⟩]) := hid (B5.out.set gl hml htl h4 3 (.bool all))
              clear C5
              by_cases h7 : nx t (i + 2) = 58
              · have hl7 := nx_lt (t := t) (i := i + 2) (by omega)
                have C7 := mustE (rdC (hid B6.out.rw)) 58 (by decide) h7
                go_wp2_with (go_at_call 63; (with_reducible refine C7.mono ?_); rintro e w7 ⟨rfl, G7'⟩; have B7 : Hid (Bgn w w7 g t mb (i + 2 + 1) c S.wr nn D #[.slice none 0 0, .slice none 0 0, .bool fold, .bool all, .int .i64 0, .string ⟨#[]⟩]) := hid (B6.out.go G7'.mo gl hmg (B6.out.rw.go1 G7' (by omega))); clear G7')
                go_meet
                exact ⟨i + 2 + 1, S.groups, nn, { inner0 S with fold := decide (nx t (i + 2) = 105) || S.top.fold, all := decide (nx t (i + 2) = 115) || S.top.all }, S.wr, S.names, c, D, by unfold begins; rw [hi, if_pos h1, if_neg h2]; simp only; rw [if_neg h3, if_neg h5, if_pos h7]; rfl, rfl, rfl, by omega, B7.out.rx H.out rfl rfl hgv rfl H.out.nms (by omega) (by omega) (by omega), by simpa [inner0, hfo, hal, h3, h5] using B7.out.blk, B7.out.below hNg hNm hNw, B7.out.fr⟩
              · have C7 := mustN (rdC (hid B6.out.rw)) 58 (by decide) h7
                go_wp2_with (go_at_call 63; (with_reducible refine C7.mono ?_); rintro e w7 ⟨rfl, G7'⟩)
                have hbe : begins t S = .error (i + 2) := by unfold begins; rw [hi, if_pos h1, if_neg h2]; simp only; rw [if_neg h3, if_neg h5, if_neg h7]
                rw [hbe]
                exact ⟨rfl, rfl, (B6.out.below hNg hNm hNw).trans (G7'.mo.below hNg (by have := B6.out.size; omega))⟩
      · have C1 := tookN (rdC (hid B0.out.rw)) 63 (by decide) h1
        go_wp2_with (go_at_call 60; (with_reducible refine C1.mono ?_); rintro e w1 ⟨rfl, G1'⟩; have B1 : Hid (Bgn w w1 g t mb (i + 1) c S.wr nn D #[.slice none 0 0, .slice none 0 0, .bool fold, .bool all, .int .i64 0, .string ⟨#[]⟩]) := hid (B0.out.go G1'.mo gl hmg (B0.out.rw.go1 G1' (by omega))); clear G1')
        have C2 := nextIndex61 S.groups (hid B1.out.rw) hgv (by omega) i
        rw [hgr] at C2
        go_wp2_with (go_at_call 61; (with_reducible refine C2.mono ?_); rintro e w2 ⟨rfl, M2, R2⟩; have B2 : Hid (Bgn w w2 g t mb (i + 1) { c with gv := .int .i64 (gr : Int) } (noteIf (decide (gr > 500)) S.wr 46 i) nn D #[.slice none 0 0, .slice none 0 0, .bool fold, .bool all, .int .i64 0, .string ⟨#[]⟩]) := hid (B1.out.go M2 gl hmg R2); have kI4 := Joins.cell_of_block B2.out.blk 4; have fI4 := Joins.unfrozen_of_block B2.out.blk 4; simp at kI4; clear M2 R2)
        go_meet
        have B3 : Hid (Bgn w _ g t mb (i + 1) { c with gv := .int .i64 (gr : Int) } (noteIf (decide (gr > 500)) S.wr 46 i) nn D #[.slice none 0 0, .slice none 0 0, .bool fold, .bool all, .int .i64 (gr : Int), .string ⟨#[]⟩]) := hid (B2.out.set gl hml htl h4 4 (.int .i64 (gr : Int)))
        exact ⟨i + 1, gr, nn, { inner0 S with index := (gr : Int) }, noteIf (decide (gr > 500)) S.wr 46 i, S.names, { c with gv := .int .i64 (gr : Int) }, D, by unfold begins; rw [hi, if_neg h1]; simp only [capWr, hgr]; rw [← hgr]; rfl, rfl, rfl, by omega, B3.out.rx H.out rfl rfl rfl rfl H.out.nms (by omega) (by omega) (by omega), by simpa [inner0, hfo, hal] using B3.out.blk, B3.out.below hNg hNm hNw, B3.out.fr⟩
    case rest =>
      obtain ⟨k, gr, nn', l, wr1, nms, c', D', hbe, hlc, hlr, hk, X, hblk, hBel, hKf⟩ := hcut.out
      have hNw := H.out.hN
      have HBE := hid hbe
      have HX := hid X
      have HBL := hid hBel
      have HBK := hid hblk
      have HKf := hid hKf
      clear hcut hbe X hBel hblk hKf B0
      obtain ⟨lf, hlf⟩ : ∃ b, l.fold = b := ⟨_, rfl⟩
      obtain ⟨la, hla⟩ : ∃ b, l.all = b := ⟨_, rfl⟩
      obtain ⟨li, hli⟩ : ∃ b, l.index = b := ⟨_, rfl⟩
      obtain ⟨ln, hln⟩ : ∃ b, l.name = b := ⟨_, rfl⟩
      rw [hlf, hla, hli, hln] at HBK
      obtain ⟨i0, hi0, hz0, hz1, hz2⟩ := info_parts info85
      have hov' : c'.ov = .slice (some ⟨ob, 0, none⟩) (n + 1) cap := by rw [← hn]; exact HX.out.ov
      have RWx : Hid (RW wc g t k c' wr1) := HX.out.rw
      have d2 := Joins.cell_of_block RWx.out.rd.blk 2
      simp [hov'] at d2
      have hkl : k ≤ t.length := RWx.out.rd.le
      have hwl : w.heap.size < wc.heap.size := (Array.getElem?_eq_some_iff.1 HBK.out).1
      have hsub : IntKind.i64.wrap ((n : Int) + 1 - 1) = (n : Int) := by simp [IntKind.wrap, IntKind.bits, IntKind.signed]; omega
      have htl' : ∀ b, c'.tv.ownBlock = some b → b < wc.heap.size := fun b hb => (HX.out.tvl (by omega) b hb).1
      by_cases hnest : n ≥ 200
      · have b1 : decide ((200 : Int) ≤ (n : Int)) = true := by simp; omega
        have C1 := note64 RWx 45 i
        go_wp2_with (go_at_call 64; (with_reducible refine C1.mono ?_); rintro e w2 ⟨rfl, M2, R2⟩; have HR2 := hid R2; have HM2 := hid M2; clear M2 R2)
        have X2 : Hid (RX N w2 g t { S with pos := k, wr := (note wr1 45 i), groups := gr, names := nms } c' ob cap c1 c2 G1 F1 mb nn' D') := hid (HX.out.mov HM2.out HR2.out (Nat.le_refl _))
        have ROW : Hid (w2.ownsRow N 85 6 (.slice (some ⟨ob, 0, none⟩) (n + 1) cap) (n + 1) (c1 ++ c2)) := by rw [← hn]; exact X2.out.row
        have hsz : wc.heap.size ≤ w2.heap.size := HM2.out.size
        have HBK2 : Hid (w2.heap[w.heap.size]? = some (.cells #[.slice none 0 0, .slice none 0 0, .bool lf, .bool la, .int .i64 li, .string ln] 85 (0, 0))) := (HM2.out.block _ hwl (by omega)).trans HBK.out
        obtain ⟨x0, x1, x2, x3, x4, x5⟩ := cells6 HBK2.out
        have d2' := Joins.cell_of_block HR2.out.rd.blk 2
        have gl2 : g < w2.heap.size := HR2.out.rd.gl
        simp [hov'] at d2'
        have OE := fun b cap3 w3 ys hM ho => open_end (N := N) (ob := ob) (cap := cap) (n := n + 1) (b := b) (cap3 := cap3) (w3 := w3) (xs := c1 ++ c2) (ys := ys) (L := #[.slice none 0 0, .slice none 0 0, .bool lf, .bool la, .int .i64 li, .string ln]) HR2.out hM ho hog (by omega) (fun b hb => (X2.out.tv b hb).1) (Nat.le_trans H.out.n4 H.out.obl.1)
        have hop : { opened S S.pos k l wr1 with groups := gr, names := nms } = ({ ({ S with pos := k, wr := (note wr1 45 i), groups := gr, names := nms } : St) with low := S.low ++ [S.top], top := l } : St) := by simp [opened, noteIf, hn, hi, hnest]
        go_region_law (refine step_append_moveN rfl (.tmp 75) (.tmp 77) 73 rfl N 85 i0 (.agg L6) 6 80 Tryz.underlying73 hi0 hz0 hz1 hz2 rfl (by decide) (.slice (some ⟨ob, 0, none⟩) (n + 1) cap) (n + 1) (c1 ++ c2) (by simp [Act.eval, Act.put]) (by exact ROW.out.drew.alloc _) ⟨w2.heap.size, 0, none⟩ 1 1 [.slice none 0 0, .slice none 0 0, .bool lf, .bool la, .int .i64 li, .string ln] (by simp [Act.eval, Act.put]) rfl (by decide) (by exact news6 w2.drew #[.slice none 0 0, .slice none 0 0, .bool lf, .bool la, .int .i64 li, .string ln]) (by exact one6 lf la li ln) (by unfold maxLen; omega) (by omega) (by simp; omega) ?_; intro v3 w3 ho3 hM3; obtain ⟨b3, cap3, rfl⟩ := Joins.ownsRow_form ho3 (by omega); have blk3 := (moved_fr hM3 g (by simp; omega) (by simp [Value.ownBlock]; exact hog)).trans ((heap_alloc_old w2.drew _ gl2).trans HR2.out.rd.blk); have k3 := Joins.cell_of_block blk3 2; have f3 := Joins.unfrozen_of_block blk3 2; simp at k3; have HOE := hid (OE b3 cap3 w3 _ hM3 ho3); clear ho3 hM3 blk3)
        all_goals go_end0
        all_goals rw [HBE.out, hop]
        all_goals (obtain ⟨o1, o2, o3, o4, o5⟩ := HOE.out)
        all_goals (refine ⟨rfl, (HBL.out.trans (HM2.out.below H.out.ng (by have := H.out.hN; omega))).trans (o5 N H.out.ng H.out.obl.1 (by have := H.out.hN; omega)), (o1 bx (by have := HA.out.lt; omega) HA.out.g HA.out.ob).trans ((HM2.out.block bx (by have := HA.out.lt; omega) HA.out.g).trans (HKf.out bx HA.out.lt HA.out.g HA.out.mb)), _, _, _, _, _, _, _, _, _, _, X2.out.push (l := l) o1 (by rw [hlf, hla, hli, hln]; show World.ownsRow _ _ _ _ (.slice _ (S.low.length + 1 + 1) _) (S.low.length + 1 + 1) _; rw [hn]; exact o2) o3 (by show RW _ _ _ _ { c' with ov := .slice _ (S.low.length + 1 + 1) _ } _; rw [hn]; exact o4) hlc hlr (by show S.low.length + 1 ≤ k; omega) (fun b hb => Nat.lt_of_lt_of_le (htl' b hb) hsz), ⟨Nat.lt_of_lt_of_le HA.out.lt (Nat.le_trans HBL.out.size (Nat.le_trans hsz (o5 0 (Nat.zero_le _) (Nat.zero_le _) (Nat.zero_le _)).size)), HA.out.g, (by have := HA.out.lt; have := HA.out.ob; omega), HA.out.mb, (by rw [List.append_nil]; exact HA.out.F)⟩⟩)
      · have b1 : decide ((200 : Int) ≤ (n : Int)) = false := by simp; omega
        have HR2 : Hid (RW wc g t k c' wr1) := RWx
        have HM2 : Hid (Mo wc wc g) := Mo.refl wc g
        go_wp2_with fail
        have X2 : Hid (RX N wc g t { S with pos := k, wr := wr1, groups := gr, names := nms } c' ob cap c1 c2 G1 F1 mb nn' D') := hid (HX.out.mov HM2.out HR2.out (Nat.le_refl _))
        have ROW : Hid (wc.ownsRow N 85 6 (.slice (some ⟨ob, 0, none⟩) (n + 1) cap) (n + 1) (c1 ++ c2)) := by rw [← hn]; exact X2.out.row
        have hsz : wc.heap.size ≤ wc.heap.size := HM2.out.size
        have HBK2 : Hid (wc.heap[w.heap.size]? = some (.cells #[.slice none 0 0, .slice none 0 0, .bool lf, .bool la, .int .i64 li, .string ln] 85 (0, 0))) := (HM2.out.block _ hwl (by omega)).trans HBK.out
        obtain ⟨x0, x1, x2, x3, x4, x5⟩ := cells6 HBK2.out
        have d2' := Joins.cell_of_block HR2.out.rd.blk 2
        have gl2 : g < wc.heap.size := HR2.out.rd.gl
        simp [hov'] at d2'
        have OE := fun b cap3 w3 ys hM ho => open_end (N := N) (ob := ob) (cap := cap) (n := n + 1) (b := b) (cap3 := cap3) (w3 := w3) (xs := c1 ++ c2) (ys := ys) (L := #[.slice none 0 0, .slice none 0 0, .bool lf, .bool la, .int .i64 li, .string ln]) HR2.out hM ho hog (by omega) (fun b hb => (X2.out.tv b hb).1) (Nat.le_trans H.out.n4 H.out.obl.1)
        have hop : { opened S S.pos k l wr1 with groups := gr, names := nms } = ({ ({ S with pos := k, wr := wr1, groups := gr, names := nms } : St) with low := S.low ++ [S.top], top := l } : St) := by simp [opened, noteIf, hn, hi, hnest]
        go_region_law (refine step_append_moveN rfl (.tmp 75) (.tmp 77) 73 rfl N 85 i0 (.agg L6) 6 80 Tryz.underlying73 hi0 hz0 hz1 hz2 rfl (by decide) (.slice (some ⟨ob, 0, none⟩) (n + 1) cap) (n + 1) (c1 ++ c2) (by simp [Act.eval, Act.put]) (by exact ROW.out.drew.alloc _) ⟨wc.heap.size, 0, none⟩ 1 1 [.slice none 0 0, .slice none 0 0, .bool lf, .bool la, .int .i64 li, .string ln] (by simp [Act.eval, Act.put]) rfl (by decide) (by exact news6 wc.drew #[.slice none 0 0, .slice none 0 0, .bool lf, .bool la, .int .i64 li, .string ln]) (by exact one6 lf la li ln) (by unfold maxLen; omega) (by omega) (by simp; omega) ?_; intro v3 w3 ho3 hM3; obtain ⟨b3, cap3, rfl⟩ := Joins.ownsRow_form ho3 (by omega); have blk3 := (moved_fr hM3 g (by simp; omega) (by simp [Value.ownBlock]; exact hog)).trans ((heap_alloc_old wc.drew _ gl2).trans HR2.out.rd.blk); have k3 := Joins.cell_of_block blk3 2; have f3 := Joins.unfrozen_of_block blk3 2; simp at k3; have HOE := hid (OE b3 cap3 w3 _ hM3 ho3); clear ho3 hM3 blk3)
        all_goals go_end0
        all_goals rw [HBE.out, hop]
        all_goals (obtain ⟨o1, o2, o3, o4, o5⟩ := HOE.out)
        all_goals (refine ⟨rfl, (HBL.out.trans (HM2.out.below H.out.ng (by have := H.out.hN; omega))).trans (o5 N H.out.ng H.out.obl.1 (by have := H.out.hN; omega)), (o1 bx (by have := HA.out.lt; omega) HA.out.g HA.out.ob).trans ((HM2.out.block bx (by have := HA.out.lt; omega) HA.out.g).trans (HKf.out bx HA.out.lt HA.out.g HA.out.mb)), _, _, _, _, _, _, _, _, _, _, X2.out.push (l := l) o1 (by rw [hlf, hla, hli, hln]; show World.ownsRow _ _ _ _ (.slice _ (S.low.length + 1 + 1) _) (S.low.length + 1 + 1) _; rw [hn]; exact o2) o3 (by show RW _ _ _ _ { c' with ov := .slice _ (S.low.length + 1 + 1) _ } _; rw [hn]; exact o4) hlc hlr (by show S.low.length + 1 ≤ k; omega) (fun b hb => Nat.lt_of_lt_of_le (htl' b hb) hsz), ⟨Nat.lt_of_lt_of_le HA.out.lt (Nat.le_trans HBL.out.size (Nat.le_trans hsz (o5 0 (Nat.zero_le _) (Nat.zero_le _) (Nat.zero_le _)).size)), HA.out.g, (by have := HA.out.lt; have := HA.out.ob; omega), HA.out.mb, (by rw [List.append_nil]; exact HA.out.F)⟩⟩)
end Go.Proofs.YtenanfkmmkmolaaGreatDoor
/- HELPERS: a group ends. -/
namespace Go.Proofs.YtenanfkmmkmolaaGreatDoor
open Go.RowKit Go.Mx
set_option linter.unusedVariables false
set_option linter.unusedSimpArgs false
set_option maxHeartbeats 2000000 in
theorem endGroup44_none {N : Nat} {w : World} {g : Nat} {t : List Int} {S : St} {c : Cs} {ob cap : Nat} {c1 c2 : List Value} {G1 F1 : List Nat} {mb nn : Nat} {D : DataW Unit} (H : Hid (RX N w g t S c ob cap c1 c2 G1 F1 mb nn D)) (hl : S.low = []) {bx : Nat} :
    Calls Tryz.prog 44 #[.pointer (some ⟨g, 0, none⟩)] w fun e w' => EndR N bx w w' g t e (ends t S) := by
  have hov := H.out.ov
  rw [hl] at hov
  have d2 := Joins.cell_of_block H.out.rw.rd.blk 2
  simp [hov] at d2
  have C1 := giveE (rdC (hid H.out.rw))
  have he : ends t S = .error S.pos := by unfold ends; rw [hl]; rfl
  rw [he]
  go_enter Tryz.func44, Tryz.ntmps44
  go_wp2_with (go_at_call 47; (with_reducible refine C1.mono ?_); rintro e w1 ⟨rfl, H1⟩)
  exact ⟨rfl, rfl, H1.mo.below H.out.ng H.out.hN⟩
/-- what stands when the innermost level was taken away -/
theorem drop_facts {N : Nat} {w w3 w5 : World} {g : Nat} {t : List Int} {S : St} {c : Cs} {ob cap : Nat} {c1 c2 : List Value} {G1 F1 : List Nat} {mb nn : Nat} {D : DataW Unit} (h : RX N w g t S c ob cap c1 c2 G1 F1 mb nn D) (ht : 0 < t.length) {low : List Lev} {l : Lev} (hlow : S.low = low ++ [l]) {cur : Array Value} (hc : w.heap[ob]? = some (.cells cur 85 (0, 0))) {cs : List Value} {F' : List Nat} {x : Tree} (hT : TV N w3 cs x F') (hs : ∀ k ∈ F', k ∈ F1 ∨ w.heap.size ≤ k) (hb : ∃ nv, w3.heap[ob]? = some (.cells ((cur.setIfInBounds (S.low.length * 6) nv).setIfInBounds (S.low.length * 6 + 1) (.slice none 0 0)) 85 (0, 0))) (hF : Fr w w3 (ob :: F1))
    (h5 : ∀ j, j < w3.heap.size → j ≠ g → w5.heap[j]? = w3.heap[j]?) (h5g : w5.heap[g]? = some (.cells #[c.tv, .int .i64 (S.pos : Int), .slice (some ⟨ob, 0, none⟩) (low.length + 1) cap, c.gv, c.mv, wrV S.wr] 76 (0, 0))) (hos : w5.os = w3.os) (htp : w5.tape = w3.tape) (hou : w5.output = w3.output) (hz5 : w3.heap.size ≤ w5.heap.size) {bx : Nat} (ha : Ap bx w g ob mb G1 F1) :
    Below N w w5 ∧ TV N w5 cs x F' ∧ w5.heap[bx]? = w.heap[bx]? ∧ bx ∉ F' ∧ ∃ c1' c2' G1' F1', RX N w5 g t { S with low := low, top := l } { c with ov := .slice (some ⟨ob, 0, none⟩) (low.length + 1) cap } ob cap c1' c2' G1' F1' mb nn D ∧ Ap bx w5 g ob mb G1' F1' ∧ ∀ j ∈ F', j ≠ g ∧ j ≠ ob ∧ j ≠ mb ∧ j ∉ G1' ++ F1' ∧ ∀ b, c.tv.ownBlock = some b → j ≠ b := by
  have hgl := h.rw.rd.gl
  have hobl := h.obl
  have hml := map_lt h.map
  have hz := hF.size
  have hnd0 := List.nodup_append.1 h.nd
  have htl := h.tvl ht
  have hgF : g ∉ ob :: F1 := by simp only [List.mem_cons, not_or]; exact ⟨fun e => h.og e.symm, fun hm => (h.ap g (List.mem_append_right _ hm)).1 rfl⟩
  have hgF' : ∀ j ∈ F', j ≠ g := fun j hj => by
    rcases hs j hj with h1 | h1
    · exact (h.ap j (List.mem_append_right _ h1)).1
    · omega
  have hk : ∀ j, j < w.heap.size → j ≠ g → j ∉ ob :: F1 → w5.heap[j]? = w.heap[j]? := fun j h1 h2 h3 => (h5 j (by omega) h2).trans (hF.block j h1 h3)
  have hn : S.low.length = low.length + 1 := by rw [hlow]; simp
  obtain ⟨nv, hb⟩ := hb
  have hob5 := (h5 ob (by omega) h.og).trans hb
  have hlen := h.low.len
  have hrow : w5.ownsRow N 85 6 (.slice (some ⟨ob, 0, none⟩) (low.length + 1) cap) (low.length + 1) c1 := by
    have r1 := row_put (w' := w.setCell ⟨ob, S.low.length * 6, none⟩ nv) h.row hc (Joins.block_setCell hc nv)
    have r2 := row_put (w' := w5) r1 (Joins.block_setCell hc nv) hob5
    have e1 := set_last (c1 := c1) (c2 := c2) (n := S.low.length) (j := 0) (v := nv) (by omega)
    rw [Nat.add_zero] at e1
    rw [e1, set_last (by omega)] at r2
    rw [← hn]
    exact row_less (m := S.low.length) r2 (by omega) (by omega)
  have hGk : ∀ j ∈ G1, w5.heap[j]? = w.heap[j]? := fun j hj => hk j (h.low.low j hj).2 (h.ap j (List.mem_append_left _ hj)).1 (by simp only [List.mem_cons, not_or]; exact ⟨(h.ap j (List.mem_append_left _ hj)).2.1, fun hm => hnd0.2.2 j hj j hm rfl⟩)
  have hMk : w5.heap[mb]? = w.heap[mb]? := hk mb hml h.mg (by simp only [List.mem_cons, not_or]; exact ⟨h.mo, fun hm => (h.ap mb (List.mem_append_right _ hm)).2.2 rfl⟩)
  have hB : Below N w w5 := ⟨hos.trans hF.os, htp.trans hF.tape, hou.trans hF.output, by omega, fun j hj => hk j (by have := h.hN; omega) (by have := h.ng; omega) (by
    simp only [List.mem_cons, not_or]
    exact ⟨by omega, fun hm => by have := (h.top.low j hm).1; omega⟩)⟩
  have hR : RW w5 g t S.pos { c with ov := .slice (some ⟨ob, 0, none⟩) (low.length + 1) cap } S.wr := by
    refine ⟨⟨h5g, ?_, h.rw.rd.le, h.rw.rd.bd, h.rw.rd.byt⟩, h.rw.gl.below (Joins.below_le hB h.n4) (by omega), h.rw.hg⟩
    obtain ⟨ad, cp, e1, e2, e3, e4⟩ := h.rw.rd.txt
    refine ⟨ad, cp, e1, e2, e3, fun j hj => ?_⟩
    obtain ⟨b', e5, e6, e7⟩ := e4 j hj
    refine ⟨b', e5, e6, ?_⟩
    rw [← e7]
    unfold World.cell?
    have hbt : c.tv.ownBlock = some b' := by rw [e1, e5]; rfl
    rw [hk b' (cell_lt e7) e6 (by simp only [List.mem_cons, not_or]; exact ⟨(h.tv b' hbt).1, fun hm => (h.tv b' hbt).2.2 (List.mem_append_right _ hm)⟩)]
  obtain ⟨c1', c2', G1', F1', hG, X⟩ := h.drop (w' := w5) (k := S.pos) (wr := S.wr) (c' := { c with ov := .slice (some ⟨ob, 0, none⟩) (low.length + 1) cap }) hlow rfl rfl rfl rfl hR hrow hGk hMk (Nat.le_refl _)
  have hbxF : bx ∉ F' := fun hm => by
    rcases hs bx hm with h1 | h1
    · exact ha.F (List.mem_append_right _ h1)
    · have := ha.lt
      omega
  refine ⟨hB, hT.kept fun j hj => h5 j (hT.low j hj).2 (hgF' j hj), hk bx ha.lt ha.g (by simp only [List.mem_cons, not_or]; exact ⟨ha.ob, fun hm => ha.F (List.mem_append_right _ hm)⟩), hbxF, c1', c2', G1', F1', X, ⟨by have := ha.lt; omega, ha.g, ha.ob, ha.mb, fun hm => ha.F (List.mem_append_left _ (by rw [hG]; exact hm))⟩, fun j hj => ?_⟩
  refine ⟨hgF' j hj, ?_, ?_, ?_, fun b hb' e => ?_⟩
  · rcases hs j hj with h1 | h1
    · exact (h.ap j (List.mem_append_right _ h1)).2.1
    · omega
  · rcases hs j hj with h1 | h1
    · exact (h.ap j (List.mem_append_right _ h1)).2.2
    · omega
  · rw [← hG]
    intro hm
    rcases hs j hj with h1 | h1
    · exact hnd0.2.2 j hm j h1 rfl
    · have := (h.low.low j hm).2
      omega
  · subst e
    rcases hs j hj with h1 | h1
    · exact (h.tv j hb').2.2 (List.mem_append_right _ h1)
    · have := (htl j hb').1
      omega
set_option maxRecDepth 100000 in
set_option maxHeartbeats 4000000 in
theorem endGroup44_some {N : Nat} {w : World} {g : Nat} {t : List Int} {S : St} {c : Cs} {ob cap : Nat} {c1 c2 : List Value} {G1 F1 : List Nat} {mb nn : Nat} {D : DataW Unit} (H : Hid (RX N w g t S c ob cap c1 c2 G1 F1 mb nn D)) {low : List Lev} {l : Lev} (hlow : S.low = low ++ [l]) (hx : nx t S.pos = 41) {bx : Nat} (HA : Hid (Ap bx w g ob mb G1 F1)) :
    Calls Tryz.prog 44 #[.pointer (some ⟨g, 0, none⟩)] w fun e w' => EndR N bx w w' g t e (ends t S) := by
  obtain ⟨i, hi⟩ : ∃ i, S.pos = i := ⟨_, rfl⟩
  obtain ⟨n, hn⟩ : ∃ n, low.length = n := ⟨_, rfl⟩
  have hn1 : S.low.length = n + 1 := by rw [hlow]; simp [hn]
  have hp := H.out.hp
  have hb1 := H.out.b1
  have hb3 := H.out.b3
  rw [hi] at hx hp hb1 hb3
  have hlt := nx_lt (t := t) (i := i) (by omega)
  have R0 : Hid (RW w g t i c S.wr) := by rw [← hi]; exact H.out.rw
  have hov : c.ov = .slice (some ⟨ob, 0, none⟩) (n + 1 + 1) cap := by rw [← hn1]; exact H.out.ov
  have hcap : n + 1 + 1 ≤ cap := by obtain ⟨cur, hc⟩ := row_some H.out.row; have := (row_blk H.out.row hc).2.1; omega
  have cc1 := Joins.cell_of_block R0.out.rd.blk 1
  have ff1 := Joins.unfrozen_of_block R0.out.rd.blk 1
  have cc2 := Joins.cell_of_block R0.out.rd.blk 2
  simp [hov] at cc1 cc2
  have add1 : IntKind.i64.wrap ((i : Int) + 1) = (i : Int) + 1 := i64_small _ (by omega) (by omega)
  have R1 := atSet (k := i + 1) R0 (by omega)
  push_cast at R1
  have X1 : Hid (RX N (w.setCell ⟨g, 1, none⟩ (.int .i64 ((i : Int) + 1))) g t { S with pos := i + 1 } c ob cap c1 c2 G1 F1 mb nn D) := hid (H.out.mov (Mo.set w g 1 _) R1.out (by omega))
  have C1 := top41 (rdC R1) ob (n + 1) cap hov hcap (by omega)
  have e1 : (((n : Int) + 1 + 1) == 1) = false := by simp; omega
  have he : ends t S = addRep t S.top.tree { S with pos := i + 1, low := low, top := l } := by
    unfold ends
    rw [hlow]
    simp [hi]
  rw [he]
  cases hz : addRep t S.top.tree { S with pos := i + 1, low := low, top := l } with
  | error k =>
    go_enter Tryz.func44, Tryz.ntmps44
    go_wp2_with (go_at_call 41; (with_reducible refine C1.mono ?_); rintro e w2 ⟨rfl, G2⟩)
    have X2 : Hid (RX N w2 g t { S with pos := i + 1 } c ob cap c1 c2 G1 F1 mb nn D) := hid (X1.out.mov G2.mo (R1.out.go1 G2 (by omega)) (Nat.le_refl _))
    have HB2 : Hid (Below N w w2) := ((Mo.set w g 1 _).trans G2.mo).below H.out.ng H.out.hN
    have HM2 : Hid (Mo w w2 g) := (Mo.set w g 1 _).trans G2.mo
    clear G2
    obtain ⟨cur, hc⟩ := row_some X2.out.row
    have hAt := X2.out.topAt hc
    have C2 := tree_lv (hid hc) hAt X2.out.top (List.nodup_append.1 X2.out.nd).2.1 (fun hm => (X2.out.ap ob (List.mem_append_right _ hm)).2.1 rfl) (by show S.top.cats.length ≤ 65600; omega) X2.out.hN (by show S.low.length ≤ 65600; omega)
    have hSl : ({ S with pos := i + 1 } : St).low.length = n + 1 := hn1
    rw [hSl] at C2
    have HC := hid hc
    clear hc hAt
    go_wp2_with (go_at_call 48; (with_reducible refine C2.mono ?_); rintro e w3 ⟨cs, F', rfl, hT, hN3, hs3, hb3', hF3⟩; obtain ⟨a0, a2, a4, a5, a7, a6, a8, r1, s1, r2, r3, s2, s3, rfl⟩ := tv_cells hT; have HT := hid hT; have HN3 := hid hN3; have HS3 := hid hs3; have HB3 := hid hb3'; have HF3 := hid hF3; clear hT hN3 hs3 hb3' hF3; have blk3 := (HF3.out.block g X2.out.rw.rd.gl (by simp only [List.mem_cons, not_or]; exact ⟨fun e => X2.out.og e.symm, fun hm => (X2.out.ap g (List.mem_append_right _ hm)).1 rfl⟩)).trans X2.out.rw.rd.blk; have k32 := Joins.cell_of_block blk3 2; have f32 := Joins.unfrozen_of_block blk3 2; simp [hov] at k32; have HBK3 := hid blk3; clear blk3; have gl3 : g < w3.heap.size := (Array.getElem?_eq_some_iff.1 HBK3.out).1)
    have hsub : IntKind.i64.wrap ((n : Int) + 1 + 1 - 1) = (n : Int) + 1 := by simp [IntKind.wrap, IntKind.bits, IntKind.signed]; omega
    have htn : ((n : Int) + 1).toNat = n + 1 := by omega
    have le1 : (n : Int) + 1 ≤ (cap : Int) := by omega
    have le0 : (0 : Int) ≤ (n : Int) + 1 := by omega
    have le2 : n + 1 ≤ cap := by omega
    have hbl : l.reps.length ≤ i := by have := (H.out.b2 l (by rw [hlow]; simp)).1; omega
    obtain ⟨w5, hw5⟩ : ∃ w5, w5 = ((w3.setCell ⟨g, 2, none⟩ (.slice (some ⟨ob, 0, none⟩) (n + 1) cap)).alloc (.cells #[.int .i64 a0, .slice r1 r2 r3, .int .i64 a2, .slice s1 s2 s3, .int .i64 a4, .int .i64 a5, .bool a6, .int .i64 a7, .string a8] 26)).drew := ⟨_, rfl⟩
    have HDF := hid (drop_facts (w5 := w5) X2.out (by omega) (low := low) (l := l) hlow HC.out HT.out HS3.out (by show ∃ nv, w3.heap[ob]? = some (.cells ((cur.setIfInBounds (S.low.length * 6) nv).setIfInBounds (S.low.length * 6 + 1) (.slice none 0 0)) 85 (0, 0)); rw [hn1]; exact HB3.out) HF3.out (fun j h1 h2 => by rw [hw5]; exact (heap_alloc_old _ _ (by simp only [zset]; exact h1)).trans (hset _ _ _ _ j h2)) (by rw [hw5, hn]; exact (heap_alloc_old _ _ (by simp only [zset]; exact gl3)).trans (Joins.block_setCell (i := 2) HBK3.out _)) (by rw [hw5]; rfl) (by rw [hw5]; rfl) (by rw [hw5]; rfl) (by rw [hw5]; show w3.heap.size ≤ (World.alloc _ _).heap.size; simp [zset]) (HA.out.re (Fx := []) HM2.out.size (fun j hj => .inl hj) (by simp)))
    obtain ⟨DB, DT, DK, DN, c1', c2', G1', F1', DX, DA, Dap⟩ := HDF.out
    have C3 := addRep_rx DX DT HN3.out Dap (by show l.reps.length + 1 ≤ i + 1; omega) (by omega) DA DN
    have HDB := hid DB
    have HDK : Hid (w5.heap[bx]? = w.heap[bx]?) := DK.trans (HM2.out.block bx HA.out.lt HA.out.g)
    clear HDF DB DT DX Dap DA DK DN
    have hst : ({ ({ S with pos := i + 1 } : St) with low := low, top := l } : St) = { S with pos := i + 1, low := low, top := l } := rfl
    rw [hst] at C3
    rw [hz] at C3
    go_region
    all_goals go_wp2_with fail
    all_goals rw [← hw5]
    all_goals (refine C3.mono ?_)
    all_goals (rintro e w6 ⟨rfl, hb6⟩)
    all_goals exact ⟨rfl, rfl, (HB2.out.trans HDB.out).trans hb6⟩
  | ok S2 =>
    go_enter Tryz.func44, Tryz.ntmps44
    go_wp2_with (go_at_call 41; (with_reducible refine C1.mono ?_); rintro e w2 ⟨rfl, G2⟩)
    have X2 : Hid (RX N w2 g t { S with pos := i + 1 } c ob cap c1 c2 G1 F1 mb nn D) := hid (X1.out.mov G2.mo (R1.out.go1 G2 (by omega)) (Nat.le_refl _))
    have HB2 : Hid (Below N w w2) := ((Mo.set w g 1 _).trans G2.mo).below H.out.ng H.out.hN
    have HM2 : Hid (Mo w w2 g) := (Mo.set w g 1 _).trans G2.mo
    clear G2
    obtain ⟨cur, hc⟩ := row_some X2.out.row
    have hAt := X2.out.topAt hc
    have C2 := tree_lv (hid hc) hAt X2.out.top (List.nodup_append.1 X2.out.nd).2.1 (fun hm => (X2.out.ap ob (List.mem_append_right _ hm)).2.1 rfl) (by show S.top.cats.length ≤ 65600; omega) X2.out.hN (by show S.low.length ≤ 65600; omega)
    have hSl : ({ S with pos := i + 1 } : St).low.length = n + 1 := hn1
    rw [hSl] at C2
    have HC := hid hc
    clear hc hAt
    go_wp2_with (go_at_call 48; (with_reducible refine C2.mono ?_); rintro e w3 ⟨cs, F', rfl, hT, hN3, hs3, hb3', hF3⟩; obtain ⟨a0, a2, a4, a5, a7, a6, a8, r1, s1, r2, r3, s2, s3, rfl⟩ := tv_cells hT; have HT := hid hT; have HN3 := hid hN3; have HS3 := hid hs3; have HB3 := hid hb3'; have HF3 := hid hF3; clear hT hN3 hs3 hb3' hF3; have blk3 := (HF3.out.block g X2.out.rw.rd.gl (by simp only [List.mem_cons, not_or]; exact ⟨fun e => X2.out.og e.symm, fun hm => (X2.out.ap g (List.mem_append_right _ hm)).1 rfl⟩)).trans X2.out.rw.rd.blk; have k32 := Joins.cell_of_block blk3 2; have f32 := Joins.unfrozen_of_block blk3 2; simp [hov] at k32; have HBK3 := hid blk3; clear blk3; have gl3 : g < w3.heap.size := (Array.getElem?_eq_some_iff.1 HBK3.out).1)
    have hsub : IntKind.i64.wrap ((n : Int) + 1 + 1 - 1) = (n : Int) + 1 := by simp [IntKind.wrap, IntKind.bits, IntKind.signed]; omega
    have htn : ((n : Int) + 1).toNat = n + 1 := by omega
    have le1 : (n : Int) + 1 ≤ (cap : Int) := by omega
    have le0 : (0 : Int) ≤ (n : Int) + 1 := by omega
    have le2 : n + 1 ≤ cap := by omega
    have hbl : l.reps.length ≤ i := by have := (H.out.b2 l (by rw [hlow]; simp)).1; omega
    obtain ⟨w5, hw5⟩ : ∃ w5, w5 = ((w3.setCell ⟨g, 2, none⟩ (.slice (some ⟨ob, 0, none⟩) (n + 1) cap)).alloc (.cells #[.int .i64 a0, .slice r1 r2 r3, .int .i64 a2, .slice s1 s2 s3, .int .i64 a4, .int .i64 a5, .bool a6, .int .i64 a7, .string a8] 26)).drew := ⟨_, rfl⟩
    have HDF := hid (drop_facts (w5 := w5) X2.out (by omega) (low := low) (l := l) hlow HC.out HT.out HS3.out (by show ∃ nv, w3.heap[ob]? = some (.cells ((cur.setIfInBounds (S.low.length * 6) nv).setIfInBounds (S.low.length * 6 + 1) (.slice none 0 0)) 85 (0, 0)); rw [hn1]; exact HB3.out) HF3.out (fun j h1 h2 => by rw [hw5]; exact (heap_alloc_old _ _ (by simp only [zset]; exact h1)).trans (hset _ _ _ _ j h2)) (by rw [hw5, hn]; exact (heap_alloc_old _ _ (by simp only [zset]; exact gl3)).trans (Joins.block_setCell (i := 2) HBK3.out _)) (by rw [hw5]; rfl) (by rw [hw5]; rfl) (by rw [hw5]; rfl) (by rw [hw5]; show w3.heap.size ≤ (World.alloc _ _).heap.size; simp [zset]) (HA.out.re (Fx := []) HM2.out.size (fun j hj => .inl hj) (by simp)))
    obtain ⟨DB, DT, DK, DN, c1', c2', G1', F1', DX, DA, Dap⟩ := HDF.out
    have C3 := addRep_rx DX DT HN3.out Dap (by show l.reps.length + 1 ≤ i + 1; omega) (by omega) DA DN
    have HDB := hid DB
    have HDK : Hid (w5.heap[bx]? = w.heap[bx]?) := DK.trans (HM2.out.block bx HA.out.lt HA.out.g)
    clear HDF DB DT DX Dap DA DK DN
    have hst : ({ ({ S with pos := i + 1 } : St) with low := low, top := l } : St) = { S with pos := i + 1, low := low, top := l } := rfl
    rw [hst] at C3
    rw [hz] at C3
    go_region
    all_goals go_wp2_with fail
    all_goals rw [← hw5]
    all_goals (refine C3.mono ?_)
    all_goals (rintro e w6 ⟨rfl, hb6, hk6, hS6⟩)
    all_goals go_wp2
    all_goals go_end0
    all_goals exact ⟨rfl, (HB2.out.trans HDB.out).trans hb6, hk6.trans HDK.out, hS6⟩
end Go.Proofs.YtenanfkmmkmolaaGreatDoor
