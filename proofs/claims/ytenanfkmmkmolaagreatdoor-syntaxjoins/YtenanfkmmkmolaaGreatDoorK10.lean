/- HELPERS: Pt, De, Pp, Pq, Pr, Sn, Pa, Wo, Pw, Ak, Ld. -/
import Derived.Test.YtenanfkmmkmolaaGreatDoorK09
import Derived.Tactics
import Derived.Tactics2
import Derived.Defers
import Derived.Recover
import Derived.Laws.Pointers
import Derived.Stop.Asserts
import Derived.Test.YtenanfkmmkmolaaGreatDoorRows
import Derived.OpenShut
import Derived.Deep.Strs
import Derived.Lib.LaidTab
import Derived.LaidHandle
import Derived.LaidLaws
import Derived.Deep.DeepHandedRow
/- HELPERS: a reader takes all bytes. -/
namespace Go.Proofs.YtenanfkmmkmolaaGreatDoor
open Go.RowKit Go.Mx
set_option linter.unusedVariables false
set_option linter.unusedSimpArgs false
/-- how a pattern's reading ends -/
def EndP (N : Nat) (w w' : World) (g : Nat) (e : Ending) : Except Nat (Tree × Wr) → Prop
  | .error k => e = Gave k ∧ Below N w w'
  | .ok (x, wr) => ∃ cells F, e = .returned (.agg cells.toArray) ∧ TV N w' cells x F ∧ F.Nodup ∧ Below N w w' ∧ w'.cell? ⟨g, 5, none⟩ = some (wrV wr)
/-- what all rounds come to -/
def lastP (r : Except Nat St) : Except Nat (Tree × Wr) := match r with
  | .error k => .error k
  | .ok S => if S.low.length = 0 then .ok (S.top.tree, S.wr) else .error S.pos
theorem patternP_last (t : List Int) : patternP t = lastP (rounds t (t.length + 1) S0) := rfl
theorem RS.at_ {N b : Nat} {w : World} {g : Nat} {t : List Int} {S : St} (h : RS N b w g t S) : w.cell? ⟨g, 1, none⟩ = some (.int .i64 (S.pos : Int)) ∧ S.pos ≤ 65536 := by
  obtain ⟨c, ob, cap, c1, c2, G1, F1, mb, nn, D, h, _⟩ := h
  have := h.hp
  exact ⟨Joins.cell_of_block h.rw.rd.blk 1, by omega⟩
set_option maxRecDepth 100000 in
set_option maxHeartbeats 8000000 in
theorem pattern27 {N : Nat} {w : World} {g : Nat} {t : List Int} {S0' : St} {f0 : Nat} (H0 : Hid (RS N w.heap.size (w.alloc (.cells Z9 26)) g t S0')) (hf0 : t.length + 1 ≤ S0'.pos + f0) (hNw : N ≤ w.heap.size) {z : Except Nat St} (hz0 : rounds t f0 S0' = z) :
    Calls Tryz.prog 27 #[.pointer (some ⟨g, 0, none⟩)] w fun e w' => EndP N w w' g e (lastP z) := by
  have HB0 : Hid (Below N w (w.alloc (.cells Z9 26))) := Joins.below_le (Joins.below_alloc1 w _) hNw
  have HK0 : Hid ((w.alloc (.cells Z9 26)).heap[w.heap.size]? = some (.cells Z9 26 (0, 0))) := heap_alloc_new w _
  go_enter Tryz.func27, Tryz.ntmps27
  go_wp2_with fail
  go_loopw [] (fun wq => ∃ (f : Nat) (S : St), Hid (RS N w.heap.size wq g t S) ∧ Hid (Below N w wq) ∧ Hid (wq.heap[w.heap.size]? = some (.cells Z9 26 (0, 0))) ∧ t.length + 1 ≤ S.pos + f ∧ Hid (rounds t f S = z))
    (fun wq => 70000 - (match wq.cell? ⟨g, 1, none⟩ with | some (.int _ x) => x.toNat | _ => 0))
  case atStart => exact ⟨f0, S0', H0, HB0, HK0, hf0, hz0⟩
  case round =>
    obtain ⟨f, S, HS, HB, HK, hf, HZ⟩ := hrel
    obtain ⟨c, ob, cap, c1, c2, G1, F1, mb, nn, D, HX, HA⟩ := HS.out
    have H := hid HX
    have HAp := hid HA
    have hgl := HX.rw.rd.gl
    clear HX HA HS H0 HB0 HK0 hf0 hz0
    obtain ⟨i, hi⟩ : ∃ i, S.pos = i := ⟨_, rfl⟩
    obtain ⟨n, hn⟩ : ∃ n, S.low.length = n := ⟨_, rfl⟩
    have hp := H.out.hp
    have hb1 := H.out.b1
    have hb3 := H.out.b3
    rw [hi] at hp hb1 hb3 hf
    rw [hn] at hb1
    have R0 : Hid (RW wr g t i c S.wr) := by rw [← hi]; exact H.out.rw
    have hov : c.ov = .slice (some ⟨ob, 0, none⟩) (n + 1) cap := by rw [← hn]; exact H.out.ov
    have hcap : n + 1 ≤ cap := by obtain ⟨cur, hc⟩ := row_some H.out.row; have := (row_blk H.out.row hc).2.1; omega
    have cP := Joins.cell_of_block R0.out.rd.blk 1
    simp at cP
    have add1 : IntKind.i64.wrap ((i : Int) + 1) = (i : Int) + 1 := i64_small _ (by omega) (by omega)
    have hNg := H.out.ng
    have hNwr := H.out.hN
    have hBxl := HAp.out.lt
    by_cases he : i = t.length
    · have C1 := endedE (rdC R0) true (by simp; exact he)
      have hzS : z = .ok S := by
        have := HZ.out
        cases f with
        | zero => simp [rounds] at this; exact this.symm
        | succ f => rw [rounds, if_pos (by rw [hi]; exact he)] at this; exact this.symm
      by_cases hl : n = 0
      · have hlast : lastP z = .ok (S.top.tree, S.wr) := by rw [hzS]; simp only [lastP]; rw [if_pos (by rw [hn]; exact hl)]
        have b1 : decide ((1 : Int) < (n : Int) + 1) = false := by simp; omega
        have HL := hid hl
        have HE := hid he
        clear hl he
        go_wp2_with (go_at_call 40; (with_reducible refine C1.mono ?_); rintro e w1 ⟨rfl, G1'⟩; have Q1 := rwOn R0 G1' (by omega); have d2 := Joins.cell_of_block Q1.out.rd.blk 2; simp [hov] at d2; have HM1 := hid G1'.mo; clear G1')
        have X1 : Hid (RX N w1 g t S c ob cap c1 c2 G1 F1 mb nn D) := hid (by have := H.out.mov HM1.out (by rw [hi]; exact Q1.out) (Nat.le_refl _); exact this)
        have C2 := top41 (rdC Q1) ob n cap hov hcap (by omega)
        go_wp2_with (go_at_call 41; (with_reducible refine C2.mono ?_); rintro e w2 ⟨rfl, G2⟩; have Q2 := rwOn Q1 G2 (by omega); have HM2 := hid G2.mo; clear G2)
        have X2 : Hid (RX N w2 g t S c ob cap c1 c2 G1 F1 mb nn D) := hid (by have := X1.out.mov HM2.out (by rw [hi]; exact Q2.out) (Nat.le_refl _); exact this)
        obtain ⟨cur, hc⟩ := row_some X2.out.row
        have hAt := X2.out.topAt hc
        have C3 := tree_lv (hid hc) hAt X2.out.top (List.nodup_append.1 X2.out.nd).2.1 (fun hm => (X2.out.ap ob (List.mem_append_right _ hm)).2.1 rfl) (by omega) X2.out.hN (by omega)
        rw [hn] at C3
        clear hc hAt
        have hsz2 : wr.heap.size ≤ w2.heap.size := Nat.le_trans HM1.out.size HM2.out.size
        have A2 : Hid (Ap w.heap.size w2 g ob mb G1 F1) := hid (HAp.out.re (Fx := []) hsz2 (fun j hj => .inl hj) (by simp))
        have HK2 : Hid (w2.heap[w.heap.size]? = some (.cells Z9 26 (0, 0))) := hid (((HM1.out.trans HM2.out).block _ hBxl HAp.out.g).trans HK.out)
        have HB2 : Hid (Below N w w2) := hid (HB.out.trans ((HM1.out.trans HM2.out).below hNg hNwr))
        go_wp2_with (go_at_call 48; (with_reducible refine C3.mono ?_); rintro e w3 ⟨cs, F', rfl, hT, hN3, hs3, hb3', hF3⟩; obtain ⟨a0, a2, a4, a5, a7, a6, a8, r1, s1, r2, r3, s2, s3, rfl⟩ := tv_cells hT; have HT := hid hT; have HN3 := hid hN3; have HS3 := hid hs3; have HF3 := hid hF3; clear hT hN3 hs3 hb3' hF3; have HK3 : Hid (w3.heap[w.heap.size]? = some (.cells Z9 26 (0, 0))) := hid ((HF3.out.block _ A2.out.lt (by simp only [List.mem_cons, not_or]; exact ⟨A2.out.ob, fun hm => A2.out.F (List.mem_append_right _ hm)⟩)).trans HK2.out); obtain ⟨o0, o1, o2, o3, o4, o5, o6, o7, o8⟩ := blk9 HK3.out; obtain ⟨z0, z1, z2, z3, z4, z5, z6, z7, z8⟩ := frz9 HK3.out)
        rw [set9_eq HK3.out]
        refine bodyPost_ret (results_node rfl _ _ w.heap.size _ rfl (setRow_heap _ _ _ _ _ _ HK3.out) rfl) rfl ?_
        show EndP N w _ g _ (lastP z)
        rw [hlast]
        have hbxF : w.heap.size ∉ F' := fun hm => by
          rcases HS3.out _ hm with h1 | h1
          · exact A2.out.F (List.mem_append_right _ h1)
          · have := A2.out.lt; omega
        have hgw : g ≠ w.heap.size := fun e => HAp.out.g e.symm
        have hg3 := (HF3.out.block g X2.out.rw.rd.gl (by simp only [List.mem_cons, not_or]; exact ⟨fun e => X2.out.og e.symm, fun hm => (X2.out.ap g (List.mem_append_right _ hm)).1 rfl⟩)).trans X2.out.rw.rd.blk
        refine ⟨_, F', rfl, HT.out.kept fun j hj => setRow_other _ _ _ _ (fun e => hbxF (e ▸ hj)), HN3.out, (HB2.out.trans (HF3.out.below (fun j hj => by rcases List.mem_cons.1 hj with rfl | hj; exact X2.out.obl.1; exact (X2.out.top.low j hj).1) X2.out.hN)).trans ⟨rfl, rfl, rfl, by simp, fun j hj => setRow_other _ _ _ _ (by omega)⟩, ?_⟩
        exact Joins.cell_of_block ((setRow_other _ _ _ _ hgw).trans hg3) 5
      · have hlast : lastP z = .error i := by rw [hzS]; simp only [lastP]; rw [if_neg (by rw [hn]; exact hl), hi]
        have b1 : decide ((1 : Int) < (n : Int) + 1) = true := by simp; omega
        have HE := hid he
        clear he
        go_wp2_with (go_at_call 40; (with_reducible refine C1.mono ?_); rintro e w1 ⟨rfl, G1'⟩; have Q1 := rwOn R0 G1' (by omega); have d2 := Joins.cell_of_block Q1.out.rd.blk 2; simp [hov] at d2; have HM1 := hid G1'.mo; clear G1')
        have C2 := giveE (rdC Q1)
        go_wp2_with (go_at_call 47; (with_reducible refine C2.mono ?_); rintro e w2 ⟨rfl, G2⟩)
        refine ⟨rfl, ?_⟩; rw [hlast]; exact ⟨rfl, (HB.out.trans (HM1.out.below hNg hNwr)).trans (G2.mo.below hNg (by have := HM1.out.size; omega))⟩
    · have hlt : i < t.length := by omega
      have C1 := endedE (rdC R0) false (by simp; exact he)
      obtain ⟨f', rfl⟩ : ∃ f', f = f' + 1 := ⟨f - 1, by omega⟩
      have HZ2 := HZ.out
      rw [rounds, if_neg (by rw [hi]; exact he)] at HZ2
      have HZ3 := hid HZ2
      clear HZ2 HZ
      by_cases hx : nx t i = 124
      · have hr : round t S = .ok { S with pos := i + 1, top := S.top.endCat } := by unfold round; rw [hi, if_pos hx]
        rw [hr] at HZ3
        go_wp2_with (go_at_call 40; (with_reducible refine C1.mono ?_); rintro e w1 ⟨rfl, G1'⟩; have Q1 := rwOn R0 G1' (by omega); have d1 := Joins.cell_of_block Q1.out.rd.blk 1; have d0 := Joins.cell_of_block Q1.out.rd.blk 0; simp at d1 d0; have HG := hid G1'.mo; clear G1')
        obtain ⟨ad, cp, e1, e2, e3, e4⟩ := Q1.out.rd.txt
        obtain ⟨tb, rfl, e5, e6⟩ := e4 i hlt
        rw [getD_nx hlt] at e6
        rw [e1] at d0
        have il : (i : Int) < (t.length : Int) := by omega
        have il0 : (0 : Int) ≤ (i : Int) := by omega
        clear e4
        rw [hx] at e6
        go_quiet (fail)
        have Q2 : Hid (RW (w1.drewN nq) g t i c S.wr) := Q1.out.mo (Mo.drewN _ g _) Q1.out.rd.blk Q1.out.rd.le
        have HM2 : Hid (Mo wr (w1.drewN nq) g) := HG.out.trans (Mo.drewN _ g _)
        have X2 : Hid (RX N (w1.drewN nq) g t S c ob cap c1 c2 G1 F1 mb nn D) := hid (by have := H.out.mov HM2.out (by rw [hi]; exact Q2.out) (Nat.le_refl _); exact this)
        have A2 : Hid (Ap w.heap.size (w1.drewN nq) g ob mb G1 F1) := hid (HAp.out.re (Fx := []) HM2.out.size (fun j hj => .inl hj) (by simp))
        have HB2 : Hid (Below N w (w1.drewN nq)) := hid (HB.out.trans (HM2.out.below hNg hNwr))
        have HK2 : Hid ((w1.drewN nq).heap[w.heap.size]? = some (.cells Z9 26 (0, 0))) := hid ((HM2.out.block _ hBxl HAp.out.g).trans HK.out)
        clear d1 e6 Q1 HG
        have q1 := Joins.cell_of_block Q2.out.rd.blk 1
        have qf := Joins.unfrozen_of_block Q2.out.rd.blk 1
        simp at q1
        have R3 := atSet (k := i + 1) Q2 (by omega)
        push_cast at R3
        have C3 := top41 (rdC R3) ob n cap hov hcap (by omega)
        go_wp2_with (go_at_call 41; (with_reducible refine C3.mono ?_); rintro e w4 ⟨rfl, G4⟩; have Q4 := rwOn R3 G4 (by omega); have HM4 : Hid (Mo (w1.drewN nq) w4 g) := (Mo.set _ g 1 _).trans G4.mo; clear G4)
        have X4 : Hid (RX N w4 g t { S with pos := i + 1 } c ob cap c1 c2 G1 F1 mb nn D) := hid (X2.out.mov HM4.out Q4.out (by omega))
        have A4 := A2.out.re (w' := w4) (Fx := []) HM4.out.size (fun j hj => .inl hj) (by simp)
        have C5 := bar_rx X4.out (by show S.top.cats.length + 1 ≤ i + 1; omega) (by omega) A4
        rw [show ({ S with pos := i + 1 } : St).low.length = n from hn] at C5
        go_wp2_with (go_at_call 42; (with_reducible refine C5.mono ?_); rintro e w5 ⟨rfl, hB5, hK5, hS5⟩; have HS5 := hid hS5; have HB5 := hid hB5; have HK5 := hid hK5; clear hS5 hB5 hK5)
        obtain ⟨m1, m2⟩ := HS5.out.at_
        refine ⟨⟨f', _, HS5, (HB2.out.trans (HM4.out.below hNg (by have := HM2.out.size; omega))).trans HB5.out, HK5.out.trans ((HM4.out.block _ A2.out.lt A2.out.g).trans HK2.out), by show t.length + 1 ≤ i + 1 + f'; omega, HZ3⟩, ?_⟩
        rw [m1, cP]
        have m3 : i + 1 ≤ 65536 := m2
        show 70000 - (((i + 1 : Nat) : Int)).toNat < 70000 - ((i : Int)).toNat
        omega
      · by_cases hx2 : nx t i = 40
        · have hr : round t S = begins t S := by unfold round; rw [hi, if_neg hx, if_pos hx2]
          rw [hr] at HZ3
          cases hz : begins t S with
          | error k =>
            rw [hz] at HZ3
            have hzk : z = .error k := HZ3.out.symm
            have hx := hx2
            go_wp2_with (go_at_call 40; (with_reducible refine C1.mono ?_); rintro e w1 ⟨rfl, G1'⟩; have Q1 := rwOn R0 G1' (by omega); have d1 := Joins.cell_of_block Q1.out.rd.blk 1; have d0 := Joins.cell_of_block Q1.out.rd.blk 0; simp at d1 d0; have HG := hid G1'.mo; clear G1')
            obtain ⟨ad, cp, e1, e2, e3, e4⟩ := Q1.out.rd.txt
            obtain ⟨tb, rfl, e5, e6⟩ := e4 i hlt
            rw [getD_nx hlt] at e6
            rw [e1] at d0
            have il : (i : Int) < (t.length : Int) := by omega
            have il0 : (0 : Int) ≤ (i : Int) := by omega
            clear e4
            rw [hx] at e6
            go_quiet (fail)
            have Q2 : Hid (RW (w1.drewN nq) g t i c S.wr) := Q1.out.mo (Mo.drewN _ g _) Q1.out.rd.blk Q1.out.rd.le
            have HM2 : Hid (Mo wr (w1.drewN nq) g) := HG.out.trans (Mo.drewN _ g _)
            have X2 : Hid (RX N (w1.drewN nq) g t S c ob cap c1 c2 G1 F1 mb nn D) := hid (by have := H.out.mov HM2.out (by rw [hi]; exact Q2.out) (Nat.le_refl _); exact this)
            have A2 : Hid (Ap w.heap.size (w1.drewN nq) g ob mb G1 F1) := hid (HAp.out.re (Fx := []) HM2.out.size (fun j hj => .inl hj) (by simp))
            have HB2 : Hid (Below N w (w1.drewN nq)) := hid (HB.out.trans (HM2.out.below hNg hNwr))
            have HK2 : Hid ((w1.drewN nq).heap[w.heap.size]? = some (.cells Z9 26 (0, 0))) := hid ((HM2.out.block _ hBxl HAp.out.g).trans HK.out)
            clear d1 e6 Q1 HG
            have C3 := beginGroup43_rx X2 (by rw [hi]; exact hx) A2
            rw [hz] at C3
            go_wp2_with (go_at_call 43; (with_reducible refine C3.mono ?_); rintro e w5 ⟨rfl, hB5⟩)
            refine ⟨rfl, ?_⟩; rw [hzk]; exact ⟨rfl, HB2.out.trans hB5⟩
          | ok S2 =>
            rw [hz] at HZ3
            have hpos : i < S2.pos := by have := round_pos (t := t) (S := S) (S2 := S2) (by rw [hr]; exact hz); omega
            have hx := hx2
            go_wp2_with (go_at_call 40; (with_reducible refine C1.mono ?_); rintro e w1 ⟨rfl, G1'⟩; have Q1 := rwOn R0 G1' (by omega); have d1 := Joins.cell_of_block Q1.out.rd.blk 1; have d0 := Joins.cell_of_block Q1.out.rd.blk 0; simp at d1 d0; have HG := hid G1'.mo; clear G1')
            obtain ⟨ad, cp, e1, e2, e3, e4⟩ := Q1.out.rd.txt
            obtain ⟨tb, rfl, e5, e6⟩ := e4 i hlt
            rw [getD_nx hlt] at e6
            rw [e1] at d0
            have il : (i : Int) < (t.length : Int) := by omega
            have il0 : (0 : Int) ≤ (i : Int) := by omega
            clear e4
            rw [hx] at e6
            go_quiet (fail)
            have Q2 : Hid (RW (w1.drewN nq) g t i c S.wr) := Q1.out.mo (Mo.drewN _ g _) Q1.out.rd.blk Q1.out.rd.le
            have HM2 : Hid (Mo wr (w1.drewN nq) g) := HG.out.trans (Mo.drewN _ g _)
            have X2 : Hid (RX N (w1.drewN nq) g t S c ob cap c1 c2 G1 F1 mb nn D) := hid (by have := H.out.mov HM2.out (by rw [hi]; exact Q2.out) (Nat.le_refl _); exact this)
            have A2 : Hid (Ap w.heap.size (w1.drewN nq) g ob mb G1 F1) := hid (HAp.out.re (Fx := []) HM2.out.size (fun j hj => .inl hj) (by simp))
            have HB2 : Hid (Below N w (w1.drewN nq)) := hid (HB.out.trans (HM2.out.below hNg hNwr))
            have HK2 : Hid ((w1.drewN nq).heap[w.heap.size]? = some (.cells Z9 26 (0, 0))) := hid ((HM2.out.block _ hBxl HAp.out.g).trans HK.out)
            clear d1 e6 Q1 HG
            have C3 := beginGroup43_rx X2 (by rw [hi]; exact hx) A2
            rw [hz] at C3
            go_wp2_with (go_at_call 43; (with_reducible refine C3.mono ?_); rintro e w5 ⟨rfl, hB5, hK5, hS5⟩; have HS5 := hid hS5; have HB5 := hid hB5; have HK5 := hid hK5; clear hS5 hB5 hK5)
            obtain ⟨m1, m2⟩ := HS5.out.at_
            refine ⟨⟨f', S2, HS5, HB2.out.trans HB5.out, HK5.out.trans HK2.out, by omega, HZ3⟩, ?_⟩
            rw [m1, cP]
            show 70000 - ((S2.pos : Int)).toNat < 70000 - ((i : Int)).toNat
            omega
        · by_cases hx3 : nx t i = 41
          · have hr : round t S = ends t S := by unfold round; rw [hi, if_neg hx, if_neg hx2, if_pos hx3]
            rw [hr] at HZ3
            have CE : ∀ W, Hid (RX N W g t S c ob cap c1 c2 G1 F1 mb nn D) → Hid (Ap w.heap.size W g ob mb G1 F1) → Calls Tryz.prog 44 #[.pointer (some ⟨g, 0, none⟩)] W fun e w' => EndR N w.heap.size W w' g t e (ends t S) := fun W HX HA => by
              rcases List.eq_nil_or_concat S.low with hl | ⟨low, l, hl⟩
              · exact endGroup44_none HX hl
              · exact endGroup44_some HX (by rw [hl, List.concat_eq_append]) (by rw [hi]; exact hx3) HA
            cases hz : ends t S with
            | error k =>
              rw [hz] at HZ3
              have hzk : z = .error k := HZ3.out.symm
              have hx := hx3
              go_wp2_with (go_at_call 40; (with_reducible refine C1.mono ?_); rintro e w1 ⟨rfl, G1'⟩; have Q1 := rwOn R0 G1' (by omega); have d1 := Joins.cell_of_block Q1.out.rd.blk 1; have d0 := Joins.cell_of_block Q1.out.rd.blk 0; simp at d1 d0; have HG := hid G1'.mo; clear G1')
              obtain ⟨ad, cp, e1, e2, e3, e4⟩ := Q1.out.rd.txt
              obtain ⟨tb, rfl, e5, e6⟩ := e4 i hlt
              rw [getD_nx hlt] at e6
              rw [e1] at d0
              have il : (i : Int) < (t.length : Int) := by omega
              have il0 : (0 : Int) ≤ (i : Int) := by omega
              clear e4
              rw [hx] at e6
              go_quiet (fail)
              have Q2 : Hid (RW (w1.drewN nq) g t i c S.wr) := Q1.out.mo (Mo.drewN _ g _) Q1.out.rd.blk Q1.out.rd.le
              have HM2 : Hid (Mo wr (w1.drewN nq) g) := HG.out.trans (Mo.drewN _ g _)
              have X2 : Hid (RX N (w1.drewN nq) g t S c ob cap c1 c2 G1 F1 mb nn D) := hid (by have := H.out.mov HM2.out (by rw [hi]; exact Q2.out) (Nat.le_refl _); exact this)
              have A2 : Hid (Ap w.heap.size (w1.drewN nq) g ob mb G1 F1) := hid (HAp.out.re (Fx := []) HM2.out.size (fun j hj => .inl hj) (by simp))
              have HB2 : Hid (Below N w (w1.drewN nq)) := hid (HB.out.trans (HM2.out.below hNg hNwr))
              have HK2 : Hid ((w1.drewN nq).heap[w.heap.size]? = some (.cells Z9 26 (0, 0))) := hid ((HM2.out.block _ hBxl HAp.out.g).trans HK.out)
              clear d1 e6 Q1 HG
              have C3 := CE _ X2 A2
              rw [hz] at C3
              go_wp2_with (go_at_call 44; (with_reducible refine C3.mono ?_); rintro e w5 ⟨rfl, hB5⟩)
              refine ⟨rfl, ?_⟩; rw [hzk]; exact ⟨rfl, HB2.out.trans hB5⟩
            | ok S2 =>
              rw [hz] at HZ3
              have hpos : i < S2.pos := by have := round_pos (t := t) (S := S) (S2 := S2) (by rw [hr]; exact hz); omega
              have hx := hx3
              go_wp2_with (go_at_call 40; (with_reducible refine C1.mono ?_); rintro e w1 ⟨rfl, G1'⟩; have Q1 := rwOn R0 G1' (by omega); have d1 := Joins.cell_of_block Q1.out.rd.blk 1; have d0 := Joins.cell_of_block Q1.out.rd.blk 0; simp at d1 d0; have HG := hid G1'.mo; clear G1')
              obtain ⟨ad, cp, e1, e2, e3, e4⟩ := Q1.out.rd.txt
              obtain ⟨tb, rfl, e5, e6⟩ := e4 i hlt
              rw [getD_nx hlt] at e6
              rw [e1] at d0
              have il : (i : Int) < (t.length : Int) := by omega
              have il0 : (0 : Int) ≤ (i : Int) := by omega
              clear e4
              rw [hx] at e6
              go_quiet (fail)
              have Q2 : Hid (RW (w1.drewN nq) g t i c S.wr) := Q1.out.mo (Mo.drewN _ g _) Q1.out.rd.blk Q1.out.rd.le
              have HM2 : Hid (Mo wr (w1.drewN nq) g) := HG.out.trans (Mo.drewN _ g _)
              have X2 : Hid (RX N (w1.drewN nq) g t S c ob cap c1 c2 G1 F1 mb nn D) := hid (by have := H.out.mov HM2.out (by rw [hi]; exact Q2.out) (Nat.le_refl _); exact this)
              have A2 : Hid (Ap w.heap.size (w1.drewN nq) g ob mb G1 F1) := hid (HAp.out.re (Fx := []) HM2.out.size (fun j hj => .inl hj) (by simp))
              have HB2 : Hid (Below N w (w1.drewN nq)) := hid (HB.out.trans (HM2.out.below hNg hNwr))
              have HK2 : Hid ((w1.drewN nq).heap[w.heap.size]? = some (.cells Z9 26 (0, 0))) := hid ((HM2.out.block _ hBxl HAp.out.g).trans HK.out)
              clear d1 e6 Q1 HG
              have C3 := CE _ X2 A2
              rw [hz] at C3
              go_wp2_with (go_at_call 44; (with_reducible refine C3.mono ?_); rintro e w5 ⟨rfl, hB5, hK5, hS5⟩; have HS5 := hid hS5; have HB5 := hid hB5; have HK5 := hid hK5; clear hS5 hB5 hK5)
              obtain ⟨m1, m2⟩ := HS5.out.at_
              refine ⟨⟨f', S2, HS5, HB2.out.trans HB5.out, HK5.out.trans HK2.out, by omega, HZ3⟩, ?_⟩
              rw [m1, cP]
              show 70000 - ((S2.pos : Int)).toNat < 70000 - ((i : Int)).toNat
              omega
          · have hr : round t S = match atomP t S.top.fold S.top.all i S.wr with | .error k => .error k | .ok (x, k, wr2) => addRep t x { S with pos := k, wr := wr2 } := by unfold round; rw [hi, if_neg hx, if_neg hx2, if_neg hx3]; cases atomP t S.top.fold S.top.all i S.wr <;> rfl
            rw [hr] at HZ3
            cases hat : atomP t S.top.fold S.top.all i S.wr with
            | error k =>
              rw [hat] at HZ3
              have hzk : z = .error k := HZ3.out.symm
              go_wp2_with (go_at_call 40; (with_reducible refine C1.mono ?_); rintro e w1 ⟨rfl, G1'⟩; have Q1 := rwOn R0 G1' (by omega); have d1 := Joins.cell_of_block Q1.out.rd.blk 1; have d0 := Joins.cell_of_block Q1.out.rd.blk 0; simp at d1 d0; have HG := hid G1'.mo; clear G1')
              obtain ⟨ad, cp, e1, e2, e3, e4⟩ := Q1.out.rd.txt
              obtain ⟨tb, rfl, e5, e6⟩ := e4 i hlt
              rw [getD_nx hlt] at e6
              rw [e1] at d0
              have il : (i : Int) < (t.length : Int) := by omega
              have il0 : (0 : Int) ≤ (i : Int) := by omega
              have n1 : (nx t i == 124) = false := by simpa using hx
              have n2 : (nx t i == 40) = false := by simpa using hx2
              have n3 : (nx t i == 41) = false := by simpa using hx3
              clear e4
              go_quiet (fail)
              have Q2 : Hid (RW (w1.drewN nq) g t i c S.wr) := Q1.out.mo (Mo.drewN _ g _) Q1.out.rd.blk Q1.out.rd.le
              have HM2 : Hid (Mo wr (w1.drewN nq) g) := HG.out.trans (Mo.drewN _ g _)
              have X2 : Hid (RX N (w1.drewN nq) g t S c ob cap c1 c2 G1 F1 mb nn D) := hid (by have := H.out.mov HM2.out (by rw [hi]; exact Q2.out) (Nat.le_refl _); exact this)
              have A2 : Hid (Ap w.heap.size (w1.drewN nq) g ob mb G1 F1) := hid (HAp.out.re (Fx := []) HM2.out.size (fun j hj => .inl hj) (by simp))
              have HB2 : Hid (Below N w (w1.drewN nq)) := hid (HB.out.trans (HM2.out.below hNg hNwr))
              have HK2 : Hid ((w1.drewN nq).heap[w.heap.size]? = some (.cells Z9 26 (0, 0))) := hid ((HM2.out.block _ hBxl HAp.out.g).trans HK.out)
              have FL2 := hid X2.out.fl
              clear d1 e6 Q1 HG
              have C3 := endE (atom46 Q2 FL2 hlt) hat
              go_wp2_with (go_at_call 46; (with_reducible refine C3.mono ?_); rintro e w5 ⟨rfl, M5⟩)
              refine ⟨rfl, ?_⟩; rw [hzk]; exact ⟨rfl, HB2.out.trans (M5.below hNg (by have := HM2.out.size; omega))⟩
            | ok r =>
              obtain ⟨x, k, wr2⟩ := r
              rw [hat] at HZ3
              have hik : i < k := atom_pos hat
              have HZ4 : Hid ((match addRep t x { S with pos := k, wr := wr2 } with | .error k => .error k | .ok S2 => rounds t f' S2) = z) := HZ3
              cases hz : addRep t x { S with pos := k, wr := wr2 } with
              | error k2 =>
                rw [hz] at HZ4
                have hzk : z = .error k2 := HZ4.out.symm
                go_wp2_with (go_at_call 40; (with_reducible refine C1.mono ?_); rintro e w1 ⟨rfl, G1'⟩; have Q1 := rwOn R0 G1' (by omega); have d1 := Joins.cell_of_block Q1.out.rd.blk 1; have d0 := Joins.cell_of_block Q1.out.rd.blk 0; simp at d1 d0; have HG := hid G1'.mo; clear G1')
                obtain ⟨ad, cp, e1, e2, e3, e4⟩ := Q1.out.rd.txt
                obtain ⟨tb, rfl, e5, e6⟩ := e4 i hlt
                rw [getD_nx hlt] at e6
                rw [e1] at d0
                have il : (i : Int) < (t.length : Int) := by omega
                have il0 : (0 : Int) ≤ (i : Int) := by omega
                have n1 : (nx t i == 124) = false := by simpa using hx
                have n2 : (nx t i == 40) = false := by simpa using hx2
                have n3 : (nx t i == 41) = false := by simpa using hx3
                clear e4
                go_quiet (fail)
                have Q2 : Hid (RW (w1.drewN nq) g t i c S.wr) := Q1.out.mo (Mo.drewN _ g _) Q1.out.rd.blk Q1.out.rd.le
                have HM2 : Hid (Mo wr (w1.drewN nq) g) := HG.out.trans (Mo.drewN _ g _)
                have X2 : Hid (RX N (w1.drewN nq) g t S c ob cap c1 c2 G1 F1 mb nn D) := hid (by have := H.out.mov HM2.out (by rw [hi]; exact Q2.out) (Nat.le_refl _); exact this)
                have A2 : Hid (Ap w.heap.size (w1.drewN nq) g ob mb G1 F1) := hid (HAp.out.re (Fx := []) HM2.out.size (fun j hj => .inl hj) (by simp))
                have HB2 : Hid (Below N w (w1.drewN nq)) := hid (HB.out.trans (HM2.out.below hNg hNwr))
                have HK2 : Hid ((w1.drewN nq).heap[w.heap.size]? = some (.cells Z9 26 (0, 0))) := hid ((HM2.out.block _ hBxl HAp.out.g).trans HK.out)
                have FL2 := hid X2.out.fl
                clear d1 e6 Q1 HG
                have C3 := endO (atom46 Q2 FL2 hlt) hat
                go_wp2_with (go_at_call 46; (with_reducible refine C3.mono ?_); rintro e w4 ⟨v4, rfl, ⟨cells, Fx, rfl, T4, N4⟩, M4, R4⟩; have HT4 := hid T4; have HM4 := hid M4; have HR4 := hid R4; have HN4 := hid N4; have C5 := atom_rx X2.out M4 R4 (by omega) (by omega) T4 N4 A2.out; rw [hz] at C5; clear T4 M4 R4 N4)
                go_wp2_with (go_at_call 45; (with_reducible refine C5.mono ?_); rintro e w5 ⟨rfl, hB5⟩)
                refine ⟨rfl, ?_⟩; rw [hzk]; exact ⟨rfl, (HB2.out.trans (HM4.out.below hNg (by have := HM2.out.size; omega))).trans hB5⟩
              | ok S2 =>
                rw [hz] at HZ4
                have HZ3 := HZ4
                have hpos : i < S2.pos := by have := round_pos (t := t) (S := S) (S2 := S2) (by rw [hr, hat]; exact hz); omega
                go_wp2_with (go_at_call 40; (with_reducible refine C1.mono ?_); rintro e w1 ⟨rfl, G1'⟩; have Q1 := rwOn R0 G1' (by omega); have d1 := Joins.cell_of_block Q1.out.rd.blk 1; have d0 := Joins.cell_of_block Q1.out.rd.blk 0; simp at d1 d0; have HG := hid G1'.mo; clear G1')
                obtain ⟨ad, cp, e1, e2, e3, e4⟩ := Q1.out.rd.txt
                obtain ⟨tb, rfl, e5, e6⟩ := e4 i hlt
                rw [getD_nx hlt] at e6
                rw [e1] at d0
                have il : (i : Int) < (t.length : Int) := by omega
                have il0 : (0 : Int) ≤ (i : Int) := by omega
                have n1 : (nx t i == 124) = false := by simpa using hx
                have n2 : (nx t i == 40) = false := by simpa using hx2
                have n3 : (nx t i == 41) = false := by simpa using hx3
                clear e4
                go_quiet (fail)
                have Q2 : Hid (RW (w1.drewN nq) g t i c S.wr) := Q1.out.mo (Mo.drewN _ g _) Q1.out.rd.blk Q1.out.rd.le
                have HM2 : Hid (Mo wr (w1.drewN nq) g) := HG.out.trans (Mo.drewN _ g _)
                have X2 : Hid (RX N (w1.drewN nq) g t S c ob cap c1 c2 G1 F1 mb nn D) := hid (by have := H.out.mov HM2.out (by rw [hi]; exact Q2.out) (Nat.le_refl _); exact this)
                have A2 : Hid (Ap w.heap.size (w1.drewN nq) g ob mb G1 F1) := hid (HAp.out.re (Fx := []) HM2.out.size (fun j hj => .inl hj) (by simp))
                have HB2 : Hid (Below N w (w1.drewN nq)) := hid (HB.out.trans (HM2.out.below hNg hNwr))
                have HK2 : Hid ((w1.drewN nq).heap[w.heap.size]? = some (.cells Z9 26 (0, 0))) := hid ((HM2.out.block _ hBxl HAp.out.g).trans HK.out)
                have FL2 := hid X2.out.fl
                clear d1 e6 Q1 HG
                have C3 := endO (atom46 Q2 FL2 hlt) hat
                go_wp2_with (go_at_call 46; (with_reducible refine C3.mono ?_); rintro e w4 ⟨v4, rfl, ⟨cells, Fx, rfl, T4, N4⟩, M4, R4⟩; have HT4 := hid T4; have HM4 := hid M4; have HR4 := hid R4; have HN4 := hid N4; have C5 := atom_rx X2.out M4 R4 (by omega) (by omega) T4 N4 A2.out; rw [hz] at C5; clear T4 M4 R4 N4)
                go_wp2_with (go_at_call 45; (with_reducible refine C5.mono ?_); rintro e w5 ⟨rfl, hB5, hK5, hS5⟩; have HS5 := hid hS5; have HB5 := hid hB5; have HK5 := hid hK5; clear hS5 hB5 hK5)
                obtain ⟨m1, m2⟩ := HS5.out.at_
                refine ⟨⟨f', S2, HS5, (HB2.out.trans (HM4.out.below hNg (by have := HM2.out.size; omega))).trans HB5.out, HK5.out.trans ((HM4.out.block _ A2.out.lt A2.out.g).trans HK2.out), by omega, HZ3⟩, ?_⟩
                rw [m1, cP]
                show 70000 - ((S2.pos : Int)).toNat < 70000 - ((i : Int)).toNat
                omega
end Go.Proofs.YtenanfkmmkmolaaGreatDoor
/- HELPERS: what a reader gave up with is caught. -/
namespace Go.Proofs.YtenanfkmmkmolaaGreatDoor
open Go.RowKit Go.Mx Go.Extern.Stop Go.Stop Go.Extern
set_option linter.unusedVariables false
set_option linter.unusedSimpArgs false
theorem size29 : (Tryz.prog.info? 29).map (·.size) = some 2 := by kernel_rfl
theorem caught_facts {w w1 : World} {x y : Int} (hb1 : w1.heap[w.heap.size + 1]? = some (.cells #[.int .i64 x, .int .i64 y] 29 (0, 0))) (hm1 : Mo ((w.alloc (.cells #[.int .i64 0, .int .i64 0] 29)).alloc (.cells #[.int .i64 0, .int .i64 0] 29)) w1 (w.heap.size + 1)) :
    w1.heap[w.heap.size]? = some (.cells #[.int .i64 0, .int .i64 0] 29 (0, 0)) ∧ w1.cell? ⟨w.heap.size + 1, 0, none⟩ = some (.int .i64 x) ∧ w1.cell? ⟨w.heap.size + 1, 1, none⟩ = some (.int .i64 y) ∧ w1.cell? ⟨w.heap.size, 0, none⟩ = some (.int .i64 0) ∧ w1.cell? ⟨w.heap.size, 1, none⟩ = some (.int .i64 0) ∧ w1.frozen? ⟨w.heap.size, 0, none⟩ = false ∧ w1.frozen? ⟨w.heap.size, 1, none⟩ = false ∧ Below w.heap.size w ((w1.setCell ⟨w.heap.size, 0, none⟩ (.int .i64 x)).setCell ⟨w.heap.size, 1, none⟩ (.int .i64 y)) := by
  have e : w1.heap[w.heap.size]? = some (.cells #[.int .i64 0, .int .i64 0] 29 (0, 0)) := (hm1.block _ (by simp; omega) (by omega)).trans ((heap_alloc_old _ _ (by simp)).trans (heap_alloc_new w _))
  have hs := hm1.size
  simp at hs
  have a := fun i => Joins.cell_of_block hb1 i
  have b := fun i => Joins.cell_of_block e i
  refine ⟨e, a 0, a 1, b 0, b 1, Joins.unfrozen_of_block e 0, Joins.unfrozen_of_block e 1, ⟨hm1.os, hm1.tape, hm1.output, by simp [World.setCell]; omega, fun k hk => ?_⟩⟩
  rw [Below.heap_setCell _ _ _ _ (show k ≠ w.heap.size by omega), Below.heap_setCell _ _ _ _ (show k ≠ w.heap.size by omega), hm1.block k (by simp; omega) (by omega), heap_alloc_old _ _ (by simp; omega), heap_alloc_old _ _ hk]
theorem wpList_store_nodeD {ops : Array Oper} {rest : List Oper} {o : Oper} {a : Act} {w : World} {Q : Exit → Act → World → Prop} (hgd : o.guard = none) (x y : Operand) (ho : o.op = .store 26 x y)
    (nb : Nat) (cells : List Value) (old : Array Value) (hx : a.eval x = .pointer (some ⟨nb, 0, none⟩)) (hy : a.eval y = .agg cells.toArray) (hg : w.heap[nb]? = some (.cells old 26 (0, 0))) (hold : old.size = 9) (h9 : cells.length = 9) (h1 : ∀ u ∈ cells, u.oneCell' = true)
    (h : wpList Tryz.prog ops Q rest (a.put o.dst undef) (w.setRow nb cells.toArray)) : wpList Tryz.prog ops Q (o :: rest) a w :=
  wpList_store_row hgd 26 x y ho nb cells.toArray hx hy 26 old hg (by have : (Tryz.prog.info? 26).map (·.size) = some 9 := by kernel_rfl
                                                                      rw [this]; simp [h9]) (by simp [hold, h9]) (Array.all_eq_true_iff_forall_mem.2 fun u hu => h1 u (by simpa using hu)) h
abbrev Z9c : Array Value := #[.int .i64 0, .slice none 0 0, .int .i64 0, .slice none 0 0, .int .i64 0, .int .i64 0, .bool false, .int .i64 0, .string ⟨#[]⟩]
theorem one9c : ∀ u ∈ Z9c.toList, u.oneCell' = true := by
  intro u hu
  simp at hu
  rcases hu with rfl | rfl | rfl | rfl | rfl | rfl | rfl | rfl | rfl <;> rfl
/-- nothing of what was there has turned but two blocks -/
structure Fr2 (w w' : World) (a b : Nat) : Prop where
  os : w'.os = w.os
  tape : w'.tape = w.tape
  output : w'.output = w.output
  size : w.heap.size ≤ w'.heap.size
  block : ∀ k, k < w.heap.size → k ≠ a → k ≠ b → w'.heap[k]? = w.heap[k]?
set_option maxHeartbeats 1000000 in
theorem caught25 (co at_ : Int) (w : World) (hg : Gl w) : Calls Tryz.prog 25 #[.iface 29 (.agg #[.int .i64 co, .int .i64 at_])] w fun e w' => e = .returned (.agg #[.int .i64 co, .int .i64 at_]) ∧ Below w.heap.size w w' := by
  have C1 := as_hit (w.heap.size + 1) co at_ (.int .i64 0) (.int .i64 0) ((w.alloc (.cells #[.int .i64 0, .int .i64 0] 29)).alloc (.cells #[.int .i64 0, .int .i64 0] 29)) ((World.cell?_alloc_lt _ _ ⟨0, 0, none⟩ (by simp)).trans ((World.cell?_alloc_lt _ _ ⟨0, 0, none⟩ (by have := hg.big; show 0 < w.heap.size; omega)).trans hg.ety)) (by have := heap_alloc_new (w.alloc (.cells #[.int .i64 0, .int .i64 0] 29)) (.cells #[.int .i64 0, .int .i64 0] 29); simpa using this)
  have hta : ∀ (v : Value) (W : World), (Instr.typeAssert (.iface 29 v) 20 56 true).run Tryz.prog W = .ok (.tuple #[.iface 29 v, .bool true]) W := fun v W => by kernel_rfl
  go_enter Tryz.func25, Tryz.ntmps25
  go_wp2_with (go_at_call 28; (with_reducible refine C1.mono ?_); rintro e w1 ⟨rfl, hb1, hm1⟩; obtain ⟨E1, d0, d1, r0, r1, f0, f1, B1⟩ := caught_facts hb1 hm1)
  have K3 := Joins.block_setCell (i := 1) (Joins.block_setCell (i := 0) E1 (.int .i64 co)) (.int .i64 at_)
  refine bodyPost_ret (results_cell_row rfl _ _ w.heap.size 29 #[.int .i64 co, .int .i64 at_] (0, 0) _ rfl K3 Tryz.underlying29 rfl (by rw [size29]; rfl)) rfl ?_
  exact ⟨rfl, B1⟩

theorem gave_end {w w1 : World} {tb eb : Nat} {t0 : Array Value} {ev V : Value} (B1 : Below w.heap.size w w1) (E1 : w1.heap[tb]? = some (.cells t0 26 (0, 0))) (E3 : (w1.setRow tb Z9c).heap[eb]? = some (.cells #[ev] 56 (0, 0))) (hne : tb ≠ eb) :
    ((w1.setRow tb Z9c).setCell ⟨eb, 0, none⟩ V).heap[tb]? = some (.cells Z9c 26 (0, 0)) ∧ ((w1.setRow tb Z9c).setCell ⟨eb, 0, none⟩ V).heap[eb]? = some (.cells #[V] 56 (0, 0)) ∧ Fr2 w ((w1.setRow tb Z9c).setCell ⟨eb, 0, none⟩ V) tb eb := by
  refine ⟨(Below.heap_setCell _ _ _ _ hne).trans (setRow_heap _ _ _ _ _ _ E1), Joins.block_setCell E3 V, ⟨B1.os, B1.tape, B1.output, by have := B1.size; simp [World.setCell]; exact this, fun k hk h1 h2 => ?_⟩⟩
  rw [Below.heap_setCell _ _ _ _ h2, setRow_other _ _ _ _ h1]
  exact B1.block k hk
set_option maxHeartbeats 2000000 in
theorem defer24_gave (tb eb : Nat) (co at_ : Int) (t0 : Array Value) (ev : Value) (older : List PanicEntry) (w : World) (hg : Gl w) (htb : w.heap[tb]? = some (.cells t0 26 (0, 0))) (h9 : t0.size = 9) (heb : w.heap[eb]? = some (.cells #[ev] 56 (0, 0))) (hne : tb ≠ eb) :
    CallsD Tryz.prog 24 #[.pointer (some ⟨tb, 0, none⟩), .pointer (some ⟨eb, 0, none⟩)] (.panicking ({ v := .iface 29 (.agg #[.int .i64 co, .int .i64 at_]), recovered := false } :: older)) w fun e u' w' =>
      e = .returned (.tuple #[]) ∧ u' = .panicking ({ v := .iface 29 (.agg #[.int .i64 co, .int .i64 at_]), recovered := true } :: older) ∧ w'.heap[tb]? = some (.cells Z9c 26 (0, 0)) ∧ w'.heap[eb]? = some (.cells #[.iface 29 (.agg #[.int .i64 co, .int .i64 at_])] 56 (0, 0)) ∧ Fr2 w w' tb eb := by
  refine callsD_of_wpS Tryz.func24 rfl fun c₀ cs hu => ?_
  apply wpS_seq
  apply wpS_region
  simp [wpOpsS, go_sem, recoverD, hu, Tryz.ntmps24, Exit.thenS]
  refine wpS_of_wp ?_
  have hfr : ∀ (x y v : Value), (#[x, y] ++ ((Array.replicate 8 undef).setIfInBounds 1 v).setIfInBounds 0 v : Array Value) = #[x, y, v, v, undef, undef, undef, undef, undef, undef] := fun x y v => by
    apply Array.toList_inj.1
    simp [Array.replicate, List.replicate]
  rw [hfr]
  have C1 := caught25 co at_ w hg
  obtain ⟨htl, hel⟩ : tb < w.heap.size ∧ eb < w.heap.size := ⟨(Array.getElem?_eq_some_iff.1 htb).1, (Array.getElem?_eq_some_iff.1 heb).1⟩
  go_wp2_with (first | (go_at_call 25; (with_reducible refine C1.mono ?_); rintro e w1 ⟨rfl, B1⟩; have E1 := (B1.block tb htl).trans htb; have E2 := (B1.block eb hel).trans heb; have E3 := (setRow_other w1 tb eb Z9c (Ne.symm hne)).trans E2; have k0 := Joins.cell_of_block E3 0; have f0 := Joins.unfrozen_of_block E3 0; simp at k0) | (refine wpList_store_nodeD rfl (.tmp 0) (.tmp 6) rfl tb Z9c.toList t0 rfl rfl E1 h9 rfl one9c ?_))
  have F := gave_end (V := .iface 29 (.agg #[.int .i64 co, .int .i64 at_])) B1 E1 E3 hne
  simp only [bodyPostS, results, Tryz.results24]
  simp
  exact F
set_option maxHeartbeats 2000000 in
theorem defer24_idle (tb eb : Nat) (w : World) :
    CallsD Tryz.prog 24 #[.pointer (some ⟨tb, 0, none⟩), .pointer (some ⟨eb, 0, none⟩)] .returning w fun e u' w' => e = .returned (.tuple #[]) ∧ u' = .returning ∧ w' = w := by
  refine callsD_of_wpS Tryz.func24 rfl fun c₀ cs hu => ?_
  apply wpS_seq
  apply wpS_region
  simp [wpOpsS, go_sem, recoverD, hu, Tryz.ntmps24, Exit.thenS]
  refine wpS_of_wp ?_
  have hfr : ∀ (x y v : Value), (#[x, y] ++ ((Array.replicate 8 undef).setIfInBounds 1 v).setIfInBounds 0 v : Array Value) = #[x, y, v, v, undef, undef, undef, undef, undef, undef] := fun x y v => by
    apply Array.toList_inj.1
    simp [Array.replicate, List.replicate]
  rw [hfr]
  go_wp2
  simp only [bodyPostS, results, Tryz.results24]
  cases c₀
  simp_all
end Go.Proofs.YtenanfkmmkmolaaGreatDoor
/- HELPERS: Parse, by what its reader does. -/
namespace Go.Proofs.YtenanfkmmkmolaaGreatDoor
open Go.RowKit Go.Mx Go.Extern.Stop Go.Stop Go.Extern
set_option linter.unusedVariables false
set_option linter.unusedSimpArgs false
theorem res18 (tmps : Array Value) (w : World) (tb eb : Nat) (cs : Array Value) (ev : Value) (h2 : tmps.getD 2 undef = .pointer (some ⟨tb, 0, none⟩)) (h3 : tmps.getD 3 undef = .pointer (some ⟨eb, 0, none⟩)) (ht : w.heap[tb]? = some (.cells cs 26 (0, 0))) (h9 : cs.size = 9) (he : w.heap[eb]? = some (.cells #[ev] 56 (0, 0))) :
    (results Tryz.f18 tmps).run Tryz.prog w = .ok (.tuple #[.agg cs, ev]) w := by
  have h26 : (Tryz.prog.info? 26).map (fun i => i.size) = some cs.size := by
    rw [h9]
    kernel_rfl
  have hl := run_loadVar_row (P := Tryz.prog) w tb 26 26 cs (0, 0) _ ht Tryz.underlying26 rfl h26
  have h2' : tmps[2]?.getD undef = .pointer (some ⟨tb, 0, none⟩) := by simpa using h2
  have h3' : tmps[3]?.getD undef = .pointer (some ⟨eb, 0, none⟩) := by simpa using h3
  have hc := Joins.cell_of_block he 0
  simp at hc
  have hl2 : (loadVar 56 ⟨eb, 0, none⟩).run Tryz.prog w = .ok ev w := by simp [loadVar, isAgg, underlying, Tryz.underlying56, hc, Result.andThen]
  simp [results, Tryz.results18, h2', h3', asAddr, hl, hl2, Result.andThen]
set_option maxHeartbeats 2000000 in
theorem parse18_long (s : ByteArray) (h : 65536 < s.size) (hs : s.size ≤ 9223372036854775807) (w : World) : Calls Tryz.prog 18 #[.string s] w fun e w' => e = .returned (.tuple #[.agg Z9c, .iface 29 (.agg #[.int .i64 2, .int .i64 (-1)])]) ∧ Below w.heap.size w w' := by
  have hb : decide (65536 < (s.size : Int)) = true := by simp; omega
  go_enter_defers Tryz.func18, Tryz.ntmps18
  go_wp2
  refine ⟨_, res18 _ _ w.heap.size (w.heap.size + 1) Z9c (.iface 29 (.agg #[.int .i64 2, .int .i64 (-1)])) rfl rfl ?_ rfl ?_, rfl, ?_⟩
  · exact (heap_alloc_old _ _ (by simp)).trans (heap_alloc_new w _)
  · have := heap_alloc_new (w.alloc (.cells Z9c 26)) (.cells #[.iface 29 (.agg #[.int .i64 2, .int .i64 (-1)])] 56)
    simpa using this
  · exact Joins.below_alloc2 w _ _
/-- the reader gives up -/
theorem parse18_gave (s : ByteArray) (h : s.size ≤ 65536) (w : World) (hgl : Gl w) (k : Nat)
    (HR : ∀ W, Below w.heap.size w W → Gl W → Calls Tryz.prog 26 #[.string s] W fun e w' => ∃ g, e = .returned (.pointer (some ⟨g, 0, none⟩)) ∧ Below W.heap.size W w' ∧ (Calls Tryz.prog 27 #[.pointer (some ⟨g, 0, none⟩)] w' fun e w'' => e = Gave k ∧ Below W.heap.size w' w'')) :
    Calls Tryz.prog 18 #[.string s] w fun e w' => e = .returned (.tuple #[.agg Z9c, .iface 29 (.agg #[.int .i64 40, .int .i64 (k : Int)])]) ∧ Below w.heap.size w w' := by
  have hb : decide (65536 < (s.size : Int)) = false := by simp; omega
  have hmf : ∀ (fn : Fn) (first cap : Array Value) (w : World), (Instr.makeFunc fn first cap).run Tryz.prog w = .ok (.func fn first cap) w := fun _ _ _ _ => rfl
  have B0 : Below w.heap.size w ((w.alloc (.cells Z9c 26)).alloc (.cells #[.nilIface] 56)) := Joins.below_alloc2 w _ _
  have G0 := hgl.below B0 (by have := hgl.big; omega)
  have C1 := HR _ B0 G0
  go_enter_defers Tryz.func18, Tryz.ntmps18
  go_wp2_with (go_at_call 26; (with_reducible refine C1.mono ?_); rintro e w1 ⟨g, rfl, B1, C2⟩)
  go_wp2_with (go_at_call 27; (with_reducible refine C2.mono ?_); rintro e w2 ⟨rfl, B2⟩)
  have htb : w2.heap[w.heap.size]? = some (.cells Z9c 26 (0, 0)) := (B2.block _ (by simp; omega)).trans ((B1.block _ (by simp; omega)).trans ((heap_alloc_old _ _ (by simp)).trans (heap_alloc_new w _)))
  have heb : w2.heap[w.heap.size + 1]? = some (.cells #[.nilIface] 56 (0, 0)) := (B2.block _ (by simp)).trans ((B1.block _ (by simp)).trans (by have := heap_alloc_new (w.alloc (.cells Z9c 26)) (.cells #[.nilIface] 56); simpa using this))
  have BB : Below w.heap.size w w2 := (B0.trans (Joins.below_le B1 (by simp; omega))).trans (Joins.below_le B2 (by simp; omega))
  have G2 := hgl.below BB (by have := hgl.big; omega)
  refine leaves_cons (f := 24) (args := #[.pointer (some ⟨w.heap.size, 0, none⟩), .pointer (some ⟨w.heap.size + 1, 0, none⟩)]) (by simp) (by simp [go_sem]) ?_
  refine (defer24_gave w.heap.size (w.heap.size + 1) 40 k Z9c .nilIface [] w2 G2 htb rfl heb (by omega)).mono ?_
  rintro e u' w3 ⟨rfl, rfl, h1, h2, F3⟩
  refine ⟨_, res18 _ _ w.heap.size (w.heap.size + 1) Z9c _ rfl rfl h1 rfl h2, rfl, ⟨F3.os.trans BB.os, F3.tape.trans BB.tape, F3.output.trans BB.output, Nat.le_trans BB.size F3.size, fun j hj => ?_⟩⟩
  have := BB.size
  exact (F3.block j (by omega) (by omega) (by omega)).trans (BB.block j hj)
end Go.Proofs.YtenanfkmmkmolaaGreatDoor
/- HELPERS: Parse, where its reader takes all bytes. -/
namespace Go.Proofs.YtenanfkmmkmolaaGreatDoor
open Go.RowKit Go.Mx Go.Extern.Stop Go.Stop Go.Extern
set_option linter.unusedVariables false
set_option linter.unusedSimpArgs false
theorem store_node9 {ops : Array Oper} {rest : List Oper} {o : Oper} {a : Act} {w : World} {Q : Exit → Act → World → Prop} (hgd : o.guard = none) (x y : Operand) (ho : o.op = .store 26 x y)
    (nb : Nat) (cs old : Array Value) (hx : a.eval x = .pointer (some ⟨nb, 0, none⟩)) (hy : a.eval y = .agg cs) (hg : w.heap[nb]? = some (.cells old 26 (0, 0))) (hold : old.size = 9) (h9 : cs.size = 9) (h1 : cs.all (·.oneCell') = true)
    (h : wpList Tryz.prog ops Q rest (a.put o.dst undef) (w.setRow nb cs)) : wpList Tryz.prog ops Q (o :: rest) a w :=
  wpList_store_row hgd 26 x y ho nb cs hx hy 26 old hg (by rw [h9]; kernel_rfl) (by rw [hold, h9]) h1 h
/-- the reader takes all bytes, and nothing is wrong -/
theorem parse18_fine (s : ByteArray) (h : s.size ≤ 65536) (w : World) (hgl : Gl w) (T : World → Value → Prop)
    (HR : ∀ W, Below w.heap.size w W → Gl W → w.heap.size + 2 ≤ W.heap.size → Calls Tryz.prog 26 #[.string s] W fun e w' => ∃ g, e = .returned (.pointer (some ⟨g, 0, none⟩)) ∧ Below W.heap.size W w' ∧ (Calls Tryz.prog 27 #[.pointer (some ⟨g, 0, none⟩)] w' fun e w'' => ∃ c0 c1 c2 c3 c4 c5 c6 c7 c8, e = .returned (.agg #[c0, c1, c2, c3, c4, c5, c6, c7, c8]) ∧ Below W.heap.size w' w'' ∧ w''.cell? ⟨g, 5, none⟩ = some .nilIface ∧ W.heap.size ≤ g ∧ ((#[c0, c1, c2, c3, c4, c5, c6, c7, c8] : Array Value).all (·.oneCell') = true) ∧ T w'' (.agg #[c0, c1, c2, c3, c4, c5, c6, c7, c8])))
    (hT : ∀ w1 w2 v, T w1 v → (∀ k, w.heap.size + 2 ≤ k → w2.heap[k]? = w1.heap[k]?) → T w2 v) :
    Calls Tryz.prog 18 #[.string s] w fun e w' => ∃ v, e = .returned (.tuple #[v, .nilIface]) ∧ T w' v ∧ Below w.heap.size w w' := by
  have hb : decide (65536 < (s.size : Int)) = false := by simp; omega
  have hmf : ∀ (fn : Fn) (first cap : Array Value) (w : World), (Instr.makeFunc fn first cap).run Tryz.prog w = .ok (.func fn first cap) w := fun _ _ _ _ => rfl
  have B0 : Below w.heap.size w ((w.alloc (.cells Z9c 26)).alloc (.cells #[.nilIface] 56)) := Joins.below_alloc2 w _ _
  have G0 := hgl.below B0 (by have := hgl.big; omega)
  have C1 := HR _ B0 G0 (by simp)
  go_enter_defers Tryz.func18, Tryz.ntmps18
  go_wp2_with (go_at_call 26; (with_reducible refine C1.mono ?_); rintro e w1 ⟨g, rfl, B1, C2⟩)
  refine C2.mono ?_
  rintro e w2 ⟨c0, c1, c2, c3, c4, c5, c6, c7, c8, rfl, B2, hw5, hg2, hall, hT2⟩
  have htb : w2.heap[w.heap.size]? = some (.cells Z9c 26 (0, 0)) := (B2.block _ (by simp; omega)).trans ((B1.block _ (by simp; omega)).trans ((heap_alloc_old _ _ (by simp)).trans (heap_alloc_new w _)))
  have heb : w2.heap[w.heap.size + 1]? = some (.cells #[.nilIface] 56 (0, 0)) := (B2.block _ (by simp)).trans ((B1.block _ (by simp)).trans (by have := heap_alloc_new (w.alloc (.cells Z9c 26)) (.cells #[.nilIface] 56); simpa using this))
  have BB : Below w.heap.size w w2 := (B0.trans (Joins.below_le B1 (by simp; omega))).trans (Joins.below_le B2 (by simp; omega))
  simp at hg2
  obtain ⟨w3, hw3⟩ : ∃ w3, w3 = w2.setRow w.heap.size #[c0, c1, c2, c3, c4, c5, c6, c7, c8] := ⟨_, rfl⟩
  have ht3 : w3.heap[w.heap.size]? = some (.cells #[c0, c1, c2, c3, c4, c5, c6, c7, c8] 26 (0, 0)) := by rw [hw3]; exact setRow_heap _ _ _ _ _ _ htb
  have he3 : w3.heap[w.heap.size + 1]? = some (.cells #[.nilIface] 56 (0, 0)) := by rw [hw3, setRow_other _ _ _ _ (by omega)]; exact heb
  have hw5' : w3.cell? ⟨g, 5, none⟩ = some .nilIface := by
    rw [← hw5, hw3]
    unfold World.cell?
    rw [setRow_other _ _ _ _ (show g ≠ w.heap.size by omega)]
  have ss : w3.setRow w.heap.size #[c0, c1, c2, c3, c4, c5, c6, c7, c8] = w3 := by rw [hw3, setRow_setRow]
  have k0 := Joins.cell_of_block he3 0
  have f0 := Joins.unfrozen_of_block he3 0
  simp at k0
  have a0 := Joins.cell_of_block ht3 0
  have a1 := Joins.cell_of_block ht3 1
  have a2 := Joins.cell_of_block ht3 2
  have a3 := Joins.cell_of_block ht3 3
  have a4 := Joins.cell_of_block ht3 4
  have a5 := Joins.cell_of_block ht3 5
  have a6 := Joins.cell_of_block ht3 6
  have a7 := Joins.cell_of_block ht3 7
  have a8 := Joins.cell_of_block ht3 8
  simp at a0 a1 a2 a3 a4 a5 a6 a7 a8
  have HW3 : Hid (w3 = w2.setRow w.heap.size #[c0, c1, c2, c3, c4, c5, c6, c7, c8]) := hw3
  clear hw3
  go_wp2_with (first | (refine store_node9 rfl (.tmp 2) (.tmp 15) rfl w.heap.size #[c0, c1, c2, c3, c4, c5, c6, c7, c8] Z9c rfl rfl htb rfl rfl hall ?_; rw [← HW3.out]) | (refine store_node9 rfl (.tmp 2) (.tmp 26) rfl w.heap.size #[c0, c1, c2, c3, c4, c5, c6, c7, c8] #[c0, c1, c2, c3, c4, c5, c6, c7, c8] rfl rfl ht3 rfl rfl hall ?_; rw [ss]))
  have BF : Below w.heap.size w (w3.setCell ⟨w.heap.size + 1, 0, none⟩ .nilIface) := by
    rw [HW3.out]
    refine ⟨BB.os, BB.tape, BB.output, by have := BB.size; simp [World.setCell]; exact this, fun j hj => ?_⟩
    rw [Below.heap_setCell _ _ _ _ (show j ≠ w.heap.size + 1 by omega), setRow_other _ _ _ _ (by omega)]
    exact BB.block j hj
  have TF : T (w3.setCell ⟨w.heap.size + 1, 0, none⟩ .nilIface) (.agg #[c0, c1, c2, c3, c4, c5, c6, c7, c8]) := by
    refine hT w2 _ _ hT2 fun j hj => ?_
    rw [HW3.out, Below.heap_setCell _ _ _ _ (show j ≠ w.heap.size + 1 by omega), setRow_other _ _ _ _ (by omega)]
  have E4 : (w3.setCell ⟨w.heap.size + 1, 0, none⟩ .nilIface).heap[w.heap.size]? = _ := (Below.heap_setCell _ _ _ _ (show w.heap.size ≠ w.heap.size + 1 by omega)).trans ht3
  have E5 := Joins.block_setCell (i := 0) he3 .nilIface
  refine leaves_cons (f := 24) (args := #[.pointer (some ⟨w.heap.size, 0, none⟩), .pointer (some ⟨w.heap.size + 1, 0, none⟩)]) (by simp) (by simp [go_sem]) ?_
  refine (defer24_idle w.heap.size (w.heap.size + 1) _).mono ?_
  rintro e u' w4 ⟨rfl, rfl, rfl⟩
  exact ⟨_, res18 _ _ w.heap.size (w.heap.size + 1) #[c0, c1, c2, c3, c4, c5, c6, c7, c8] _ rfl rfl E4 rfl E5, _, rfl, TF, BF⟩
end Go.Proofs.YtenanfkmmkmolaaGreatDoor
/- HELPERS: Parse, where something is wrong with the pattern. -/
namespace Go.Proofs.YtenanfkmmkmolaaGreatDoor
open Go.RowKit Go.Mx Go.Extern.Stop Go.Stop Go.Extern
set_option linter.unusedVariables false
set_option linter.unusedSimpArgs false
/-- the reader takes all bytes, and something is wrong -/
theorem parse18_wrong (s : ByteArray) (h : s.size ≤ 65536) (w : World) (hgl : Gl w) (co at_ : Int)
    (HR : ∀ W, Below w.heap.size w W → Gl W → Calls Tryz.prog 26 #[.string s] W fun e w' => ∃ g, e = .returned (.pointer (some ⟨g, 0, none⟩)) ∧ Below W.heap.size W w' ∧ (Calls Tryz.prog 27 #[.pointer (some ⟨g, 0, none⟩)] w' fun e w'' => ∃ c0 c1 c2 c3 c4 c5 c6 c7 c8, e = .returned (.agg #[c0, c1, c2, c3, c4, c5, c6, c7, c8]) ∧ Below W.heap.size w' w'' ∧ w''.cell? ⟨g, 5, none⟩ = some (.iface 29 (.agg #[.int .i64 co, .int .i64 at_])) ∧ W.heap.size ≤ g ∧ ((#[c0, c1, c2, c3, c4, c5, c6, c7, c8] : Array Value).all (·.oneCell') = true))) :
    Calls Tryz.prog 18 #[.string s] w fun e w' => e = .returned (.tuple #[.agg Z9c, .iface 29 (.agg #[.int .i64 co, .int .i64 at_])]) ∧ Below w.heap.size w w' := by
  have hb : decide (65536 < (s.size : Int)) = false := by simp; omega
  have hmf : ∀ (fn : Fn) (first cap : Array Value) (w : World), (Instr.makeFunc fn first cap).run Tryz.prog w = .ok (.func fn first cap) w := fun _ _ _ _ => rfl
  have B0 : Below w.heap.size w ((w.alloc (.cells Z9c 26)).alloc (.cells #[.nilIface] 56)) := Joins.below_alloc2 w _ _
  have G0 := hgl.below B0 (by have := hgl.big; omega)
  have C1 := HR _ B0 G0
  go_enter_defers Tryz.func18, Tryz.ntmps18
  go_wp2_with (go_at_call 26; (with_reducible refine C1.mono ?_); rintro e w1 ⟨g, rfl, B1, C2⟩)
  refine C2.mono ?_
  rintro e w2 ⟨c0, c1, c2, c3, c4, c5, c6, c7, c8, rfl, B2, hw5, hg2, hall⟩
  have htb : w2.heap[w.heap.size]? = some (.cells Z9c 26 (0, 0)) := (B2.block _ (by simp; omega)).trans ((B1.block _ (by simp; omega)).trans ((heap_alloc_old _ _ (by simp)).trans (heap_alloc_new w _)))
  have heb : w2.heap[w.heap.size + 1]? = some (.cells #[.nilIface] 56 (0, 0)) := (B2.block _ (by simp)).trans ((B1.block _ (by simp)).trans (by have := heap_alloc_new (w.alloc (.cells Z9c 26)) (.cells #[.nilIface] 56); simpa using this))
  have BB : Below w.heap.size w w2 := (B0.trans (Joins.below_le B1 (by simp; omega))).trans (Joins.below_le B2 (by simp; omega))
  simp at hg2
  obtain ⟨w3, hw3⟩ : ∃ w3, w3 = w2.setRow w.heap.size #[c0, c1, c2, c3, c4, c5, c6, c7, c8] := ⟨_, rfl⟩
  have ht3 : w3.heap[w.heap.size]? = some (.cells #[c0, c1, c2, c3, c4, c5, c6, c7, c8] 26 (0, 0)) := by rw [hw3]; exact setRow_heap _ _ _ _ _ _ htb
  have he3 : w3.heap[w.heap.size + 1]? = some (.cells #[.nilIface] 56 (0, 0)) := by rw [hw3, setRow_other _ _ _ _ (by omega)]; exact heb
  have hw5' : w3.cell? ⟨g, 5, none⟩ = some (.iface 29 (.agg #[.int .i64 co, .int .i64 at_])) := by
    rw [← hw5, hw3]
    unfold World.cell?
    rw [setRow_other _ _ _ _ (show g ≠ w.heap.size by omega)]
  have ss : w3.setRow w.heap.size #[c0, c1, c2, c3, c4, c5, c6, c7, c8] = w3 := by rw [hw3, setRow_setRow]
  have k0 := Joins.cell_of_block he3 0
  have f0 := Joins.unfrozen_of_block he3 0
  simp at k0
  have a0 := Joins.cell_of_block ht3 0
  have a1 := Joins.cell_of_block ht3 1
  have a2 := Joins.cell_of_block ht3 2
  have a3 := Joins.cell_of_block ht3 3
  have a4 := Joins.cell_of_block ht3 4
  have a5 := Joins.cell_of_block ht3 5
  have a6 := Joins.cell_of_block ht3 6
  have a7 := Joins.cell_of_block ht3 7
  have a8 := Joins.cell_of_block ht3 8
  simp at a0 a1 a2 a3 a4 a5 a6 a7 a8
  have HW3 : Hid (w3 = w2.setRow w.heap.size #[c0, c1, c2, c3, c4, c5, c6, c7, c8]) := hw3
  clear hw3
  obtain ⟨z0, z1, z2, z3, z4, z5, z6, z7, z8⟩ := frz9 ht3
  have g1 : ¬ g = w.heap.size := by omega
  have g2 : ¬ g = w.heap.size + 1 := by omega
  have HT3 := hid ht3
  have HE3 := hid he3
  go_wp2_with (refine store_node9 rfl (.tmp 2) (.tmp 15) rfl w.heap.size #[c0, c1, c2, c3, c4, c5, c6, c7, c8] Z9c rfl rfl htb rfl rfl hall ?_; rw [← HW3.out])
  go_region
  all_goals go_wp2
  all_goals rw [set9_eq HT3.out]
  all_goals
    (have E4 : (((w3.setRow w.heap.size Z9c).setCell ⟨w.heap.size + 1, 0, none⟩ (.iface 29 (.agg #[.int .i64 co, .int .i64 at_]))).drew).heap[w.heap.size]? = some (.cells Z9c 26 (0, 0)) := (Below.heap_setCell _ _ _ _ (show w.heap.size ≠ w.heap.size + 1 by omega)).trans (setRow_heap _ _ _ _ _ _ HT3.out)
     have E5 : (((w3.setRow w.heap.size Z9c).setCell ⟨w.heap.size + 1, 0, none⟩ (.iface 29 (.agg #[.int .i64 co, .int .i64 at_]))).drew).heap[w.heap.size + 1]? = some (.cells #[.iface 29 (.agg #[.int .i64 co, .int .i64 at_])] 56 (0, 0)) := Joins.block_setCell (i := 0) ((setRow_other _ _ _ _ (by omega)).trans HE3.out) _
     have BF : Below w.heap.size w (((w3.setRow w.heap.size Z9c).setCell ⟨w.heap.size + 1, 0, none⟩ (.iface 29 (.agg #[.int .i64 co, .int .i64 at_]))).drew) := by
       rw [HW3.out]
       refine ⟨BB.os, BB.tape, BB.output, by have := BB.size; simp [World.setCell]; exact this, fun j hj => ?_⟩
       refine (Below.heap_setCell _ _ _ _ (show j ≠ w.heap.size + 1 by omega)).trans ?_
       rw [setRow_other _ _ _ _ (by omega), setRow_other _ _ _ _ (by omega)]
       exact BB.block j hj
     refine leaves_cons (f := 24) (args := #[.pointer (some ⟨w.heap.size, 0, none⟩), .pointer (some ⟨w.heap.size + 1, 0, none⟩)]) (by simp) (by simp [go_sem]) ?_
     refine (defer24_idle w.heap.size (w.heap.size + 1) _).mono ?_
     rintro e u' w4 ⟨rfl, rfl, rfl⟩
     exact ⟨_, res18 _ _ w.heap.size (w.heap.size + 1) Z9c _ rfl rfl E4 rfl E5, rfl, BF⟩)
end Go.Proofs.YtenanfkmmkmolaaGreatDoor
/- HELPERS: which fault an error is. -/
namespace Go.Proofs.YtenanfkmmkmolaaGreatDoor
open Go.RowKit Go.Mx
set_option linter.unusedVariables false
set_option linter.unusedSimpArgs false
theorem res19 (tmps : Array Value) (w : World) (tb : Nat) (x y : Value) (b : Bool) (h2 : tmps.getD 2 undef = .pointer (some ⟨tb, 0, none⟩)) (h3 : tmps.getD 3 undef = .bool b) (ht : w.heap[tb]? = some (.cells #[x, y] 29 (0, 0))) :
    (results Tryz.f19 tmps).run Tryz.prog w = .ok (.tuple #[.agg #[x, y], .bool b]) w := by
  have hl := run_loadVar_row (P := Tryz.prog) w tb 29 29 #[x, y] (0, 0) _ ht Tryz.underlying29 rfl (by rw [size29]; rfl)
  have h2' : tmps[2]?.getD undef = .pointer (some ⟨tb, 0, none⟩) := by simpa using h2
  have h3' : tmps[3]?.getD undef = .bool b := by simpa using h3
  simp [results, Tryz.results19, h2', h3', asAddr, hl, Result.andThen]
set_option maxHeartbeats 1000000 in
theorem seen19_nil (w : World) : Calls Tryz.prog 19 #[.nilIface] w fun e w' => e = .returned (.tuple #[.agg #[.int .i64 0, .int .i64 0], .bool true]) ∧ Below w.heap.size w w' := by
  go_enter Tryz.func19, Tryz.ntmps19
  go_wp2
  refine bodyPost_ret (res19 _ _ w.heap.size _ _ _ rfl rfl ((heap_alloc_old _ _ (by simp)).trans (heap_alloc_new w _))) rfl ?_
  exact ⟨rfl, Joins.below_alloc2 w _ _⟩
set_option maxHeartbeats 1000000 in
theorem seen19 (co at_ : Int) (w : World) (hg : Gl w) : Calls Tryz.prog 19 #[.iface 29 (.agg #[.int .i64 co, .int .i64 at_])] w fun e w' => e = .returned (.tuple #[.agg #[.int .i64 co, .int .i64 at_], .bool true]) ∧ Below w.heap.size w w' := by
  have C1 := as_hit (w.heap.size + 1) co at_ (.int .i64 0) (.int .i64 0) ((w.alloc (.cells #[.int .i64 0, .int .i64 0] 29)).alloc (.cells #[.int .i64 0, .int .i64 0] 29)) ((World.cell?_alloc_lt _ _ ⟨0, 0, none⟩ (by simp)).trans ((World.cell?_alloc_lt _ _ ⟨0, 0, none⟩ (by have := hg.big; show 0 < w.heap.size; omega)).trans hg.ety)) (by have := heap_alloc_new (w.alloc (.cells #[.int .i64 0, .int .i64 0] 29)) (.cells #[.int .i64 0, .int .i64 0] 29); simpa using this)
  go_enter Tryz.func19, Tryz.ntmps19
  go_wp2_with (go_at_call 28; (with_reducible refine C1.mono ?_); rintro e w1 ⟨rfl, hb1, hm1⟩; obtain ⟨E1, d0, d1, r0, r1, f0, f1, B1⟩ := caught_facts hb1 hm1)
  have K3 := Joins.block_setCell (i := 1) (Joins.block_setCell (i := 0) E1 (.int .i64 co)) (.int .i64 at_)
  refine bodyPost_ret (res19 _ _ w.heap.size _ _ _ rfl rfl K3) rfl ?_
  exact ⟨rfl, B1⟩
end Go.Proofs.YtenanfkmmkmolaaGreatDoor
/- HELPERS: what the program says of a pattern. -/
namespace Go.Proofs.YtenanfkmmkmolaaGreatDoor
open Go.RowKit Go.Mx
set_option linter.unusedVariables false
set_option linter.unusedSimpArgs false
theorem res9 (tmps : Array Value) (w : World) (tb fb : Nat) (cs : Array Value) (x y : Value) (b : Bool) (h2 : tmps.getD 2 undef = .pointer (some ⟨tb, 0, none⟩)) (h3 : tmps.getD 3 undef = .pointer (some ⟨fb, 0, none⟩)) (h4 : tmps.getD 4 undef = .bool b) (ht : w.heap[tb]? = some (.cells cs 26 (0, 0))) (h9 : cs.size = 9) (hf : w.heap[fb]? = some (.cells #[x, y] 29 (0, 0))) :
    (results Tryz.f9 tmps).run Tryz.prog w = .ok (.tuple #[.agg cs, .agg #[x, y], .bool b]) w := by
  have h26 : (Tryz.prog.info? 26).map (fun i => i.size) = some cs.size := by
    rw [h9]
    kernel_rfl
  have hl := run_loadVar_row (P := Tryz.prog) w tb 26 26 cs (0, 0) _ ht Tryz.underlying26 rfl h26
  have hl2 := run_loadVar_row (P := Tryz.prog) w fb 29 29 #[x, y] (0, 0) _ hf Tryz.underlying29 rfl (by rw [size29]; rfl)
  have h2' : tmps[2]?.getD undef = .pointer (some ⟨tb, 0, none⟩) := by simpa using h2
  have h3' : tmps[3]?.getD undef = .pointer (some ⟨fb, 0, none⟩) := by simpa using h3
  have h4' : tmps[4]?.getD undef = .bool b := by simpa using h4
  simp [results, Tryz.results9, h2', h3', h4', asAddr, hl, hl2, Result.andThen]
theorem parsed_facts {w w1 w2 : World} {C : Array Value} (B1 : Below ((w.alloc (.cells Z9c 26)).alloc (.cells #[.int .i64 0, .int .i64 0] 29)).heap.size ((w.alloc (.cells Z9c 26)).alloc (.cells #[.int .i64 0, .int .i64 0] 29)) w1) (B2 : Below (w1.alloc (.cells C 26)).heap.size (w1.alloc (.cells C 26)) w2) :
    w2.heap[w.heap.size]? = some (.cells Z9c 26 (0, 0)) ∧ w2.heap[w.heap.size + 1]? = some (.cells #[.int .i64 0, .int .i64 0] 29 (0, 0)) ∧ w2.heap[w1.heap.size]? = some (.cells C 26 (0, 0)) ∧ w1.heap.size < w2.heap.size ∧ w.heap.size < w2.heap.size ∧ w.heap.size + 1 < w2.heap.size := by
  have s1 := B1.size
  have s2 := B2.size
  simp at s1 s2
  refine ⟨(B2.block _ (by simp; omega)).trans ((heap_alloc_old w1 _ (by omega)).trans ((B1.block _ (by simp; omega)).trans ((heap_alloc_old _ _ (by simp)).trans (heap_alloc_new w _)))), (B2.block _ (by simp; omega)).trans ((heap_alloc_old w1 _ (by omega)).trans ((B1.block _ (by simp)).trans (by have := heap_alloc_new (w.alloc (.cells Z9c 26)) (.cells #[.int .i64 0, .int .i64 0] 29); simpa using this))), (B2.block _ (by simp)).trans (heap_alloc_new w1 _), by omega, by omega, by omega⟩
theorem frz2 {w : World} {b : Nat} {cs : Array Value} (h : w.heap[b]? = some (.cells cs 29 (0, 0))) : w.frozen? ⟨b, 0, none⟩ = false ∧ w.frozen? ⟨b, 1, none⟩ = false := ⟨Joins.unfrozen_of_block h 0, Joins.unfrozen_of_block h 1⟩
theorem blk2 {w : World} {b : Nat} {x y : Value} (h : w.heap[b]? = some (.cells #[x, y] 29 (0, 0))) : w.cell? ⟨b, 0, none⟩ = some x ∧ w.cell? ⟨b, 1, none⟩ = some y := ⟨Joins.cell_of_block h 0, Joins.cell_of_block h 1⟩
theorem fin_parsed {w w1 w2 : World} {C D : Array Value} {x y : Value} {o : Obj} (B1 : Below ((w.alloc (.cells Z9c 26)).alloc (.cells #[.int .i64 0, .int .i64 0] 29)).heap.size ((w.alloc (.cells Z9c 26)).alloc (.cells #[.int .i64 0, .int .i64 0] 29)) w1) (B2 : Below (w1.alloc (.cells C 26)).heap.size (w1.alloc (.cells C 26)) w2) :
    ((((((w2.setRow w.heap.size D).setCell ⟨w.heap.size + 1, 0, none⟩ x).setCell ⟨w.heap.size + 1, 1, none⟩ y).alloc o).drew).heap[w.heap.size]? = some (.cells D 26 (0, 0))) ∧ ((((((w2.setRow w.heap.size D).setCell ⟨w.heap.size + 1, 0, none⟩ x).setCell ⟨w.heap.size + 1, 1, none⟩ y).alloc o).drew).heap[w.heap.size + 1]? = some (.cells #[x, y] 29 (0, 0))) ∧ Below w.heap.size w (((((w2.setRow w.heap.size D).setCell ⟨w.heap.size + 1, 0, none⟩ x).setCell ⟨w.heap.size + 1, 1, none⟩ y).alloc o).drew) ∧ (∀ k, w.heap.size + 2 ≤ k → k < w1.heap.size → (((((w2.setRow w.heap.size D).setCell ⟨w.heap.size + 1, 0, none⟩ x).setCell ⟨w.heap.size + 1, 1, none⟩ y).alloc o).drew).heap[k]? = w1.heap[k]?) := by
  obtain ⟨E2, E3, E5, l1, l2, l3⟩ := parsed_facts B1 B2
  have s1 := B1.size
  have s2 := B2.size
  simp at s1 s2
  have BB : Below w.heap.size w w2 := ((Joins.below_alloc2 w _ _).trans (Joins.below_le B1 (by simp; omega))).trans ((Joins.below_le (Joins.below_alloc1 w1 _) (by omega)).trans (Joins.below_le B2 (by simp; omega)))
  have F : ∀ k, k ≠ w.heap.size → k ≠ w.heap.size + 1 → k < w2.heap.size → (((((w2.setRow w.heap.size D).setCell ⟨w.heap.size + 1, 0, none⟩ x).setCell ⟨w.heap.size + 1, 1, none⟩ y).alloc o).drew).heap[k]? = w2.heap[k]? := by
    intro k h1 h2 h3
    refine (Below.heap_alloc _ _ _ (by simp [World.setCell]; exact h3)).trans ?_
    refine (Below.heap_setCell _ _ _ _ h2).trans ?_
    refine (Below.heap_setCell _ _ _ _ h2).trans ?_
    exact setRow_other _ _ _ _ h1
  refine ⟨?_, ?_, ?_, ?_⟩
  · refine (Below.heap_alloc _ _ _ (by simp [World.setCell]; exact l2)).trans ?_
    refine (Below.heap_setCell _ _ _ _ (show w.heap.size ≠ w.heap.size + 1 by omega)).trans ?_
    refine (Below.heap_setCell _ _ _ _ (show w.heap.size ≠ w.heap.size + 1 by omega)).trans ?_
    exact setRow_heap _ _ _ _ _ _ E2
  · refine (Below.heap_alloc _ _ _ (by simp [World.setCell]; exact l3)).trans ?_
    have e1 : (w2.setRow w.heap.size D).heap[w.heap.size + 1]? = some (.cells #[.int .i64 0, .int .i64 0] 29 (0, 0)) := (setRow_other _ _ _ _ (by omega)).trans E3
    exact Joins.block_setCell (i := 1) (Joins.block_setCell (i := 0) e1 x) y
  · refine ⟨BB.os, BB.tape, BB.output, by have := BB.size; simp [World.setCell]; exact Nat.le_succ_of_le this, fun j hj => ?_⟩
    rw [F j (by omega) (by omega) (by omega)]
    exact BB.block j hj
  · intro k h1 h2
    rw [F k (by omega) (by omega) (by omega), B2.block _ (by simp; omega)]
    exact heap_alloc_old w1 _ h2
set_option maxHeartbeats 2000000 in
theorem parsed9_fine (s : ByteArray) (w : World) (hgl : Gl w) (T : World → Value → Prop)
    (HP : ∀ W, Below w.heap.size w W → Gl W → W.heap.size = w.heap.size + 2 → Calls Tryz.prog 18 #[.string s] W fun e w' => ∃ a0 a2 a4 a5 a7 a6 a8 r1 s1 r2 r3 s2 s3, e = .returned (.tuple #[.agg #[.int .i64 a0, .slice r1 r2 r3, .int .i64 a2, .slice s1 s2 s3, .int .i64 a4, .int .i64 a5, .bool a6, .int .i64 a7, .string a8], .nilIface]) ∧ Below W.heap.size W w' ∧ T w' (.agg #[.int .i64 a0, .slice r1 r2 r3, .int .i64 a2, .slice s1 s2 s3, .int .i64 a4, .int .i64 a5, .bool a6, .int .i64 a7, .string a8])) (hT : ∀ w1 w2 v, T w1 v → (∀ k, w.heap.size + 2 ≤ k → k < w1.heap.size → w2.heap[k]? = w1.heap[k]?) → T w2 v) :
    Calls Tryz.prog 9 #[.string s] w fun e w' => ∃ v, e = .returned (.tuple #[v, .agg #[.int .i64 0, .int .i64 0], .bool true]) ∧ T w' v ∧ Below w.heap.size w w' := by
  have B0 : Below w.heap.size w ((w.alloc (.cells Z9c 26)).alloc (.cells #[.int .i64 0, .int .i64 0] 29)) := Joins.below_alloc2 w _ _
  have G0 := hgl.below B0 (by have := hgl.big; omega)
  have C1 := HP _ B0 G0 (by simp)
  go_enter Tryz.func9, Tryz.ntmps9
  go_wp2_with (go_at_call 18; (with_reducible refine C1.mono ?_); rintro e w1 ⟨a0, a2, a4, a5, a7, a6, a8, r1, s1, r2, r3, s2, s3, rfl, B1, T1⟩)
  have G1 : Gl (w1.alloc (.cells #[.int .i64 a0, .slice r1 r2 r3, .int .i64 a2, .slice s1 s2 s3, .int .i64 a4, .int .i64 a5, .bool a6, .int .i64 a7, .string a8] 26)) := (G0.below B1 (by have := hgl.big; simp; omega)).below (Joins.below_alloc1 w1 _) (by have := B1.size; have := hgl.big; simp at *; omega)
  have C2 := seen19_nil (w1.alloc (.cells #[.int .i64 a0, .slice r1 r2 r3, .int .i64 a2, .slice s1 s2 s3, .int .i64 a4, .int .i64 a5, .bool a6, .int .i64 a7, .string a8] 26))
  have hs1 := B1.size
  simp at hs1
  go_wp2_with (go_at_call 19; (with_reducible refine C2.mono ?_); rintro e w2 ⟨rfl, B2⟩)
  obtain ⟨E2, E3, E5, l1, l2, l3⟩ := parsed_facts B1 B2
  obtain ⟨p0, p1, p2, p3, p4, p5, p6, p7, p8⟩ := blk9 E5
  obtain ⟨o0, o1, o2, o3, o4, o5, o6, o7, o8⟩ := blk9 E2
  obtain ⟨z0, z1, z2, z3, z4, z5, z6, z7, z8⟩ := frz9 E2
  obtain ⟨y0, y1⟩ := blk2 E3
  obtain ⟨x0, x1⟩ := frz2 E3
  have n1 : ¬ w.heap.size = w.heap.size + 1 := by omega
  have n2 : ¬ w.heap.size + 1 = w.heap.size := by omega
  have HE2 := hid E2
  have HE3 := hid E3
  clear E2 E3 E5
  go_region
  all_goals go_wp2
  all_goals rw [set9_eq HE2.out]
  all_goals
    (obtain ⟨e1, e2, e3, e4⟩ := fin_parsed (D := #[.int .i64 a0, .slice r1 r2 r3, .int .i64 a2, .slice s1 s2 s3, .int .i64 a4, .int .i64 a5, .bool a6, .int .i64 a7, .string a8]) (x := .int .i64 0) (y := .int .i64 0) (o := .cells #[.int .i64 0, .int .i64 0] 29) B1 B2
     refine bodyPost_ret (res9 _ _ w.heap.size (w.heap.size + 1) _ _ _ true rfl rfl rfl e1 rfl e2) rfl ?_
     exact ⟨_, rfl, hT _ _ _ T1 e4, e3⟩)
set_option maxHeartbeats 2000000 in
theorem parsed9_fault (s : ByteArray) (w : World) (hgl : Gl w) (T : World → Value → Prop) (co at_ : Int) (hco : ¬ co = 0)
    (HP : ∀ W, Below w.heap.size w W → Gl W → W.heap.size = w.heap.size + 2 → Calls Tryz.prog 18 #[.string s] W fun e w' => ∃ a0 a2 a4 a5 a7 a6 a8 r1 s1 r2 r3 s2 s3, e = .returned (.tuple #[.agg #[.int .i64 a0, .slice r1 r2 r3, .int .i64 a2, .slice s1 s2 s3, .int .i64 a4, .int .i64 a5, .bool a6, .int .i64 a7, .string a8], .iface 29 (.agg #[.int .i64 co, .int .i64 at_])]) ∧ Below W.heap.size W w' ∧ T w' (.agg #[.int .i64 a0, .slice r1 r2 r3, .int .i64 a2, .slice s1 s2 s3, .int .i64 a4, .int .i64 a5, .bool a6, .int .i64 a7, .string a8])) (hT : ∀ w1 w2 v, T w1 v → (∀ k, w.heap.size + 2 ≤ k → k < w1.heap.size → w2.heap[k]? = w1.heap[k]?) → T w2 v) :
    Calls Tryz.prog 9 #[.string s] w fun e w' => ∃ v, e = .returned (.tuple #[v, .agg #[.int .i64 co, .int .i64 at_], .bool true]) ∧ T w' v ∧ Below w.heap.size w w' := by
  have B0 : Below w.heap.size w ((w.alloc (.cells Z9c 26)).alloc (.cells #[.int .i64 0, .int .i64 0] 29)) := Joins.below_alloc2 w _ _
  have G0 := hgl.below B0 (by have := hgl.big; omega)
  have C1 := HP _ B0 G0 (by simp)
  have bco : (co == 0) = false := by simpa using hco
  go_enter Tryz.func9, Tryz.ntmps9
  go_wp2_with (go_at_call 18; (with_reducible refine C1.mono ?_); rintro e w1 ⟨a0, a2, a4, a5, a7, a6, a8, r1, s1, r2, r3, s2, s3, rfl, B1, T1⟩)
  have G1 : Gl (w1.alloc (.cells #[.int .i64 a0, .slice r1 r2 r3, .int .i64 a2, .slice s1 s2 s3, .int .i64 a4, .int .i64 a5, .bool a6, .int .i64 a7, .string a8] 26)) := (G0.below B1 (by have := hgl.big; simp; omega)).below (Joins.below_alloc1 w1 _) (by have := B1.size; have := hgl.big; simp at *; omega)
  have C2 := seen19 co at_ _ G1
  have hs1 := B1.size
  simp at hs1
  go_wp2_with (go_at_call 19; (with_reducible refine C2.mono ?_); rintro e w2 ⟨rfl, B2⟩)
  obtain ⟨E2, E3, E5, l1, l2, l3⟩ := parsed_facts B1 B2
  obtain ⟨p0, p1, p2, p3, p4, p5, p6, p7, p8⟩ := blk9 E5
  obtain ⟨o0, o1, o2, o3, o4, o5, o6, o7, o8⟩ := blk9 E2
  obtain ⟨z0, z1, z2, z3, z4, z5, z6, z7, z8⟩ := frz9 E2
  obtain ⟨y0, y1⟩ := blk2 E3
  obtain ⟨x0, x1⟩ := frz2 E3
  have n1 : ¬ w.heap.size = w.heap.size + 1 := by omega
  have n2 : ¬ w.heap.size + 1 = w.heap.size := by omega
  have HE2 := hid E2
  have HE3 := hid E3
  clear E2 E3 E5
  go_region
  all_goals go_wp2
  all_goals rw [set9_eq HE2.out]
  all_goals
    (obtain ⟨e1, e2, e3, e4⟩ := fin_parsed (D := #[.int .i64 a0, .slice r1 r2 r3, .int .i64 a2, .slice s1 s2 s3, .int .i64 a4, .int .i64 a5, .bool a6, .int .i64 a7, .string a8]) (x := .int .i64 co) (y := .int .i64 at_) (o := .cells #[.int .i64 co, .int .i64 at_] 29) B1 B2
     refine bodyPost_ret (res9 _ _ w.heap.size (w.heap.size + 1) _ _ _ true rfl rfl rfl e1 rfl e2) rfl ?_
     exact ⟨_, rfl, hT _ _ _ T1 e4, e3⟩)
end Go.Proofs.YtenanfkmmkmolaaGreatDoor
/- HELPERS: which faults a pattern that can stand may have. -/
namespace Go.Proofs.YtenanfkmmkmolaaGreatDoor
open Go.RowKit Go.Mx
set_option linter.unusedVariables false
set_option linter.unusedSimpArgs false
def okC (c : Int) : Prop := c = 3 ∨ (41 ≤ c ∧ c ≤ 46)
def okWr (wr : Wr) : Prop := ∀ c a, wr = some (c, a) → okC c
def okE {α : Type} : Except Nat (α × Nat × Wr) → Prop
  | .error _ => True
  | .ok (_, _, wr) => okWr wr
def okS : Except Nat St → Prop
  | .error _ => True
  | .ok S => okWr S.wr
theorem note_ok {wr : Wr} {code at_ : Int} (h : okWr wr) (hc : okC code) : okWr (note wr code at_) := by
  intro c a e
  unfold note at e
  split at e
  · split at e
    · exact h c a e
    · injection e with e; injection e with e1 e2; subst e1; exact hc
  · injection e with e; injection e with e1 e2; subst e1; exact hc
theorem noteIf_ok {b : Bool} {wr : Wr} {code at_ : Int} (h : okWr wr) (hc : okC code) : okWr (noteIf b wr code at_) := by
  unfold noteIf
  split
  · exact note_ok h hc
  · exact h
theorem single2_ok {t : List Int} {i : Nat} {wr : Wr} (h : okWr wr) : okE (single2 t i wr) := by
  unfold single2
  split
  · trivial
  · split
    · exact h
    · exact note_ok h (.inr (by decide))
theorem one_ok {t : List Int} {i : Nat} {wr : Wr} (h : okWr wr) : okE (one t i wr) := by
  unfold one
  split
  · exact single2_ok h
  · split
    · trivial
    · exact h
theorem itemEnd_ok {fold right : Bool} {at_ : Nat} {lo hi : Int} {k : Nat} {wr : Wr} (h : okWr wr) : okE (itemEnd fold right at_ lo hi k wr) := by
  unfold itemEnd
  split
  · split
    · exact note_ok h (.inr (by decide))
    · exact h
  · exact h
theorem item_ok {t : List Int} {fold : Bool} {i : Nat} {wr : Wr} (h : okWr wr) : okE (item t fold i wr) := by
  unfold item
  split
  · exact h
  · have h1 := one_ok (t := t) (i := i) h
    split
    · trivial
    · rename_i lo r1 j wr1 e
      rw [e] at h1
      have h1' : okWr wr1 := h1
      split
      · have h2 := one_ok (t := t) (i := j + 1) h1'
        split
        · trivial
        · rename_i hi r2 k wr2 e2
          rw [e2] at h2
          exact itemEnd_ok h2
      · exact itemEnd_ok h1'
theorem items_ok {t : List Int} {fold : Bool} : ∀ (f : Nat) (L : Rng) (k : Nat) (wr : Wr), okWr wr → okE (items t fold f L k wr) := by
  intro f
  induction f with
  | zero => intro L k wr h; trivial
  | succ f ih =>
    intro L k wr h
    unfold items
    split
    · exact h
    · have h1 := item_ok (t := t) (fold := fold) (i := k) h
      split
      · trivial
      · rename_i L2 j wr2 e
        rw [e] at h1
        exact ih _ _ _ h1
theorem classP_ok {t : List Int} {fold : Bool} {i : Nat} {wr : Wr} (h : okWr wr) : okE (classP t fold i wr) := by
  unfold classP
  split
  · have h1 := item_ok (t := t) (fold := fold) (i := if nx t (i + 1) = 94 then i + 2 else i + 1) h
    split
    · trivial
    · rename_i L1 k1 wr1 e
      rw [e] at h1
      have h2 := items_ok (t := t) (fold := fold) (t.length + 1) L1 k1 wr1 h1
      split
      · trivial
      · rename_i L k wr2 e2
        rw [e2] at h2
        exact noteIf_ok h2 (.inl rfl)
  · trivial
theorem atomP_ok {t : List Int} {fold all : Bool} {i : Nat} {wr : Wr} (h : okWr wr) : okE (atomP t fold all i wr) := by
  unfold atomP
  split
  · exact h
  · split
    · exact h
    · split
      · exact h
      · split
        · have h1 := classP_ok (t := t) (fold := fold) (i := i) h
          split
          · trivial
          · rename_i L k wr2 e
            rw [e] at h1
            exact h1
        · split
          · split
            · split
              · exact h
              · have h1 := single2_ok (t := t) (i := i) h
                split
                · trivial
                · rename_i c b k wr2 e
                  rw [e] at h1
                  exact h1
            · exact h
          · split
            · trivial
            · exact h
theorem numbers_ok {t : List Int} {i : Nat} {wr : Wr} (h : okWr wr) : okE (numbers t i wr) := by
  unfold numbers
  repeat' split
  all_goals first | trivial | exact noteIf_ok h (.inr (by decide))
theorem counted_ok {t : List Int} {x : Tree} {i : Nat} {wr : Wr} (h : okWr wr) : okE (counted t x i wr) := by
  unfold counted
  split
  · exact h
  · split
    · exact h
    · split
      · exact h
      · split
        · have h1 := numbers_ok (t := t) (i := i) h
          split
          · trivial
          · rename_i lo hi k wr2 e
            rw [e] at h1
            exact h1
        · exact h
theorem addRep_ok {t : List Int} {x : Tree} {S : St} (h : okWr S.wr) : okS (addRep t x S) := by
  unfold addRep
  have h1 := counted_ok (t := t) (x := x) (i := S.pos) h
  split
  · trivial
  · rename_i y k wr2 e
    rw [e] at h1
    exact h1
theorem begins_ok {t : List Int} {S : St} (h : okWr S.wr) : okS (begins t S) := by
  unfold begins
  split
  · split
    · split
      · trivial
      · exact noteIf_ok (noteIf_ok (noteIf_ok h (.inr (by decide))) (.inr (by decide))) (.inr (by decide))
    · simp only
      generalize (if nx t (S.pos + 2) = 105 then S.pos + 3 else S.pos + 2) = i1
      generalize (if nx t i1 = 115 then i1 + 1 else i1) = i2
      by_cases h58 : nx t i2 = 58
      · rw [if_pos h58]
        exact noteIf_ok (code := 45) h (.inr (by decide))
      · rw [if_neg h58]
        trivial
  · exact noteIf_ok (noteIf_ok h (.inr (by decide))) (.inr (by decide))
theorem round_ok {t : List Int} {S : St} (h : okWr S.wr) : okS (round t S) := by
  unfold round
  split
  · exact h
  · split
    · exact begins_ok h
    · split
      · unfold ends
        split
        · trivial
        · exact addRep_ok h
      · have h1 := atomP_ok (t := t) (fold := S.top.fold) (all := S.top.all) (i := S.pos) h
        split
        · trivial
        · rename_i x k wr2 e
          rw [e] at h1
          exact addRep_ok h1
theorem rounds_ok {t : List Int} : ∀ (f : Nat) (S : St), okWr S.wr → okS (rounds t f S) := by
  intro f
  induction f with
  | zero => intro S h; exact h
  | succ f ih =>
    intro S h
    unfold rounds
    split
    · exact h
    · have h1 := round_ok (t := t) h
      split
      · trivial
      · rename_i S2 e
        rw [e] at h1
        exact ih S2 h1
theorem patternP_ok {t : List Int} {x : Tree} {c a : Int} (h : patternP t = .ok (x, some (c, a))) : okC c := by
  unfold patternP at h
  have h1 := rounds_ok (t := t) (t.length + 1) S0 (fun c a e => by simp [S0] at e)
  split at h
  · cases h
  · rename_i S e
    rw [e] at h1
    split at h
    · injection h with h
      injection h with _ h
      exact h1 c a h
    · cases h
end Go.Proofs.YtenanfkmmkmolaaGreatDoor
/- HELPERS: what the program says of every pattern. -/
namespace Go.Proofs.YtenanfkmmkmolaaGreatDoor
open Go.RowKit Go.Mx
set_option linter.unusedVariables false
set_option linter.unusedSimpArgs false
theorem reader_all (p : ByteArray) (W : World) (hgl : Gl W) (hp : p.size ≤ 65536) :
    Calls Tryz.prog 26 #[.string p] W fun e w' => ∃ g, e = .returned (.pointer (some ⟨g, 0, none⟩)) ∧ Below W.heap.size W w' ∧ W.heap.size ≤ g ∧ Calls Tryz.prog 27 #[.pointer (some ⟨g, 0, none⟩)] w' fun e w'' => EndP W.heap.size w' w'' g e (patternP (txt p)) := by
  refine (newReader26 p W hgl hp).mono ?_
  rintro e w' ⟨rfl, hB, hz, h1, h2, cap, hR⟩
  refine ⟨W.heap.size + 3, rfl, hB, by omega, ?_⟩
  obtain ⟨c, ob, cp, c1, c2, G1, F1, mb, nn, D, X, rfl, rfl, hol, hml⟩ := new_rs hgl.big hz h1 h2 hR
  have hm := Mo.alloc w' (W.heap.size + 3) (.cells Z9 26)
  have X' := X.mov hm (X.rw.stay (Joins.below_alloc1 w' _)) (Nat.le_refl _)
  have HS : RS W.heap.size w'.heap.size (w'.alloc (.cells Z9 26)) (W.heap.size + 3) (txt p) S0 := ⟨c, ob, cp, c1, c2, [], [], mb, nn, D, X', ⟨by simp, by omega, by omega, by omega, by simp⟩⟩
  rw [patternP_last]
  exact pattern27 (hid HS) (by simp [S0]) (by omega) rfl
/-- the fault of a pattern -/
def faultP (p : ByteArray) : Wr := if 65536 < p.size then some (2, -1) else match patternP (txt p) with
  | .error k => some (40, (k : Int))
  | .ok (_, wr) => wr
/-- what Parse hands out: a tree, or a fault -/
def valX (N : Nat) (x : Tree) (w : World) (v : Value) : Prop := ∃ cells F, v = .agg cells.toArray ∧ TV N w cells x F ∧ F.Nodup
theorem parse18_ok (p : ByteArray) (hp : p.size ≤ 65536) (w : World) (hgl : Gl w) {x : Tree} (h : patternP (txt p) = .ok (x, none)) :
    Calls Tryz.prog 18 #[.string p] w fun e w' => ∃ v, e = .returned (.tuple #[v, .nilIface]) ∧ valX (w.heap.size + 2) x w' v ∧ Below w.heap.size w w' := by
  refine parse18_fine p hp w hgl (valX (w.heap.size + 2) x) (fun W hB hG hz => ?_) (fun w1 w2 v hv hk => ?_)
  · refine (reader_all p W hG hp).mono ?_
    rintro e w' ⟨g, rfl, hB', hg, HC⟩
    refine ⟨g, rfl, hB', HC.mono ?_⟩
    rintro e w'' hE
    rw [h] at hE
    obtain ⟨cells, F, rfl, hT, hN, hBB, h5⟩ := hE
    have ho := hT.oneCells
    obtain ⟨a0, a2, a4, a5, a7, a6, a8, r1, s1, r2, r3, s2, s3, rfl⟩ := tv_cells hT
    exact ⟨_, _, _, _, _, _, _, _, _, rfl, hBB, h5, hg, by simp [Value.oneCell'], _, F, rfl, hT.le hz, hN⟩
  · obtain ⟨cells, F, rfl, hT, hN⟩ := hv
    exact ⟨cells, F, rfl, hT.kept fun k hk' => hk k (hT.low k hk').1, hN⟩
theorem parse18_fault (p : ByteArray) (hs : p.size ≤ 9223372036854775807) (w : World) (hgl : Gl w) {co at_ : Int} (h : faultP p = some (co, at_)) :
    Calls Tryz.prog 18 #[.string p] w fun e w' => e = .returned (.tuple #[.agg Z9c, .iface 29 (.agg #[.int .i64 co, .int .i64 at_])]) ∧ Below w.heap.size w w' := by
  unfold faultP at h
  by_cases hl : 65536 < p.size
  · rw [if_pos hl] at h
    injection h with h
    injection h with h1 h2
    subst h1 h2
    exact parse18_long p hl hs w
  · rw [if_neg hl] at h
    cases hz : patternP (txt p) with
    | error k =>
      rw [hz] at h
      injection h with h
      injection h with h1 h2
      subst h1 h2
      refine parse18_gave p (by omega) w hgl k fun W hB hG => ?_
      refine (reader_all p W hG (by omega)).mono ?_
      rintro e w' ⟨g, rfl, hB', hg, HC⟩
      refine ⟨g, rfl, hB', HC.mono ?_⟩
      rintro e w'' hE
      rw [hz] at hE
      exact hE
    | ok r =>
      obtain ⟨x, wr⟩ := r
      rw [hz] at h
      have h' : wr = some (co, at_) := h
      subst h'
      refine parse18_wrong p (by omega) w hgl co at_ fun W hB hG => ?_
      refine (reader_all p W hG (by omega)).mono ?_
      rintro e w' ⟨g, rfl, hB', hg, HC⟩
      refine ⟨g, rfl, hB', HC.mono ?_⟩
      rintro e w'' hE
      rw [hz] at hE
      obtain ⟨cells, F, rfl, hT, hN, hBB, h5⟩ := hE
      obtain ⟨a0, a2, a4, a5, a7, a6, a8, r1, s1, r2, r3, s2, s3, rfl⟩ := tv_cells hT
      exact ⟨_, _, _, _, _, _, _, _, _, rfl, hBB, h5, hg, by simp [Value.oneCell']⟩
theorem faultP_ok {p : ByteArray} {co at_ : Int} (h : faultP p = some (co, at_)) : (co = 2 ∧ at_ = -1 ∧ 65536 < p.size) ∨ (p.size ≤ 65536 ∧ ∃ k : Nat, co = 40 ∧ at_ = k ∧ patternP (txt p) = .error k) ∨ (p.size ≤ 65536 ∧ okC co ∧ ∃ x, patternP (txt p) = .ok (x, some (co, at_))) := by
  unfold faultP at h
  by_cases hl : 65536 < p.size
  · rw [if_pos hl] at h
    injection h with h
    injection h with h1 h2
    exact .inl ⟨h1.symm, h2.symm, hl⟩
  · rw [if_neg hl] at h
    cases hz : patternP (txt p) with
    | error k =>
      rw [hz] at h
      injection h with h
      injection h with h1 h2
      exact .inr (.inl ⟨by omega, k, h1.symm, h2.symm, rfl⟩)
    | ok r =>
      obtain ⟨x, wr⟩ := r
      rw [hz] at h
      have h' : wr = some (co, at_) := h
      subst h'
      exact .inr (.inr ⟨by omega, patternP_ok hz, x, rfl⟩)
theorem faultP_none {p : ByteArray} (h : faultP p = none) : p.size ≤ 65536 ∧ ∃ x, patternP (txt p) = .ok (x, none) := by
  unfold faultP at h
  by_cases hl : 65536 < p.size
  · rw [if_pos hl] at h
    cases h
  · rw [if_neg hl] at h
    cases hz : patternP (txt p) with
    | error k => rw [hz] at h; cases h
    | ok r =>
      obtain ⟨x, wr⟩ := r
      rw [hz] at h
      have h' : wr = none := h
      subst h'
      exact ⟨by omega, x, rfl⟩
/-- parsed, of a pattern that has a tree -/
theorem parsed9_ok (p : ByteArray) (hp : p.size ≤ 65536) (w : World) (hgl : Gl w) {x : Tree} (h : patternP (txt p) = .ok (x, none)) :
    Calls Tryz.prog 9 #[.string p] w fun e w' => ∃ v, e = .returned (.tuple #[v, .agg #[.int .i64 0, .int .i64 0], .bool true]) ∧ valX (w.heap.size + 2) x w' v ∧ Below w.heap.size w w' := by
  refine parsed9_fine p w hgl (valX (w.heap.size + 2) x) (fun W hB hG hz => ?_) (fun w1 w2 v hv hk => ?_)
  · refine (parse18_ok p hp W hG h).mono ?_
    rintro e w' ⟨v, rfl, ⟨cells, F, rfl, hT, hN⟩, hB'⟩
    have hT' := hT
    obtain ⟨a0, a2, a4, a5, a7, a6, a8, r1, s1, r2, r3, s2, s3, rfl⟩ := tv_cells hT
    exact ⟨a0, a2, a4, a5, a7, a6, a8, r1, s1, r2, r3, s2, s3, rfl, hB', _, F, rfl, hT'.le (by omega), hN⟩
  · obtain ⟨cells, F, rfl, hT, hN⟩ := hv
    exact ⟨cells, F, rfl, hT.kept fun k hk' => hk k (hT.low k hk').1 (hT.low k hk').2, hN⟩
/-- parsed, of one that has a fault -/
theorem parsed9_bad (p : ByteArray) (hs : p.size ≤ 9223372036854775807) (w : World) (hgl : Gl w) {co at_ : Int} (h : faultP p = some (co, at_)) :
    Calls Tryz.prog 9 #[.string p] w fun e w' => e = .returned (.tuple #[.agg Z9c, .agg #[.int .i64 co, .int .i64 at_], .bool true]) ∧ Below w.heap.size w w' := by
  have hco : ¬ co = 0 := by
    rcases faultP_ok h with h1 | h1 | h1
    · omega
    · obtain ⟨_, k, h2, _⟩ := h1
      omega
    · have := h1.2.1
      unfold okC at this
      omega
  refine (parsed9_fault p w hgl (fun _ v => v = .agg Z9c) co at_ hco (fun W hB hG hz => ?_) (fun w1 w2 v hv hk => hv)).mono ?_
  · refine (parse18_fault p hs W hG h).mono ?_
    rintro e w' ⟨rfl, hB'⟩
    exact ⟨_, _, _, _, _, _, _, _, _, _, _, _, _, rfl, hB', rfl⟩
  · rintro e w' ⟨v, rfl, rfl, hB⟩
    exact ⟨rfl, hB⟩
end Go.Proofs.YtenanfkmmkmolaaGreatDoor
/- HELPERS: the document's example; parsed in one form. -/
namespace Go.Proofs.YtenanfkmmkmolaaGreatDoor
open Go.RowKit Go.Mx
set_option linter.unusedVariables false
set_option linter.unusedSimpArgs false
theorem awake_tree : patternP (txt ⟨#[97, 98, 42, 63]⟩) = .ok (.cat [.cls [(97, 97)], .rep 0 (-1) true (.cls [(98, 98)])], none) := by kernel_rfl
/-- of a cat of two whose second one is a repeat: what is read -/
theorem second_cells {N : Nat} {w : World} {cells : List Value} {F : List Nat} {a b : Tree} {lo hi : Int} {lz : Bool} (h : TV N w cells (.cat [a, .rep lo hi lz b]) F) :
    ∃ (r1 : Option Addr) (r2 r3 sb cap : Nat), cells = [.int .i64 4, .slice r1 r2 r3, .int .i64 0, .slice (some ⟨sb, 0, none⟩) 2 cap, .int .i64 0, .int .i64 0, .bool false, .int .i64 0, .string ⟨#[]⟩] ∧ 2 ≤ cap ∧ sb < w.heap.size ∧ w.cell? ⟨sb, 9, none⟩ = some (.int .i64 6) ∧ w.cell? ⟨sb, 15, none⟩ = some (.bool lz) := by
  cases h with
  | mk hr hs ht =>
    obtain ⟨r1, r2, r3, rfl⟩ := row_slice hr
    obtain ⟨sb, cap, rfl⟩ := Joins.ownsRow_form hs (by simp)
    obtain ⟨cur, hc⟩ := row_some hs
    have hb := row_blk hs hc
    have hl := (hs.lt sb rfl).2
    cases ht with
    | @cons ca cs _ _ Fa Fb h1 h2 =>
      have h9 := h1.nine
      have ht2 := h2.one
      have e9 := row_at hs hc 9 (by simp)
      have e15 := row_at hs hc 15 (by simp)
      rw [List.getElem?_append_right (by omega), h9] at e9 e15
      cases ht2 with
      | mk hr2 hs2 ht3 =>
        refine ⟨r1, r2, r3, sb, cap, rfl, hb.2.1, hl, (Joins.cell_of_block hc 9).trans e9, (Joins.cell_of_block hc 15).trans e15⟩
set_option maxHeartbeats 1000000 in
theorem awake7 (w : World) (hgl : Gl w) : Calls Tryz.prog 7 #[] w fun e w' => e = .returned (.bool true) ∧ Below w.heap.size w w' := by
  have C1 := parsed9_ok ⟨#[97, 98, 42, 63]⟩ (by decide) w hgl awake_tree
  go_enter Tryz.func7, Tryz.ntmps7
  go_wp2_with (go_at_call 9; (with_reducible refine C1.mono ?_); rintro e w1 ⟨v, rfl, ⟨cells, F, rfl, hT, hN⟩, B1⟩; obtain ⟨r1, r2, r3, sb, cap, rfl, hcap, lsb, k9, k15⟩ := second_cells hT; have HB := hid B1; clear hT hN B1)
  go_ret
  exact ⟨rfl, HB.out.trans (Joins.below_le (Joins.below_alloc2 w1 _ _) HB.out.size)⟩
/-- what parsed tells -/
def codeP (p : ByteArray) : Int × Int := match faultP p with | none => (0, 0) | some x => x
theorem parsed9_any (p : ByteArray) (hs : p.size ≤ 9223372036854775807) (w : World) (hgl : Gl w) :
    Calls Tryz.prog 9 #[.string p] w fun e w' => ∃ (a0 a2 a4 a5 a7 : Int) (a6 : Bool) (a8 : ByteArray) (r1 s1 : Option Addr) (r2 r3 s2 s3 : Nat), e = .returned (.tuple #[.agg #[.int .i64 a0, .slice r1 r2 r3, .int .i64 a2, .slice s1 s2 s3, .int .i64 a4, .int .i64 a5, .bool a6, .int .i64 a7, .string a8], .agg #[.int .i64 (codeP p).1, .int .i64 (codeP p).2], .bool true]) ∧ Below w.heap.size w w' := by
  unfold codeP
  cases h : faultP p with
  | none =>
    obtain ⟨hp, x, hx⟩ := faultP_none h
    refine (parsed9_ok p hp w hgl hx).mono ?_
    rintro e w' ⟨v, rfl, ⟨cells, F, rfl, hT, hN⟩, hB⟩
    obtain ⟨a0, a2, a4, a5, a7, a6, a8, r1, s1, r2, r3, s2, s3, rfl⟩ := tv_cells hT
    exact ⟨a0, a2, a4, a5, a7, a6, a8, r1, s1, r2, r3, s2, s3, rfl, hB⟩
  | some y =>
    obtain ⟨co, at_⟩ := y
    refine (parsed9_bad p hs w hgl h).mono ?_
    rintro e w' ⟨rfl, hB⟩
    exact ⟨_, _, _, _, _, _, _, _, _, _, _, _, _, rfl, hB⟩
end Go.Proofs.YtenanfkmmkmolaaGreatDoor
/- HELPERS: the package variables as the rows lay them; the world of the witness. -/
namespace Go.Proofs.YtenanfkmmkmolaaGreatDoor
open Go.ChangeShapes Go.WideShapes Go.ChangeAt Go.RowKit Go.Mx
set_option linter.unusedVariables false
set_option linter.unusedSimpArgs false
theorem cellsA : Tryz.prog.cellsOf 145 = 32 := by kernel_rfl
theorem cellsB : Tryz.prog.cellsOf 149 = 15 := by kernel_rfl
theorem cellsC : Tryz.prog.cellsOf 148 = 3 := by kernel_rfl
theorem cells3 : Tryz.prog.cellsOf 3 = 1 := by kernel_rfl
theorem own : ownKnob Tryz.prog.godebug = none := by kernel_rfl
theorem etG : Tryz.prog.globalNamed "errors.errorType" = some 0 := by kernel_rfl
theorem rtT : (Tryz.prog.cutTypes.find? (·.1 == "internal/reflectlite.rtype")).map (·.2) = some 108 := by kernel_rfl
theorem sizeT : Tryz.prog.types.size = 206 := by kernel_rfl
theorem oneRow : ((List.range 206).filter fun t => Tryz.prog.rowNamed t [101, 114, 114, 111, 114]) = [56] := by kernel_rfl
theorem form_cells {H : Type} {enc : TypeId × Value → H} {w : World} {base fuel : Nat} {sp : Nat → Bool} {held : Bool} {cs : List Value} {a b c : Int} {p : List MemPlace}
    (h : DataW.trod enc Tryz.prog w base sp held fuel 148 cs = some (.agg [.lit (.int .i64 a), .lit (.int .i64 b), .lit (.int .i64 c)], p)) : cs = [.int .i64 a, .int .i64 b, .int .i64 c] := by
  obtain ⟨y0, y1, y2, n, hx, hl, h0, h1, h2⟩ := Deep.trod_struct3 Tryz.underlying148 h
  rw [cellsC] at hl
  simp only [cells3] at h0 h1 h2
  match cs, hl with
  | [u, v, z], _ =>
    obtain ⟨a', e0, rfl, _⟩ := DataW.trod_int Tryz.underlying3 h0
    obtain ⟨b', e1, rfl, _⟩ := DataW.trod_int Tryz.underlying3 h1
    obtain ⟨c', e2, rfl, _⟩ := DataW.trod_int Tryz.underlying3 h2
    simp at e0 e1 e2 hx
    obtain ⟨⟨rfl, rfl, rfl⟩, _⟩ := hx
    subst e0 e1 e2
    rfl
theorem forms_cells {H : Type} {enc : TypeId × Value → H} {w : World} {base fuel : Nat} {sp : Nat → Bool} {held : Bool} {cs : List Value} {p : List MemPlace}
    (h : DataW.trod enc Tryz.prog w base sp held fuel 149 cs = some (Rows.laid_heron_runes_forms, p)) : cs = I64 TabF := by
  obtain ⟨xs, m, _, hx, hl, hxl, he⟩ := DataW.trod_array Tryz.underlying149 h
  rw [cellsB] at hl
  simp only [cellsC] at he
  match xs, hxl with
  | [x0, x1, x2, x3, x4], _ =>
    simp only [Rows.laid_heron_runes_forms, Prod.mk.injEq, DataW.agg.injEq, List.map_cons, List.map_nil, List.cons.injEq, and_true] at hx
    obtain ⟨⟨e0, e1, e2, e3, e4⟩, _⟩ := hx
    have k0 := form_cells (p := x0.2) ((he 0 (by decide)).trans (by rw [e0]; rfl))
    have k1 := form_cells (p := x1.2) ((he 1 (by decide)).trans (by rw [e1]; rfl))
    have k2 := form_cells (p := x2.2) ((he 2 (by decide)).trans (by rw [e2]; rfl))
    have k3 := form_cells (p := x3.2) ((he 3 (by decide)).trans (by rw [e3]; rfl))
    have k4 := form_cells (p := x4.2) ((he 4 (by decide)).trans (by rw [e4]; rfl))
    match cs, hl with
    | [c0, c1, c2, c3, c4, c5, c6, c7, c8, c9, c10, c11, c12, c13, c14], _ =>
      simp at k0 k1 k2 k3 k4
      simp [I64, TabF, k0, k1, k2, k3, k4]
/-- what a row's condition on the package variables gives a walk -/
theorem gl_of_laid {W : World} (h : laidMetH Tryz.prog Rows.syntaxBeginsRow.laid W) (h4 : 4 ≤ W.heap.size) : Gl W := by
  have h' : laidMet Tryz.prog [("heron/runes.forms", Rows.laid_heron_runes_forms), ("heron/runes.sizes", Rows.laid_heron_runes_sizes)] W ∧ handlesMet Tryz.prog [("errors.errorType", Rows.laid_errors_errorType)] W := h
  obtain ⟨⟨ps, ⟨g, t, cs, fuel, p, q, hg, ht, hvar, hd, hrest, _⟩, _⟩, hh⟩ := h'
  obtain ⟨g', t', cs', fuel', p', q', hg', ht', hvar', hd', _, _⟩ := hrest
  obtain rfl : g = 2 := Option.some.inj (hg.symm.trans (by kernel_rfl))
  obtain rfl : g' = 1 := Option.some.inj (hg'.symm.trans (by kernel_rfl))
  obtain rfl : t = 149 := Option.some.inj (ht.symm.trans (by kernel_rfl))
  obtain rfl : t' = 145 := Option.some.inj (ht'.symm.trans (by kernel_rfl))
  have hf := forms_cells hd
  have hs := Lib.cells_of_tab (zs := TabS) Tryz.underlying145 Tryz.underlying3 cells3 cellsA hd'
  refine ⟨⟨fun i hi => ?_, fun i hi => ?_⟩, ?_, h4⟩
  · have := World.var?_cell hg' hvar' i
    rw [this]
    have e : cs'[i]? = (I64 TabS)[i]? := by rw [← Array.getElem?_toList, hs]
    rw [e]
    have hl : i < TabS.length := hi
    simp [hl]
  · have := World.var?_cell hg hvar i
    rw [this]
    have e : cs[i]? = (I64 TabF)[i]? := by rw [← Array.getElem?_toList, hf]
    rw [e]
    have hl : i < TabF.length := hi
    simp [hl]
  · obtain ⟨name, u, ty, e1, e2, e3, e4, e5⟩ := hh _ (List.mem_singleton.2 rfl)
    have en : name = [101, 114, 114, 111, 114] := (Option.some.inj e1).symm
    subst en
    obtain rfl := Option.some.inj (rtT.symm.trans e2)
    have hm : ty ∈ (List.range 206).filter fun t => Tryz.prog.rowNamed t [101, 114, 114, 111, 114] := List.mem_filter.2 ⟨List.mem_range.2 (by rw [← sizeT]; exact e3), e4⟩
    rw [oneRow] at hm
    obtain rfl := List.mem_singleton.1 hm
    have hx : typeHandle Tryz.prog 56 = .pointer (some ⟨4, 56, none⟩) := by kernel_rfl
    rw [hx] at e5
    simpa using World.var?_cell etG e5 0
/-- a world for the witness: the variables hold what their initialisers lay -/
def fixWorld (w : World) : World :=
  { w with heap := ((w.heap.modify 0 fun
      | .cells _ t frozen => .cells #[.iface 108 (.agg #[.pointer (some ⟨4, 56, none⟩)])] t frozen
      | o => o).modify 1 fun
      | .cells _ t frozen => .cells (I64 TabS).toArray t frozen
      | o => o).modify 2 fun
      | .cells _ t frozen => .cells (I64 TabF).toArray t frozen
      | o => o }
end Go.Proofs.YtenanfkmmkmolaaGreatDoor
