/- HELPERS: programs side by side: joined. -/
import Derived.Test.YtnecakampgdhcaaJd
import Derived.Test.YtnecakampgdhcaaJe
import Derived.Lib.MinMax
import Derived.RegionTactic
import Derived.ChangeAlike
import Derived.Test.YtnecakampgdhcaaXh
namespace Go.Proofs.Ytnecakampgdhcaa
open Go.RowKit
set_option linter.unusedVariables false
set_option linter.unusedSimpArgs false
theorem GR.setOther {w : World} {base q o : Nat} {z : Value} {MS : List Iv} {l : List In} {cs : Array Value} {t : TypeId} {fr : Nat × Nat} (h : GR w base z MS l) (hq : w.heap[q]? = some (.cells cs t fr)) (h1 : t ≠ 51) (h2 : t ≠ 49) (v : Value) : GR (w.setCell ⟨q, o, none⟩ v) base z MS l := by
  refine h.kept (fun b _ _ hb => Below.heap_setCell _ _ _ _ (fun e => ?_))
  subst e
  rcases hb with hb | ⟨j, hj, hb⟩
  · exact own_ne h.row hq h1 hb
  · exact own_ne (h.lo j hj).rr hq h2 hb
theorem GR.chs {w w' : World} {base m : Nat} {z : Value} {MS : List Iv} {l : List In} {b : Nat} {cs : Array Value} {t : TypeId} {fr : Nat × Nat} (h : GR w base z MS l) (hc : Chs (fun b => b = m ∨ z.ownBlock = some b) w w') (hb : w.heap[b]? = some (.cells cs t fr)) (h1 : t ≠ 51) (hm : b ≠ m) : w'.heap[b]? = some (.cells cs t fr) :=
  (hc.block b (Array.getElem?_eq_some_iff.1 hb).1 (fun h' => h'.elim hm (own_ne h.row hb h1))).trans hb
theorem range_map_succ {α : Type} (f : Nat → α) (i : Nat) : (List.range (i + 1)).map f = (List.range i).map f ++ [f i] := by simp [List.range_succ]
/-- the box and its row -/
def MR1 (w : World) (m base n : Nat) (l : List In) : Prop := ∃ (z1 : Option Addr) (c : Nat) (MS : List Iv), BxR w m 61 z1 n c ∧ GR w base (.slice z1 n c) MS l
set_option maxRecDepth 100000 in
set_option maxHeartbeats 8000000 in
theorem joined25 {w : World} {ad : Option Addr} {n c : Nat} {L : List Pg} (h : LP w w.heap.size ad n L) (h1 : 1 ≤ n) (h2 : n ≤ 100) (hall : mayTo L L.length) (hsum : ahead L L.length ≤ 20000) :
    Calls Try.prog 25 #[.slice ad n c, .int .i64 (ahead L L.length : Int)] w fun e w' => ∃ z1 cc MS, e = .returned (pv z1 (ahead L L.length) cc (joinS L) (capsTo L n)) ∧ GR w' w.heap.size (.slice z1 (ahead L L.length) cc) MS (joinI L) ∧ Below w.heap.size w w' := by
  have HL := hid h.len
  have HM := hid hall
  obtain ⟨B0, hB0⟩ : ∃ B0, B0 = w.heap.size := ⟨_, rfl⟩
  have HLP : Hid (LP w B0 ad n L) := by rw [hB0]; exact h
  obtain ⟨U, hU⟩ : ∃ U, U = w.alloc (.cells #[.slice none 0 0, .int .i64 0, .int .i64 0] 24) := ⟨_, rfl⟩
  have hbU : Below B0 w U := by rw [hU, hB0]; exact Joins.below_alloc1 w _
  have hY : U.heap[B0]? = some (.cells #[.slice none 0 0, .int .i64 0, .int .i64 0] 24 (0, 0)) := by rw [hU, hB0]; exact heap_alloc_new w _
  have HR := newRow31n (ahead L L.length) hsum U
  have HBE := hid hB0
  have HYU := hid hY
  have HBU := hid hbU
  have hB0U : B0 < U.heap.size := (Array.getElem?_eq_some_iff.1 hY).1
  clear h hall hbU hY
  go_enter Try.func25, Try.ntmps25
  go_upto_region 1 with fail
  rw [← hU, ← hB0]
  clear hU hB0
  generalize hNN : ahead L L.length = NN at *
  go_upto_region 2 with (go_at_call 31; (with_reducible refine HR.mono ?_); rintro e W1 ⟨z1, cc, rfl, hrow, hb⟩; have HROW := hid hrow; have HB1 := hid hb; clear hrow hb HR)
  obtain ⟨U1, hU1⟩ : ∃ U1, U1 = W1.alloc (.cells #[.slice z1 0 cc] 61) := ⟨_, rfl⟩
  rw [← hU1]
  have hb1 : Below U.heap.size U U1 := by rw [hU1]; exact HB1.out.alloc HB1.out.size _
  have hbx1 : BxR U1 W1.heap.size 61 z1 0 cc := by rw [hU1]; exact heap_alloc_new W1 _
  have hrow1 : U1.ownsRow B0 51 5 (.slice z1 0 cc) 0 [] := by rw [hU1]; exact (HROW.out.mono (base' := B0) (by omega)).alloc _
  have hm1 : U.heap.size ≤ W1.heap.size := HB1.out.size
  obtain ⟨m, hm⟩ : ∃ m, m = W1.heap.size := ⟨_, rfl⟩
  rw [← hm] at hbx1 hm1 ⊢
  have hmU1 : m < U1.heap.size := (Array.getElem?_eq_some_iff.1 hbx1).1
  have HB01 : Hid (Below B0 w U1) := HBU.out.trans (Joins.below_le hb1 (by omega))
  have HY1 : Hid (U1.heap[B0]? = some (.cells #[.slice none 0 0, .int .i64 0, .int .i64 0] 24 (0, 0))) := (hb1.block B0 hB0U).trans HYU.out
  have HBX1 := hid hbx1
  have HG1 : Hid (GR U1 B0 (.slice z1 0 cc) [] []) := GR.nil _ _ _ hrow1
  have hlp1 : LP U1 U1.heap.size ad n L := HLP.out.kept HB01.out (by omega)
  have HE := entries41 (c := c) hlp1 h1 h2 HM.out
  clear hU1 hm hbx1 hrow1 HROW HB1 hb1 HBU HYU hlp1
  go_upto_region 3 with (go_at_call 41; (with_reducible refine HE.mono ?_); rintro e U2 ⟨g, rfl, hg, hEN, hb⟩; have HGE := hid hg; have HEN := hid hEN; have HB2 := hid hb; clear hg hEN hb HE)
  have HB02 : Hid (Below B0 w U2) := HB01.out.trans (Joins.below_le HB2.out (by omega))
  have HY2 : Hid (U2.heap[B0]? = some (.cells #[.slice none 0 0, .int .i64 0, .int .i64 0] 24 (0, 0))) := (HB2.out.block B0 (by omega)).trans HY1.out
  have HMR : Hid (MR1 U2 m B0 0 ((List.range 0).map (altJ L))) := ⟨z1, cc, [], (HB2.out.block m hmU1).trans HBX1.out, HG1.out.below HB2.out⟩
  have hmU2 : m < U2.heap.size := Nat.lt_of_lt_of_le hmU1 HB2.out.size
  have hgm : m < g := by have := HGE.out; omega
  clear HB2 HB01 HY1 HBX1 HG1 HGE
  have a1 : IntKind.i64.wrap ((n : Int) - 1) = ((n - 1 : Nat) : Int) := by rw [wrap_ok _ (by omega) (by omega)]; omega
  have u1 : (0 : Int) ≤ ((n - 1 : Nat) : Int) := by omega
  have u2 : ((n - 1 : Nat) : Int) ≤ (n : Int) := by omega
  go_wp2_with fail
  clear u1 u2 a1
  go_loopw [24] (fun y wq => ∃ i : Nat, y = .int .i64 (i : Int) ∧ i ≤ n - 1 ∧ Hid (MR1 wq m B0 i ((List.range i).map (altJ L))) ∧ Hid (EN wq g n L) ∧ Hid (wq.heap[B0]? = some (.cells #[.slice none 0 0, .int .i64 0, .int .i64 0] 24 (0, 0))) ∧ Hid (Below B0 w wq) ∧ m < wq.heap.size) (fun y _ => n - 1 - (intOf y).toNat)
  case atStart => exact ⟨0, rfl, by omega, HMR.out, HEN.out, HY2.out, HB02.out, hmU2⟩
  case round =>
    clear HMR HEN HY2 HB02 hmU2
    obtain ⟨i, rfl, hi, HMR, HEN, HY2, HB02, hmU2⟩ := hrel
    by_cases hil : i < n - 1
    · have b1 : decide ((i : Int) < ((n - 1 : Nat) : Int)) = true := by simp; omega
      have b2 : (i : Int) < ((n - 1 : Nat) : Int) := by omega
      have b3 : (i : Int) < (n : Int) := by omega
      have ad1 := wrap_ok ((i : Int) + 1) (by omega) (by omega)
      have k0 := HEN.out.at0 i (by omega)
      obtain ⟨z1, cc, MS, hB, hG⟩ := HMR.out
      have hrow := hG.row
      simp only [List.length_map, List.length_range] at hrow
      have HA := add42g (t := 61) (by decide) ⟨2, entry L i, (i : Int) + 1, 0, none, 0, 0⟩ hB hrow (by omega) (base := B0) (by omega)
      have HB := hid hB
      have HG := hid hG
      clear hB hG hrow HMR
      go_wp2_with (go_at_call 42; (with_reducible refine HA.mono ?_); rintro e w7 ⟨rfl, y1, y3, hB7, ho7, hn7, hc7⟩; have HB7 := hid hB7; have HO7 := hid ho7; have HN7 := hid hn7; have HC7 := hid hc7; clear hB7 ho7 hn7 hc7 HA)
      have hzq : (Value.slice z1 i cc).ownBlock ≠ some m := own_ne HG.out.row HB.out (by decide)
      have hnew := HG.out.push (m := m) (V := wr) (w7 := w7) (v7 := .slice y1 (i + 1) y3) (M := ⟨2, entry L i, (i : Int) + 1, 0, none, 0, 0⟩) (I := altJ L i) (by omega) (Nat.le_refl _) (fun b hb _ => rfl) (fun b R n h => own_ne h HB.out (by decide)) rfl rfl rfl rfl rfl (by show 0 * 16 ≤ _; omega) (World.ownsRow_nil _ _ _ _) hzq (fun b R n h => own_ne h HB.out (by decide)) (fun b hb h1 h2 => HC7.out.block b hb (fun h' => h'.elim h2 h1)) HN7.out (by simpa using HO7.out)
      refine ⟨⟨i + 1, by push_cast; rfl, by omega, ⟨y1, y3, _, HB7.out, by rw [range_map_succ]; exact hnew⟩, ?_, ?_, ?_, ?_⟩, by simp [intOf]; omega⟩
      · obtain ⟨cs, e1, e2, e3⟩ := HEN.out
        exact ⟨cs, HG.out.chs HC7.out e1 (by decide) (by omega), e2, e3⟩
      · exact HG.out.chs HC7.out HY2.out (by decide) (by omega)
      · exact HB02.out.trans (HC7.out.low (fun b h' => h'.elim (fun e => by omega) (fun h' => (HG.out.row.lt b h').1)) (by omega))
      · have := HC7.out.size; omega
    · have b1 : decide ((i : Int) < ((n - 1 : Nat) : Int)) = false := by simp; omega
      obtain rfl : i = n - 1 := by omega
      have k0 := HEN.out.at0 0 (by omega)
      have b0 : (0 : Int) < (n : Int) := by omega
      clear hi hil
      go_upto_region 10 with fail
      obtain ⟨q, hq⟩ : ∃ q, q = wr.heap.size := ⟨_, rfl⟩
      obtain ⟨V0, hV0⟩ : ∃ V0, V0 = wr.alloc (.cells #[.slice none 0 0, .int .i64 (entry L 0), .int .i64 0] 24) := ⟨_, rfl⟩
      rw [← hV0, ← hq]
      have hbV0 : Below wr.heap.size wr V0 := by rw [hV0]; exact Joins.below_alloc1 wr _
      have hQ0 : V0.heap[q]? = some (.cells #[.slice none 0 0, .int .i64 (entry L 0), .int .i64 0] 24 (0, 0)) := by rw [hV0, hq]; exact heap_alloc_new wr _
      have HY0 : Hid (V0.heap[B0]? = some (.cells #[.slice none 0 0, .int .i64 0, .int .i64 0] 24 (0, 0))) := (hbV0.block B0 (by omega)).trans HY2.out
      have HBV0 : Hid (Below B0 w V0) := HB02.out.trans (Joins.below_le hbV0 (by omega))
      have HMR0 : Hid (MR1 V0 m B0 (n - 1) ((List.range (n - 1)).map (altJ L))) := by
        obtain ⟨z1, cc, MS, hB, hG⟩ := HMR.out
        exact ⟨z1, cc, MS, (hbV0.block m hmU2).trans hB, hG.below hbV0⟩
      have HEN0 : Hid (EN V0 g n L) := by
        obtain ⟨cs, e1, e2, e3⟩ := HEN.out
        exact ⟨cs, (hbV0.block g (Array.getElem?_eq_some_iff.1 e1).1).trans e1, e2, e3⟩
      have hqV0 : q < V0.heap.size := (Array.getElem?_eq_some_iff.1 hQ0).1
      have hmq : m < q := by omega
      have HQ0 := hid hQ0
      clear hV0 hq hbV0 hQ0 HY2 HB02 HMR k0 b1 b0
      have HN0 := HEN0
      by_cases hn1 : n = 1
      · have b0 : decide (((n - 1 : Nat) : Int) > 0) = false := by simp; omega
        have b1 : decide ((0 : Int) < ((n - 1 : Nat) : Int)) = false := by simp; omega
        have k0 : (0 : Nat) = 0 := rfl
        obtain ⟨V, hV⟩ : ∃ V, V = V0 := ⟨_, rfl⟩
        have hst : entry L 0 = joinS L := by
          unfold joinS entry
          rw [if_pos (by have := HL.out; omega), ahead_zero, show L.length - 1 = 0 by have := HL.out; omega]
          simp
        have HQV : Hid (V.heap[q]? = some (.cells #[.slice none 0 0, .int .i64 (joinS L), .int .i64 (capsTo L 0)] 24 (0, 0))) := by rw [hV, ← hst]; exact HQ0.out
        have HYV : Hid (V.heap[B0]? = some (.cells #[.slice none 0 0, .int .i64 0, .int .i64 0] 24 (0, 0))) := by rw [hV]; exact HY0.out
        have HBV : Hid (Below B0 w V) := by rw [hV]; exact HBV0.out
        have hqV : q < V.heap.size := by rw [hV]; exact hqV0
        have HMV : Hid (MR1 V m B0 (n - 1) (altsL L (n - 1))) := by
          have h' := HMR0.out
          rw [hV, show n - 1 = 0 by omega]
          rw [show n - 1 = 0 by omega] at h'
          exact h'
        clear HQ0 HY0 HBV0 hqV0 HMR0 hst
        go_upto_region 13 with fail
        rw [← hV]
        clear hV b0 hn1
        have b0 : (0 : Nat) = 0 := rfl
        clear k0 b1 b0 HEN
        go_wp2_with fail
        clear HN0
        have HMRV : Hid (MR1 V m B0 (ahead L 0) (altsL L (n - 1) ++ movedL L 0)) := by
          have h' := HMV.out
          rw [ahead_zero, show L.length - 1 = n - 1 by have := HL.out; omega]
          have e0 : altsL L (n - 1) ++ movedL L 0 = altsL L (n - 1) := by simp [movedL]
          rw [e0]
          exact h'
        clear HMV
        go_loopw [54] (fun y wq => ∃ i : Nat, y = .int .i64 (i : Int) ∧ i ≤ n ∧ Hid (MR1 wq m B0 (ahead L i) (altsL L (n - 1) ++ movedL L i)) ∧ Hid (wq.heap[q]? = some (.cells #[.slice none 0 0, .int .i64 (joinS L), .int .i64 (capsTo L i)] 24 (0, 0))) ∧ Hid (wq.heap[B0]? = some (.cells #[.slice none 0 0, .int .i64 0, .int .i64 0] 24 (0, 0))) ∧ Hid (Below B0 w wq) ∧ q < wq.heap.size) (fun y _ => n - (intOf y).toNat)
        case atStart => exact ⟨0, rfl, by omega, HMRV.out, HQV.out, HYV.out, HBV.out, hqV⟩
        case round =>
          clear HMRV HQV HYV HBV hqV
          obtain ⟨i, rfl, hi, HMR, HQ, HY, HB, hqw⟩ := hrel
          obtain ⟨q0, q1, q2⟩ := three_cells HQ.out
          by_cases hil : i < n
          · have b1 : decide ((i : Int) < (n : Int)) = true := by simp; omega
            have b2 : (i : Int) < (n : Int) := by omega
            have ad1 := wrap_ok ((i : Int) + 1) (by omega) (by omega)
            have hiL : i < L.length := by have := HL.out; omega
            obtain ⟨b, o, PA, PN, PC, e, hbl, hcs⟩ := HLP.out.mem (by omega)
            subst e
            obtain ⟨hP3, hPI, hPN⟩ := hcs i hil
            obtain ⟨m0, m1, m2⟩ := hP3.kept (HB.out.block b hbl)
            have hmay := HM.out i hiL
            have hsu := ahead_succ L i hiL
            have hmo := ahead_mono L L.length (i + 1) (by omega) (Nat.le_refl _)
            have hlen := hPI.len
            clear hcs hP3
            obtain ⟨pa, hpa⟩ : ∃ pa, pa = PA i := ⟨_, rfl⟩
            obtain ⟨pn, hpn⟩ : ∃ pn, pn = PN i := ⟨_, rfl⟩
            obtain ⟨pc, hpc⟩ : ∃ pc, pc = PC i := ⟨_, rfl⟩
            rw [← hpa, ← hpn, ← hpc] at m0
            rw [← hpa, ← hpn] at hPI
            rw [← hpn] at hlen
            clear hpa hpn hpc hPN
            obtain ⟨P, hP⟩ : ∃ P, P = L.getD i default := ⟨_, rfl⟩
            rw [← hP] at m1 m2 hPI hmay hsu hlen
            have HP := hid hP
            have HSU := hid hsu
            have HLEN := hid hlen
            clear hP
            have hkk := may_ok hmay
            obtain ⟨V1, hV1⟩ : ∃ V1, V1 = wr.alloc (.cells #[.slice pa pn pc, .int .i64 P.s, .int .i64 P.k] 24) := ⟨_, rfl⟩
            have hbV1 : Below wr.heap.size wr V1 := by rw [hV1]; exact Joins.below_alloc1 wr _
            have hX1 : V1.heap[wr.heap.size]? = some (.cells #[.slice pa pn pc, .int .i64 P.s, .int .i64 P.k] 24 (0, 0)) := by rw [hV1]; exact heap_alloc_new wr _
            have hB0V : Below B0 w V1 := HB.out.trans (Joins.below_le hbV1 (by omega))
            obtain ⟨z1, cc, MS, hBx, hG⟩ := HMR.out
            have hmw : m < wr.heap.size := (Array.getElem?_eq_some_iff.1 hBx).1
            have hBx1 := (hbV1.block m hmw).trans hBx
            have hG1 := hG.below hbV1
            have HA := moved43 (which := i) (c := pc) (hPI.kept hB0V (Nat.le_refl _)) hmay (by omega) hBx1 hG1 (by omega) (by have := hbV1.size; omega)
            have HG1 := hid hG1
            have HQ1 : Hid (V1.heap[q]? = some (.cells #[.slice none 0 0, .int .i64 (joinS L), .int .i64 (capsTo L i)] 24 (0, 0))) := (hbV1.block q hqw).trans HQ.out
            have HY1 : Hid (V1.heap[B0]? = some (.cells #[.slice none 0 0, .int .i64 0, .int .i64 0] 24 (0, 0))) := (hbV1.block B0 (by omega)).trans HY.out
            have HBV1 := hid hB0V
            have hV1s : wr.heap.size < V1.heap.size := (Array.getElem?_eq_some_iff.1 hX1).1
            obtain ⟨p, hp⟩ : ∃ p, p = wr.heap.size := ⟨_, rfl⟩
            rw [← hp] at hX1 hV1s
            have HX1 := hid hX1
            obtain ⟨c0, c1, c2⟩ := three_cells hX1
            have hpm : p ≠ m := by omega
            have hqp : q < p := by omega
            clear hG hG1 hBx hBx1 HMR hbV1 hX1 hB0V hPI hsu hmay hlen hmo
            go_upto_region 16 with fail
            rw [← hV1, ← hp]
            clear hV1 hp m0 m1 m2 q0 q1 q2
            go_upto_region 17 with (go_at_call 43; (with_reducible refine HA.mono ?_); rintro e w2 ⟨rfl, hMR2, hc2⟩; have HMR2 := hid hMR2; have HC2 := hid hc2; clear hMR2 hc2 HA)
            clear c0 c1 c2
            have hX2 := HG1.out.chs HC2.out HX1.out (by decide) hpm
            have hQ2 := HG1.out.chs HC2.out HQ1.out (by decide) (by omega)
            have hY2 := HG1.out.chs HC2.out HY1.out (by decide) (by omega)
            have hB2 : Below B0 w w2 := HBV1.out.trans (HC2.out.low (fun b h' => h'.elim (fun e => by omega) (fun h' => (HG1.out.row.lt b h').1)) (by have := HBV1.out.size; omega))
            obtain ⟨c0, c1, c2⟩ := three_cells hX2
            obtain ⟨q0, q1, q2⟩ := three_cells hQ2
            have g2 := Joins.unfrozen_of_block hQ2 2
            have hq2 : q < w2.heap.size := (Array.getElem?_eq_some_iff.1 hQ2).1
            have HQ2 := hid hQ2
            have HY2 := hid hY2
            have HB2 := hid hB2
            have hcap : capsTo L (i + 1) = max (capsTo L i) P.k := by rw [HP.out]; rfl
            have HCAP := hid hcap
            clear hX2 hQ2 hY2 hB2 hcap HQ1 HY1 HBV1 HX1 HG1 HC2
            go_wp2_with fail
            obtain ⟨y1, y3, MS2, hBx2, hG2, _⟩ := HMR2.out
            refine ⟨⟨i + 1, by push_cast; rfl, by omega, ⟨y1, y3, MS2, ?_, ?_⟩, ?_, ?_, ?_, by simpa [World.setCell] using hq2⟩, by simp [intOf]; omega⟩
            · rw [HSU.out, ← HLEN.out]
              exact (Below.heap_setCell _ _ _ _ (by show m ≠ q; omega)).trans hBx2
            · have h' := hG2.setOther (o := 2) HQ2.out (by decide) (by decide) (.int .i64 (capsTo L (i + 1)))
              rw [HSU.out, ← HLEN.out, movedL_succ, ← List.append_assoc, ← HP.out]
              rw [HCAP.out] at h'
              exact h'
            · rw [HCAP.out]; exact Joins.block_setCell (i := 2) HQ2.out _
            · exact (Below.heap_setCell _ _ _ _ (by show B0 ≠ q; omega)).trans HY2.out
            · exact HB2.out.setCell (p := ⟨q, 2, none⟩) (by show B0 ≤ q; omega) _
          · have b1 : decide ((i : Int) < (n : Int)) = false := by simp; omega
            obtain rfl : n = i := by omega
            obtain ⟨z1, cc, MS, hBx, hG⟩ := HMR.out
            have hmw : m < wr.heap.size := (Array.getElem?_eq_some_iff.1 hBx).1
            have r0 := Joins.cell_of_block hBx 0
            have hnL : n = L.length := HL.out
            have hNe : ahead L n = NN := by rw [hnL]; exact hNN
            rw [hNe] at hBx hG r0
            have hJ : altsL L (n - 1) ++ movedL L n = joinI L := by unfold joinI; rw [← hnL]
            rw [hJ] at hG
            have g0 := Joins.unfrozen_of_block HQ.out 0
            have s0 := Joins.unfrozen_of_block HY.out 0
            have s1 := Joins.unfrozen_of_block HY.out 1
            have s2 := Joins.unfrozen_of_block HY.out 2
            obtain ⟨y0, y1, y2⟩ := three_cells HY.out
            have hBq : B0 ≠ q := by omega
            have hB0w : B0 < wr.heap.size := by omega
            have HG := hid hG
            clear hBx hG hJ hnL hNe
            go_wp2_with fail
            obtain ⟨E, hE⟩ : ∃ E, E = (((wr.setCell ⟨q, 0, none⟩ (.slice z1 NN cc)).setCell ⟨B0, 0, none⟩ (.slice z1 NN cc)).setCell ⟨B0, 1, none⟩ (.int .i64 (joinS L))).setCell ⟨B0, 2, none⟩ (.int .i64 (capsTo L n)) := ⟨_, rfl⟩
            rw [← hE]
            have hQ0 : (wr.setCell ⟨q, 0, none⟩ (.slice z1 NN cc)).heap[B0]? = some (.cells #[.slice none 0 0, .int .i64 0, .int .i64 0] 24 (0, 0)) := (Below.heap_setCell _ _ _ _ hBq).trans HY.out
            have hQE : E.heap[B0]? = some (.cells #[.slice z1 NN cc, .int .i64 (joinS L), .int .i64 (capsTo L n)] 24 (0, 0)) := by
              rw [hE]
              exact Joins.block_setCell (i := 2) (Joins.block_setCell (i := 1) (Joins.block_setCell (i := 0) hQ0 _) _) _
            have hBE : Below B0 w E := by
              rw [hE]
              exact (((HB.out.setCell (p := ⟨q, 0, none⟩) (by show B0 ≤ q; omega) _).setCell (p := ⟨B0, 0, none⟩) (Nat.le_refl _) _).setCell (p := ⟨B0, 1, none⟩) (Nat.le_refl _) _).setCell (p := ⟨B0, 2, none⟩) (Nat.le_refl _) _
            have hGE : GR E B0 (.slice z1 NN cc) MS (joinI L) := by
              have t1 := HG.out.setOther (o := 0) HQ.out (by decide) (by decide) (.slice z1 NN cc)
              have t2 := t1.setOther (o := 0) hQ0 (by decide) (by decide) (.slice z1 NN cc)
              have t3 := t2.setOther (o := 1) (Joins.block_setCell (i := 0) hQ0 _) (by decide) (by decide) (.int .i64 (joinS L))
              rw [hE]
              exact t3.setOther (o := 2) (Joins.block_setCell (i := 1) (Joins.block_setCell (i := 0) hQ0 _) _) (by decide) (by decide) _
            refine bodyPost_ret (results_cell_row rfl _ _ B0 24 _ (0, 0) _ rfl hQE Try.underlying24 rfl (by kernel_rfl)) rfl ?_
            rw [← HBE.out]
            exact ⟨z1, cc, MS, by rw [hNN], by rw [hNN]; exact hGE, hBE⟩
      · have b0 : decide (((n - 1 : Nat) : Int) > 0) = true := by simp; omega
        have b1 : decide ((0 : Int) < ((n - 1 : Nat) : Int)) = true := by simp; omega
        obtain ⟨Vd, hVd⟩ : ∃ Vd, Vd = V0.drew := ⟨_, rfl⟩
        have k0 := HEN0.out.at0 (n - 1) (by omega)
        have HEN0' : Hid (EN Vd g n L) := by rw [hVd]; exact HEN0.out
        have HMR0' : Hid (MR1 Vd m B0 (n - 1) ((List.range (n - 1)).map (altJ L))) := by
          obtain ⟨z1, cc, MS, hB, hG⟩ := HMR0.out
          rw [hVd]
          exact ⟨z1, cc, MS, hB, hG.kept (fun _ _ _ _ => rfl)⟩
        have HQ0' : Hid (Vd.heap[q]? = some (.cells #[.slice none 0 0, .int .i64 (entry L 0), .int .i64 0] 24 (0, 0))) := by rw [hVd]; exact HQ0.out
        have HY0' : Hid (Vd.heap[B0]? = some (.cells #[.slice none 0 0, .int .i64 0, .int .i64 0] 24 (0, 0))) := by rw [hVd]; exact HY0.out
        have HBV0' : Hid (Below B0 w Vd) := by rw [hVd]; exact HBV0.out.drew
        have hqV0' : q < Vd.heap.size := by rw [hVd]; exact hqV0
        clear HEN0 HMR0 HQ0 HY0 HBV0 hqV0
        have HEN0 := HEN0'
        have HMR0 := HMR0'
        have HQ0 := HQ0'
        have HY0 := HY0'
        have HBVd := HBV0'
        have hqVd := hqV0'
        clear HEN0' HMR0' HQ0' HY0' HBV0' hqV0'
        obtain ⟨z1, cc, MS, hBx, hG⟩ := HMR0.out
        obtain ⟨gz, hgz⟩ : ∃ gz, z1 = some ⟨gz, 0, none⟩ := by
          rcases hG.row.2 with ⟨_, e⟩ | ⟨g', cap, cur, e, _⟩
          · simp at e; omega
          · simp only [Value.slice.injEq] at e; exact ⟨g', e.1⟩
        subst hgz
        have r0 := Joins.cell_of_block hBx 0
        have hrow := hG.row
        simp only [List.length_map, List.length_range] at hrow
        have ht := row_there hrow (j := (n - 2) * 5 + 2) (m := 1) (by omega) 0 (by omega)
        rw [Nat.add_zero] at ht
        obtain ⟨vv, hvv⟩ := Option.isSome_iff_exists.1 ht.1
        have hff := ht.2
        obtain ⟨MS2, hG2⟩ := hG.setY (n - 2) (by simp; omega) (entry L (n - 1))
        have hset : ((List.range (n - 1)).map (altJ L)).set (n - 2) { ((List.range (n - 1)).map (altJ L))[n - 2]'(by simp; omega) with y := entry L (n - 1) } = altsL L (n - 1) := by
          have h' := alts_last L (n - 2) (by have := HL.out; omega)
          rw [show n - 2 + 1 = n - 1 by omega] at h'
          rw [← h']
          congr 1
          simp [altJ]
        rw [hset] at hG2
        have hgq : gz ≠ q := fun e => own_ne hrow HQ0.out (by decide) (by rw [e]; rfl)
        have hgB : gz ≠ B0 := fun e => own_ne hrow HY0.out (by decide) (by rw [e]; rfl)
        have hgm2 : gz ≠ m := fun e => own_ne hrow hBx (by decide) (by rw [e]; rfl)
        have hgz0 : B0 ≤ gz := (hrow.lt gz rfl).1
        obtain ⟨V, hV⟩ : ∃ V, V = (Vd.setCell ⟨gz, (n - 2) * 5 + 2, none⟩ (.int .i64 (entry L (n - 1)))).setCell ⟨q, 1, none⟩ (.int .i64 0) := ⟨_, rfl⟩
        have hQ2 : (Vd.setCell ⟨gz, (n - 2) * 5 + 2, none⟩ (.int .i64 (entry L (n - 1)))).heap[q]? = some (.cells #[.slice none 0 0, .int .i64 (entry L 0), .int .i64 0] 24 (0, 0)) := (Below.heap_setCell _ _ _ _ (fun e => hgq e.symm)).trans HQ0.out
        have hst : 0 = joinS L := by
          unfold joinS
          rw [if_neg (by have := HL.out; omega)]
        have HQV : Hid (V.heap[q]? = some (.cells #[.slice none 0 0, .int .i64 (joinS L), .int .i64 (capsTo L 0)] 24 (0, 0))) := by rw [hV, ← hst]; exact Joins.block_setCell (i := 1) hQ2 _
        have HYV : Hid (V.heap[B0]? = some (.cells #[.slice none 0 0, .int .i64 0, .int .i64 0] 24 (0, 0))) := by rw [hV]; exact (Below.heap_setCell _ _ _ _ (by show B0 ≠ q; omega)).trans ((Below.heap_setCell _ _ _ _ (fun e => hgB e.symm)).trans HY0.out)
        have HBV : Hid (Below B0 w V) := by rw [hV]; exact (HBVd.out.setCell (p := ⟨gz, (n - 2) * 5 + 2, none⟩) hgz0 _).setCell (p := ⟨q, 1, none⟩) (by show B0 ≤ q; omega) _
        have hqV : q < V.heap.size := by rw [hV]; simpa [World.setCell] using hqVd
        have HMV : Hid (MR1 V m B0 (n - 1) (altsL L (n - 1))) := by
          rw [hV]
          exact ⟨_, cc, MS2, (Below.heap_setCell _ _ _ _ (by show m ≠ q; omega)).trans ((Below.heap_setCell _ _ _ _ (fun e => hgm2 e.symm)).trans hBx), hG2.setOther (o := 1) hQ2 (by decide) (by decide) _⟩
        have a2 : IntKind.i64.wrap (((n - 1 : Nat) : Int) - 1) = ((n - 2 : Nat) : Int) := by rw [wrap_ok _ (by omega) (by omega)]; omega
        have u3 : ((n - 2 : Nat) : Int) < ((n - 1 : Nat) : Int) := by omega
        have u4 : ((n - 1 : Nat) : Int) < (n : Int) := by omega
        have f1 := Joins.unfrozen_of_block hQ2 1
        have k1 := Joins.cell_of_block hQ2 1
        clear HQ0 HY0 HBVd HMR0 hst hG hG2 hset hQ2 ht
        have hvd0 : Vd.cell? ⟨m, 0, none⟩ = some (.slice (some ⟨gz, 0, none⟩) (n - 1) cc) := Joins.cell_of_block hBx 0
        have hvd1 := HEN0.out.at0 (n - 1) (by omega)
        clear hrow hBx HEN0 r0 k0 hn1
        subst hVd
        have b9 : decide (0 < n - 1) = true := by simp; omega
        have b9n : 0 < n - 1 := by omega
        go_upto_region 11 with fail
        have hvd2 : V0.cell? ⟨m, 0, none⟩ = some (.slice (some ⟨gz, 0, none⟩) (n - 1) cc) := hvd0
        have hvd3 : V0.cell? ⟨g, n - 1, none⟩ = some (.int .i64 (entry L (n - 1))) := hvd1
        have hvd4 : V0.cell? ⟨gz, (n - 2) * 5 + 2, none⟩ = some vv := hvv
        have hvd5 : V0.frozen? ⟨gz, (n - 2) * 5 + 2, none⟩ = false := hff
        clear hvd0 hvd1 hvv hff
        go_region
        obtain ⟨Va, hVa⟩ : ∃ Va, Va = V0.drew.setCell ⟨gz, (n - 2) * 5 + 2, none⟩ (.int .i64 (entry L (n - 1))) := ⟨_, rfl⟩
        have hcm : (V0.setCell ⟨gz, (n - 2) * 5 + 2, none⟩ (.int .i64 (entry L (n - 1)))).drew = V0.drew.setCell ⟨gz, (n - 2) * 5 + 2, none⟩ (.int .i64 (entry L (n - 1))) := rfl
        rw [hcm]
        rw [← hVa] at f1 k1 hV ⊢
        clear hcm
        clear hVa
        go_upto_region 13 with fail
        rw [← hV]
        have b1 : (0 : Nat) = 0 := rfl
        have k0 : (0 : Nat) = 0 := rfl
        clear hV hvd2 hvd3 hvd4 hvd5 a2 u3 u4 f1 k1 b0
        have b0 : (0 : Nat) = 0 := rfl
        clear k0 b1 b0 HEN
        go_wp2_with fail
        clear HN0
        have HMRV : Hid (MR1 V m B0 (ahead L 0) (altsL L (n - 1) ++ movedL L 0)) := by
          have h' := HMV.out
          rw [ahead_zero, show L.length - 1 = n - 1 by have := HL.out; omega]
          have e0 : altsL L (n - 1) ++ movedL L 0 = altsL L (n - 1) := by simp [movedL]
          rw [e0]
          exact h'
        clear HMV
        go_loopw [54] (fun y wq => ∃ i : Nat, y = .int .i64 (i : Int) ∧ i ≤ n ∧ Hid (MR1 wq m B0 (ahead L i) (altsL L (n - 1) ++ movedL L i)) ∧ Hid (wq.heap[q]? = some (.cells #[.slice none 0 0, .int .i64 (joinS L), .int .i64 (capsTo L i)] 24 (0, 0))) ∧ Hid (wq.heap[B0]? = some (.cells #[.slice none 0 0, .int .i64 0, .int .i64 0] 24 (0, 0))) ∧ Hid (Below B0 w wq) ∧ q < wq.heap.size) (fun y _ => n - (intOf y).toNat)
        case atStart => exact ⟨0, rfl, by omega, HMRV.out, HQV.out, HYV.out, HBV.out, hqV⟩
        case round =>
          clear HMRV HQV HYV HBV hqV
          obtain ⟨i, rfl, hi, HMR, HQ, HY, HB, hqw⟩ := hrel
          obtain ⟨q0, q1, q2⟩ := three_cells HQ.out
          by_cases hil : i < n
          · have b1 : decide ((i : Int) < (n : Int)) = true := by simp; omega
            have b2 : (i : Int) < (n : Int) := by omega
            have ad1 := wrap_ok ((i : Int) + 1) (by omega) (by omega)
            have hiL : i < L.length := by have := HL.out; omega
            obtain ⟨b, o, PA, PN, PC, e, hbl, hcs⟩ := HLP.out.mem (by omega)
            subst e
            obtain ⟨hP3, hPI, hPN⟩ := hcs i hil
            obtain ⟨m0, m1, m2⟩ := hP3.kept (HB.out.block b hbl)
            have hmay := HM.out i hiL
            have hsu := ahead_succ L i hiL
            have hmo := ahead_mono L L.length (i + 1) (by omega) (Nat.le_refl _)
            have hlen := hPI.len
            clear hcs hP3
            obtain ⟨pa, hpa⟩ : ∃ pa, pa = PA i := ⟨_, rfl⟩
            obtain ⟨pn, hpn⟩ : ∃ pn, pn = PN i := ⟨_, rfl⟩
            obtain ⟨pc, hpc⟩ : ∃ pc, pc = PC i := ⟨_, rfl⟩
            rw [← hpa, ← hpn, ← hpc] at m0
            rw [← hpa, ← hpn] at hPI
            rw [← hpn] at hlen
            clear hpa hpn hpc hPN
            obtain ⟨P, hP⟩ : ∃ P, P = L.getD i default := ⟨_, rfl⟩
            rw [← hP] at m1 m2 hPI hmay hsu hlen
            have HP := hid hP
            have HSU := hid hsu
            have HLEN := hid hlen
            clear hP
            have hkk := may_ok hmay
            obtain ⟨V1, hV1⟩ : ∃ V1, V1 = wr.alloc (.cells #[.slice pa pn pc, .int .i64 P.s, .int .i64 P.k] 24) := ⟨_, rfl⟩
            have hbV1 : Below wr.heap.size wr V1 := by rw [hV1]; exact Joins.below_alloc1 wr _
            have hX1 : V1.heap[wr.heap.size]? = some (.cells #[.slice pa pn pc, .int .i64 P.s, .int .i64 P.k] 24 (0, 0)) := by rw [hV1]; exact heap_alloc_new wr _
            have hB0V : Below B0 w V1 := HB.out.trans (Joins.below_le hbV1 (by omega))
            obtain ⟨z1, cc, MS, hBx, hG⟩ := HMR.out
            have hmw : m < wr.heap.size := (Array.getElem?_eq_some_iff.1 hBx).1
            have hBx1 := (hbV1.block m hmw).trans hBx
            have hG1 := hG.below hbV1
            have HA := moved43 (which := i) (c := pc) (hPI.kept hB0V (Nat.le_refl _)) hmay (by omega) hBx1 hG1 (by omega) (by have := hbV1.size; omega)
            have HG1 := hid hG1
            have HQ1 : Hid (V1.heap[q]? = some (.cells #[.slice none 0 0, .int .i64 (joinS L), .int .i64 (capsTo L i)] 24 (0, 0))) := (hbV1.block q hqw).trans HQ.out
            have HY1 : Hid (V1.heap[B0]? = some (.cells #[.slice none 0 0, .int .i64 0, .int .i64 0] 24 (0, 0))) := (hbV1.block B0 (by omega)).trans HY.out
            have HBV1 := hid hB0V
            have hV1s : wr.heap.size < V1.heap.size := (Array.getElem?_eq_some_iff.1 hX1).1
            obtain ⟨p, hp⟩ : ∃ p, p = wr.heap.size := ⟨_, rfl⟩
            rw [← hp] at hX1 hV1s
            have HX1 := hid hX1
            obtain ⟨c0, c1, c2⟩ := three_cells hX1
            have hpm : p ≠ m := by omega
            have hqp : q < p := by omega
            clear hG hG1 hBx hBx1 HMR hbV1 hX1 hB0V hPI hsu hmay hlen hmo
            go_upto_region 16 with fail
            rw [← hV1, ← hp]
            clear hV1 hp m0 m1 m2 q0 q1 q2
            go_upto_region 17 with (go_at_call 43; (with_reducible refine HA.mono ?_); rintro e w2 ⟨rfl, hMR2, hc2⟩; have HMR2 := hid hMR2; have HC2 := hid hc2; clear hMR2 hc2 HA)
            clear c0 c1 c2
            have hX2 := HG1.out.chs HC2.out HX1.out (by decide) hpm
            have hQ2 := HG1.out.chs HC2.out HQ1.out (by decide) (by omega)
            have hY2 := HG1.out.chs HC2.out HY1.out (by decide) (by omega)
            have hB2 : Below B0 w w2 := HBV1.out.trans (HC2.out.low (fun b h' => h'.elim (fun e => by omega) (fun h' => (HG1.out.row.lt b h').1)) (by have := HBV1.out.size; omega))
            obtain ⟨c0, c1, c2⟩ := three_cells hX2
            obtain ⟨q0, q1, q2⟩ := three_cells hQ2
            have g2 := Joins.unfrozen_of_block hQ2 2
            have hq2 : q < w2.heap.size := (Array.getElem?_eq_some_iff.1 hQ2).1
            have HQ2 := hid hQ2
            have HY2 := hid hY2
            have HB2 := hid hB2
            have hcap : capsTo L (i + 1) = max (capsTo L i) P.k := by rw [HP.out]; rfl
            have HCAP := hid hcap
            clear hX2 hQ2 hY2 hB2 hcap HQ1 HY1 HBV1 HX1 HG1 HC2
            go_wp2_with fail
            obtain ⟨y1, y3, MS2, hBx2, hG2, _⟩ := HMR2.out
            refine ⟨⟨i + 1, by push_cast; rfl, by omega, ⟨y1, y3, MS2, ?_, ?_⟩, ?_, ?_, ?_, by simpa [World.setCell] using hq2⟩, by simp [intOf]; omega⟩
            · rw [HSU.out, ← HLEN.out]
              exact (Below.heap_setCell _ _ _ _ (by show m ≠ q; omega)).trans hBx2
            · have h' := hG2.setOther (o := 2) HQ2.out (by decide) (by decide) (.int .i64 (capsTo L (i + 1)))
              rw [HSU.out, ← HLEN.out, movedL_succ, ← List.append_assoc, ← HP.out]
              rw [HCAP.out] at h'
              exact h'
            · rw [HCAP.out]; exact Joins.block_setCell (i := 2) HQ2.out _
            · exact (Below.heap_setCell _ _ _ _ (by show B0 ≠ q; omega)).trans HY2.out
            · exact HB2.out.setCell (p := ⟨q, 2, none⟩) (by show B0 ≤ q; omega) _
          · have b1 : decide ((i : Int) < (n : Int)) = false := by simp; omega
            obtain rfl : n = i := by omega
            obtain ⟨z1, cc, MS, hBx, hG⟩ := HMR.out
            have hmw : m < wr.heap.size := (Array.getElem?_eq_some_iff.1 hBx).1
            have r0 := Joins.cell_of_block hBx 0
            have hnL : n = L.length := HL.out
            have hNe : ahead L n = NN := by rw [hnL]; exact hNN
            rw [hNe] at hBx hG r0
            have hJ : altsL L (n - 1) ++ movedL L n = joinI L := by unfold joinI; rw [← hnL]
            rw [hJ] at hG
            have g0 := Joins.unfrozen_of_block HQ.out 0
            have s0 := Joins.unfrozen_of_block HY.out 0
            have s1 := Joins.unfrozen_of_block HY.out 1
            have s2 := Joins.unfrozen_of_block HY.out 2
            obtain ⟨y0, y1, y2⟩ := three_cells HY.out
            have hBq : B0 ≠ q := by omega
            have hB0w : B0 < wr.heap.size := by omega
            have HG := hid hG
            clear hBx hG hJ hnL hNe
            go_wp2_with fail
            obtain ⟨E, hE⟩ : ∃ E, E = (((wr.setCell ⟨q, 0, none⟩ (.slice z1 NN cc)).setCell ⟨B0, 0, none⟩ (.slice z1 NN cc)).setCell ⟨B0, 1, none⟩ (.int .i64 (joinS L))).setCell ⟨B0, 2, none⟩ (.int .i64 (capsTo L n)) := ⟨_, rfl⟩
            rw [← hE]
            have hQ0 : (wr.setCell ⟨q, 0, none⟩ (.slice z1 NN cc)).heap[B0]? = some (.cells #[.slice none 0 0, .int .i64 0, .int .i64 0] 24 (0, 0)) := (Below.heap_setCell _ _ _ _ hBq).trans HY.out
            have hQE : E.heap[B0]? = some (.cells #[.slice z1 NN cc, .int .i64 (joinS L), .int .i64 (capsTo L n)] 24 (0, 0)) := by
              rw [hE]
              exact Joins.block_setCell (i := 2) (Joins.block_setCell (i := 1) (Joins.block_setCell (i := 0) hQ0 _) _) _
            have hBE : Below B0 w E := by
              rw [hE]
              exact (((HB.out.setCell (p := ⟨q, 0, none⟩) (by show B0 ≤ q; omega) _).setCell (p := ⟨B0, 0, none⟩) (Nat.le_refl _) _).setCell (p := ⟨B0, 1, none⟩) (Nat.le_refl _) _).setCell (p := ⟨B0, 2, none⟩) (Nat.le_refl _) _
            have hGE : GR E B0 (.slice z1 NN cc) MS (joinI L) := by
              have t1 := HG.out.setOther (o := 0) HQ.out (by decide) (by decide) (.slice z1 NN cc)
              have t2 := t1.setOther (o := 0) hQ0 (by decide) (by decide) (.slice z1 NN cc)
              have t3 := t2.setOther (o := 1) (Joins.block_setCell (i := 0) hQ0 _) (by decide) (by decide) (.int .i64 (joinS L))
              rw [hE]
              exact t3.setOther (o := 2) (Joins.block_setCell (i := 1) (Joins.block_setCell (i := 0) hQ0 _) _) (by decide) (by decide) _
            refine bodyPost_ret (results_cell_row rfl _ _ B0 24 _ (0, 0) _ rfl hQE Try.underlying24 rfl (by kernel_rfl)) rfl ?_
            rw [← HBE.out]
            exact ⟨z1, cc, MS, by rw [hNN], by rw [hNN]; exact hGE, hBE⟩
end Go.Proofs.Ytnecakampgdhcaa
