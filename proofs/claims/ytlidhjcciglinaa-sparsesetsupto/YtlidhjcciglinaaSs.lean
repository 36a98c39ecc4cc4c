/- HELPERS: the walk of SparseSets. -/
import Derived.Test.YtlidhjcciglinaaSn
import Derived.Deep.Cut
import Derived.Deep.CutRange
namespace Go.Proofs.Ytlidhjcciglinaa
open Go.RowKit
set_option linter.unusedVariables false
set_option linter.unusedSimpArgs false
theorem and_one' (y : Int) : ∃ k : Nat, k < 2 ∧ bits .and .i64 y 1 = (k : Int) := by
  rcases and_one y with h | h
  · exact ⟨0, by omega, h⟩
  · exact ⟨1, by omega, h⟩
set_option maxHeartbeats 40000000 in
set_option maxRecDepth 1000000 in
theorem sets3 (one two : Int) (S : List (Int × Int × Int)) (ad : Option Addr) (n c : Nat) (w0 : World) (hT : Hid (ScriptAt w0.heap.size w0 ad n S)) (hn : n ≤ 1048576) :
    Calls Try.prog 3 #[.int .i64 one, .int .i64 two, .slice ad n c] w0 fun e w' => e = .returned (.bool true) ∧ Below w0.heap.size w0 w' := by
  go_enter Try.func3, Try.ntmps3
  go_wp2_with fail
  refine (awake7 w0).mono ?_
  rintro e w ⟨rfl, hb0⟩
  have hs0 := hb0.size
  have HB0 : Hid (Below w0.heap.size w0 w) := hb0
  clear hb0
  go_wp2_with fail
  refine (new8 one w).mono ?_
  rintro e w1 ⟨p0, F0, rfl, hS0, hb1⟩
  have HS0 : Hid (SetS w.heap.size w1 p0 F0 (lim one) []) := hS0
  have HB1 : Hid (Below w.heap.size w w1) := hb1
  clear hS0 hb1
  go_wp2_with fail
  refine (new8 two w1).mono ?_
  rintro e w2 ⟨p1, F1, rfl, hS1, hb2⟩
  have HS1 : Hid (SetS w1.heap.size w2 p1 F1 (lim two) []) := hS1
  have HB2 : Hid (Below w1.heap.size w1 w2) := hb2
  clear hS1 hb2
  go_wp2_with fail
  refine (new9 one _).mono ?_
  rintro e w4 ⟨q0, G0, rfl, hR0, hb4⟩
  have HR0 : Hid (RefS (w2.heap.size + 1) w4 q0 G0 (lim one) []) := by
    show RefS _ _ _ _ _ _
    simpa using hR0
  have HB4 : Hid (Below (w2.heap.size + 1) (w2.alloc (.cells #[ptr p0, ptr p1] 24)) w4) := by
    show Below _ _ _
    simpa [ptr] using hb4
  have hk4 : w4.heap[w2.heap.size]? = some (.cells #[ptr p0, ptr p1] 24 (0, 0)) := (HB4.out.block w2.heap.size (by omega)).trans (heap_alloc_new w2 _)
  have HK4 : Hid (w4.heap[w2.heap.size]? = some (.cells #[ptr p0, ptr p1] 24 (0, 0))) := hk4
  have hz4 : w2.heap.size < w4.heap.size := (Array.getElem?_eq_some_iff.1 hk4).1
  clear hR0 hb4 hk4
  go_wp2_with fail
  refine (new9 two w4).mono ?_
  rintro e w5 ⟨q1, G1, rfl, hR1, hb5⟩
  have hk5 : w5.heap[w2.heap.size]? = some (.cells #[ptr p0, ptr p1] 24 (0, 0)) := (hb5.block w2.heap.size hz4).trans HK4.out
  have hz5 : w2.heap.size < w5.heap.size := (Array.getElem?_eq_some_iff.1 hk5).1
  have hc0 : w5.cell? ⟨w2.heap.size, 0, none⟩ = some (.pointer (some ⟨p0, 0, none⟩)) := by simpa [ptr] using Joins.cell_of_block hk5 0
  have hc1 : w5.cell? ⟨w2.heap.size, 1, none⟩ = some (.pointer (some ⟨p1, 0, none⟩)) := by simpa [ptr] using Joins.cell_of_block hk5 1
  have HI : Hid (No w.heap.size w (w5.alloc (.cells #[.pointer (some ⟨q0, 0, none⟩), .pointer (some ⟨q1, 0, none⟩)] 27)) w2.heap.size w5.heap.size (D0 p0 p1 q0 q1 (lim one) (lim two))) := No.init HS0.out HB1.out HS1.out HB2.out HR0.out HB4.out hR1 hb5
  clear hR1 hb5 hk5 HK4 HS0 HB1 HS1 HB2 HR0 HB4 hz4
  go_wp2
  generalize w5.heap.size = gr at HI ⊢
  generalize w2.heap.size = gs at HI ⊢
  obtain ⟨N, hN⟩ : ∃ N, w.heap.size = N := ⟨_, rfl⟩
  rw [hN] at HI hs0
  clear hN hc0 hc1 hz5
  go_loopw [10, 11, 12] (fun o v ix wr => ∃ (i : Nat) (D : SD), i ≤ n + 2 ∧ ix = .int .i64 i ∧ o = D.ov ∧ v = D.wv ∧ Hid (No N w wr gs gr D) ∧ Hid (Eq2 D n i))
    (fun _ _ ix _ => n + 2 - (intOf ix).toNat)
  case atStart => exact ⟨0, _, by omega, rfl, rfl, rfl, HI, ⟨rfl, rfl, rfl, by simp [D0], fun h => by omega⟩⟩
  case round =>
    obtain ⟨i, D, hi, rfl, rfl, rfl, HM, HE⟩ := hrel
    clear HI
    have HB1 : Hid (Below w0.heap.size w0 wr) := HB0.out.trans (HM.out.below.mono hs0)
    have hsz := HM.out.sz
    by_cases hin : i < n
    · obtain ⟨b, off, d, h, x, rfl, hbN, q0, q1, q2⟩ := hT.out.at HB1.out i hin
      clear HB1
      have hbw : b < wr.heap.size := by omega
      obtain ⟨k, hk, ha⟩ := and_one' h
      by_cases hd0 : d = 0
      · subst hd0
        by_cases hx : fresh (D.n k) (D.A k) x
        · have cs := HM.out.cs k hk
          have cr := HM.out.cr k hk
          have ls := HM.out.ls
          have lr := HM.out.lr
          have HV : Hid (Nv N w (wr.alloc (.cells #[.int .i64 0, .int .i64 h, .int .i64 x] 32)) gs gr wr.heap.size (.cells #[.int .i64 0, .int .i64 h, .int .i64 x] 32 (0, 0)) D) := HM.out.nv _
          have hA : D.A' k = D.A k := by rw [HE.out.eA]
          have hN' : D.n' k = D.n k := by rw [HE.out.en]
          have HA : Hid (D.A' k = D.A k) := hA
          have HN : Hid (D.n' k = D.n k) := hN'
          clear hA hN' HM
          have HX : Hid (fresh (D.n k) (D.A k) x) := hx
          clear hx
          have hp := v_add HV.out.drew k (D.p k) (D.n k) hk rfl rfl (D.A k) rfl x HX.out
          go_wp2_with fail
          go_cut [16] from 48 to 189 (fun s w2 => s = .bool true ∧ Hid (Nv N w w2 gs gr wr.heap.size (.cells #[.int .i64 0, .int .i64 h, .int .i64 x] 32 (0, 0)) ({ D with A := updF D.A k (D.A k ++ [x]) } : SD) ∧ (D.A k).length < 1048576))
          case first =>
            go_region_with (go_at_call 10; refine hp.mono ?_; rintro e w2 ⟨rfl, hV2, hl2⟩)
            all_goals go_wp2_with fail
            all_goals go_meet
            all_goals exact ⟨rfl, hV2, hl2⟩
          obtain ⟨w2, hw2⟩ : ∃ w2, w2 = wc := ⟨_, rfl⟩
          rw [← hw2] at hcut ⊢
          clear hw2 wc
          obtain ⟨rfl, hcc⟩ := hcut
          obtain ⟨hV2, hl2⟩ := hcc.out
          clear hcc
          have HV2 : Hid (Nv N w w2 gs gr wr.heap.size (.cells #[.int .i64 0, .int .i64 h, .int .i64 x] 32 (0, 0)) ({ D with A := updF D.A k (D.A k ++ [x]) } : SD)) := hV2
          have cr2 : w2.cell? ⟨gr, k, none⟩ = some (.pointer (some ⟨D.q k, 0, none⟩)) := hV2.cr k hk
          have cx2 : w2.cell? ⟨wr.heap.size, 2, none⟩ = some (.int .i64 x) := hV2.x2
          have hp2 := v_radd HV2.out.drew k (D.q k) (D.n k) hk rfl HN.out (D.A k) HA.out x HX.out hl2
          clear hp hV2 HV cs cr ls lr
          go_wp2_with fail
          go_region_with (go_at_call 11; refine hp2.mono ?_; rintro e w3 ⟨rfl, hV3⟩)
          all_goals
            have HV3 : Hid (No N w w3 gs gr ({ D with A := updF D.A k (D.A k ++ [x]), A' := updF D.A' k (D.A k ++ [x]) } : SD)) := hV3.no
            clear hp2 HV2 cr2 cx2 hV3
            go_wp2
            go_roundw
            case rel => exact ⟨i + 1, ({ D with A := updF D.A k (D.A k ++ [x]), A' := updF D.A' k (D.A k ++ [x]) } : SD), by omega, by go_num, rfl, rfl, HV3, HE.out.app hin k _⟩
            case measure => simp [intOf]; omega
        · have cs := HM.out.cs k hk
          have cr := HM.out.cr k hk
          have ls := HM.out.ls
          have lr := HM.out.lr
          have HV : Hid (Nv N w (wr.alloc (.cells #[.int .i64 0, .int .i64 h, .int .i64 x] 32)) gs gr wr.heap.size (.cells #[.int .i64 0, .int .i64 h, .int .i64 x] 32 (0, 0)) D) := HM.out.nv _
          have hA : D.A' k = D.A k := by rw [HE.out.eA]
          have hN' : D.n' k = D.n k := by rw [HE.out.en]
          have HA : Hid (D.A' k = D.A k) := hA
          have HN : Hid (D.n' k = D.n k) := hN'
          clear hA hN' HM
          have HX : Hid (¬ fresh (D.n k) (D.A k) x) := hx
          clear hx
          have hp := v_add_no HV.out.drew k (D.p k) (D.n k) hk rfl rfl (D.A k) rfl x HX.out
          go_wp2_with fail
          go_cut [16] from 48 to 189 (fun s w2 => s = .bool false ∧ Hid (Nv N w w2 gs gr wr.heap.size (.cells #[.int .i64 0, .int .i64 h, .int .i64 x] 32 (0, 0)) D))
          case first =>
            go_region_with (go_at_call 10; refine hp.mono ?_; rintro e w2 ⟨rfl, hV2⟩)
            all_goals go_wp2_with fail
            all_goals go_meet
            all_goals exact ⟨rfl, hV2⟩
          obtain ⟨w2, hw2⟩ : ∃ w2, w2 = wc := ⟨_, rfl⟩
          rw [← hw2] at hcut ⊢
          clear hw2 wc
          obtain ⟨rfl, HV2⟩ := hcut
          have hV2 := HV2.out
          have cr2 : w2.cell? ⟨gr, k, none⟩ = some (.pointer (some ⟨D.q k, 0, none⟩)) := hV2.cr k hk
          have cx2 : w2.cell? ⟨wr.heap.size, 2, none⟩ = some (.int .i64 x) := hV2.x2
          have hp2 := v_radd_no HV2.out.drew k (D.q k) (D.n k) hk rfl HN.out (D.A k) HA.out x HX.out
          clear hp hV2 HV cs cr ls lr
          go_wp2_with fail
          go_region_with (go_at_call 11; refine hp2.mono ?_; rintro e w3 ⟨rfl, rfl⟩)
          all_goals
            have HV3 : Hid (No N w w2.drew gs gr D) := HV2.out.drew.no
            clear hp2 HV2 cr2 cx2
            go_wp2
            go_roundw
            case rel => exact ⟨i + 1, D, by omega, by go_num, rfl, rfl, HV3, HE.out.next hin⟩
            case measure => simp [intOf]; omega
      · by_cases hd1 : d = 1
        · subst hd1
          cases hx : decide (x ∈ D.A k)
          · have cs := HM.out.cs k hk
            have cr := HM.out.cr k hk
            have ls := HM.out.ls
            have lr := HM.out.lr
            have HV : Hid (Nv N w (wr.alloc (.cells #[.int .i64 1, .int .i64 h, .int .i64 x] 32)) gs gr wr.heap.size (.cells #[.int .i64 1, .int .i64 h, .int .i64 x] 32 (0, 0)) D) := HM.out.nv _
            have hA : D.A' k = D.A k := by rw [HE.out.eA]
            have hN' : D.n' k = D.n k := by rw [HE.out.en]
            have HA : Hid (D.A' k = D.A k) := hA
            have HN : Hid (D.n' k = D.n k) := hN'
            clear hA hN' HM
            have hp1 : ∀ q : Nat, Calls Try.prog 12 #[.pointer (some ⟨D.p k, 0, none⟩), .int .i64 x] ((wr.alloc (.cells #[.int .i64 1, .int .i64 h, .int .i64 x] 32)).drewN q) fun e w' => e = .returned (.bool false) ∧ ∃ m, w' = ((wr.alloc (.cells #[.int .i64 1, .int .i64 h, .int .i64 x] 32)).drewN q).drewN m := fun q => by
              have := v_has (HV.out.drewN q) k (D.p k) hk rfl (D.A k) rfl x
              rw [hx] at this
              exact this
            go_wp2_with fail
            go_quiet (first | (go_at_call 12; exact Calls.quiet_of (hp1 _)) | fail)
            obtain ⟨wx, hwx⟩ : ∃ wx, wx = (wr.alloc (.cells #[.int .i64 1, .int .i64 h, .int .i64 x] 32)).drewN nq := ⟨_, rfl⟩
            rw [← hwx]
            have HVx : Hid (Nv N w wx gs gr wr.heap.size (.cells #[.int .i64 1, .int .i64 h, .int .i64 x] 32 (0, 0)) D) := by
              show Nv _ _ _ _ _ _ _ _
              rw [hwx]
              exact HV.out.drewN nq
            have crx := HVx.out.cr k hk
            have cxx := HVx.out.x2
            have hp2 : ∀ q : Nat, Calls Try.prog 13 #[.pointer (some ⟨D.q k, 0, none⟩), .int .i64 x] (wx.drewN q) fun e w' => e = .returned (.bool false) ∧ w' = wx.drewN q := fun q => by
              have := v_rhas (HVx.out.drewN q) k (D.q k) hk rfl (D.A k) HA.out x
              rw [hx] at this
              exact this
            have HV2 : Hid (∀ q : Nat, No N w (wx.drewN q) gs gr D) := fun q => (HVx.out.drewN q).no
            clear hp1 hwx HV HVx hx cs cr ls lr
            go_wp2_with fail
            go_quiet (first | (go_at_call 13; exact Calls.quiet_of_same (hp2 _)) | fail)
            have HV3 : Hid (No N w (wx.drewN nq) gs gr D) := HV2.out nq
            clear hp2 HV2 crx cxx
            go_wp2
            go_roundw
            case rel => exact ⟨i + 1, D, by omega, by go_num, rfl, rfl, HV3, HE.out.next hin⟩
            case measure => simp [intOf]; omega
          · have cs := HM.out.cs k hk
            have cr := HM.out.cr k hk
            have ls := HM.out.ls
            have lr := HM.out.lr
            have HV : Hid (Nv N w (wr.alloc (.cells #[.int .i64 1, .int .i64 h, .int .i64 x] 32)) gs gr wr.heap.size (.cells #[.int .i64 1, .int .i64 h, .int .i64 x] 32 (0, 0)) D) := HM.out.nv _
            have hA : D.A' k = D.A k := by rw [HE.out.eA]
            have hN' : D.n' k = D.n k := by rw [HE.out.en]
            have HA : Hid (D.A' k = D.A k) := hA
            have HN : Hid (D.n' k = D.n k) := hN'
            clear hA hN' HM
            have hp1 : ∀ q : Nat, Calls Try.prog 12 #[.pointer (some ⟨D.p k, 0, none⟩), .int .i64 x] ((wr.alloc (.cells #[.int .i64 1, .int .i64 h, .int .i64 x] 32)).drewN q) fun e w' => e = .returned (.bool true) ∧ ∃ m, w' = ((wr.alloc (.cells #[.int .i64 1, .int .i64 h, .int .i64 x] 32)).drewN q).drewN m := fun q => by
              have := v_has (HV.out.drewN q) k (D.p k) hk rfl (D.A k) rfl x
              rw [hx] at this
              exact this
            go_wp2_with fail
            go_quiet (first | (go_at_call 12; exact Calls.quiet_of (hp1 _)) | fail)
            obtain ⟨wx, hwx⟩ : ∃ wx, wx = (wr.alloc (.cells #[.int .i64 1, .int .i64 h, .int .i64 x] 32)).drewN nq := ⟨_, rfl⟩
            rw [← hwx]
            have HVx : Hid (Nv N w wx gs gr wr.heap.size (.cells #[.int .i64 1, .int .i64 h, .int .i64 x] 32 (0, 0)) D) := by
              show Nv _ _ _ _ _ _ _ _
              rw [hwx]
              exact HV.out.drewN nq
            have crx := HVx.out.cr k hk
            have cxx := HVx.out.x2
            have hp2 : ∀ q : Nat, Calls Try.prog 13 #[.pointer (some ⟨D.q k, 0, none⟩), .int .i64 x] (wx.drewN q) fun e w' => e = .returned (.bool true) ∧ w' = wx.drewN q := fun q => by
              have := v_rhas (HVx.out.drewN q) k (D.q k) hk rfl (D.A k) HA.out x
              rw [hx] at this
              exact this
            have HV2 : Hid (∀ q : Nat, No N w (wx.drewN q) gs gr D) := fun q => (HVx.out.drewN q).no
            clear hp1 hwx HV HVx hx cs cr ls lr
            go_wp2_with fail
            go_quiet (first | (go_at_call 13; exact Calls.quiet_of_same (hp2 _)) | fail)
            have HV3 : Hid (No N w (wx.drewN nq) gs gr D) := HV2.out nq
            clear hp2 HV2 crx cxx
            go_wp2
            go_roundw
            case rel => exact ⟨i + 1, D, by omega, by go_num, rfl, rfl, HV3, HE.out.next hin⟩
            case measure => simp [intOf]; omega
        · by_cases hd2 : d = 2
          · subst hd2
            have cs := HM.out.cs k hk
            have cr := HM.out.cr k hk
            have ls := HM.out.ls
            have lr := HM.out.lr
            have HV : Hid (Nv N w (wr.alloc (.cells #[.int .i64 2, .int .i64 h, .int .i64 x] 32)) gs gr wr.heap.size (.cells #[.int .i64 2, .int .i64 h, .int .i64 x] 32 (0, 0)) D) := HM.out.nv _
            have hA : D.A' k = D.A k := by rw [HE.out.eA]
            have hN' : D.n' k = D.n k := by rw [HE.out.en]
            have HA : Hid (D.A' k = D.A k) := hA
            have HN : Hid (D.n' k = D.n k) := hN'
            clear hA hN' HM
            have h1 := v_len HV.out k (D.p k) hk rfl (D.A k) rfl
            have h2 := v_rlen HV.out k (D.q k) hk rfl (D.A k) HA.out
            go_wp2_with (first | (go_at_call 14; refine h1.mono ?_; rintro e w2 ⟨rfl, rfl⟩) | (go_at_call 15; refine h2.mono ?_; rintro e w2 ⟨rfl, rfl⟩))
            have HV2 : Hid (No N w (wr.alloc (.cells #[.int .i64 2, .int .i64 h, .int .i64 x] 32)) gs gr D) := HV.out.no
            clear h1 h2 HV
            go_roundw
            case rel => exact ⟨i + 1, D, by omega, by go_num, rfl, rfl, HV2, HE.out.next hin⟩
            case measure => simp [intOf]; omega
          · by_cases hd4 : d = 4
            · subst hd4
              have cs := HM.out.cs k hk
              have cr := HM.out.cr k hk
              have ls := HM.out.ls
              have lr := HM.out.lr
              have HV : Hid (Nv N w (wr.alloc (.cells #[.int .i64 4, .int .i64 h, .int .i64 x] 32)) gs gr wr.heap.size (.cells #[.int .i64 4, .int .i64 h, .int .i64 x] 32 (0, 0)) D) := HM.out.nv _
              have hA : D.A' k = D.A k := by rw [HE.out.eA]
              have hN' : D.n' k = D.n k := by rw [HE.out.en]
              have HA : Hid (D.A' k = D.A k) := hA
              have HN : Hid (D.n' k = D.n k) := hN'
              clear hA hN' HM
              go_wp2_with fail
              refine (v_clear HV.out k (D.p k) hk rfl).mono ?_
              rintro e w2 ⟨rfl, hV2⟩
              have HV2 : Hid (Nv N w w2 gs gr wr.heap.size (.cells #[.int .i64 4, .int .i64 h, .int .i64 x] 32 (0, 0)) ({ D with A := updF D.A k [] } : SD)) := hV2
              have cr2 : w2.cell? ⟨gr, k, none⟩ = some (.pointer (some ⟨D.q k, 0, none⟩)) := hV2.cr k hk
              clear hV2 HV cs cr ls lr
              go_wp2_with fail
              refine (v_rclear HV2.out k (D.q k) hk rfl).mono ?_
              rintro e w3 ⟨rfl, hV3⟩
              have HV3 : Hid (No N w w3 gs gr ({ D with A := updF D.A k [], A' := updF D.A' k [] } : SD)) := hV3.no
              clear hV3 HV2 cr2
              go_wp2
              go_roundw
              case rel => exact ⟨i + 1, ({ D with A := updF D.A k [], A' := updF D.A' k [] } : SD), by omega, by go_num, rfl, rfl, HV3, HE.out.app hin k _⟩
              case measure => simp [intOf]; omega
            · by_cases hd5 : d = 5
              · subst hd5
                have cs := HM.out.cs k hk
                have cr := HM.out.cr k hk
                have ls := HM.out.ls
                have lr := HM.out.lr
                have HV : Hid (Nv N w (wr.alloc (.cells #[.int .i64 5, .int .i64 h, .int .i64 x] 32)) gs gr wr.heap.size (.cells #[.int .i64 5, .int .i64 h, .int .i64 x] 32 (0, 0)) D) := HM.out.nv _
                have hA : D.A' k = D.A k := by rw [HE.out.eA]
                have hN' : D.n' k = D.n k := by rw [HE.out.en]
                have HA : Hid (D.A' k = D.A k) := hA
                have HN : Hid (D.n' k = D.n k) := hN'
                clear hA hN' HM
                go_wp2_with fail
                refine (new8 x _).mono ?_
                rintro e w2 ⟨p2, F2, rfl, hS2, hb2⟩
                have hV1 := HV.out.next hb2
                have cs1 : w2.cell? ⟨gs, k, none⟩ = some (.pointer (some ⟨D.p k, 0, none⟩)) := hV1.cs k hk
                have fs1 : w2.frozen? ⟨gs, k, none⟩ = false := hV1.fs k
                have cx1 : w2.cell? ⟨wr.heap.size, 2, none⟩ = some (.int .i64 x) := hV1.x2
                have hne1 : wr.heap.size ≠ gs := by omega
                have hne2 : gs ≠ wr.heap.size := by omega
                have HV2 : Hid (Nv N w (w2.setCell ⟨gs, k, none⟩ (.pointer (some ⟨p2, 0, none⟩))) gs gr wr.heap.size (.cells #[.int .i64 5, .int .i64 h, .int .i64 x] 32 (0, 0)) ({ D with p := updF D.p k p2, n := updF D.n k (lim x), A := updF D.A k [] } : SD)) := v_new HV.out k hk hS2 hb2
                clear hV1 hS2 hb2 HV cs cr ls lr
                go_wp2_with fail
                refine (new9 x _).mono ?_
                rintro e w3 ⟨p3, F3, rfl, hS3, hb3⟩
                have hV3 := HV2.out.next hb3
                have cr3 : w3.cell? ⟨gr, k, none⟩ = some (.pointer (some ⟨D.q k, 0, none⟩)) := hV3.cr k hk
                have fr3 : w3.frozen? ⟨gr, k, none⟩ = false := hV3.fr k
                have cs3 : w3.cell? ⟨gs, k, none⟩ = some (.pointer (some ⟨p2, 0, none⟩)) := by
                  have := hV3.cs k hk
                  rw [show (({ D with p := updF D.p k p2, n := updF D.n k (lim x), A := updF D.A k [] } : SD)).p k = p2 from updF_same _ _ _] at this
                  exact this
                have hgg : gs ≠ gr := by
                  have hl := (Array.getElem?_eq_some_iff.1 hV3.s).1
                  intro e
                  have h1 := hV3.s
                  rw [e, hV3.r] at h1
                  injection h1 with h1
                  injection h1 with _ h2 _
                  exact absurd h2 (by decide)
                have hgg' : gr ≠ gs := fun e => hgg e.symm
                have HV4 : Hid (No N w (w3.setCell ⟨gr, k, none⟩ (.pointer (some ⟨p3, 0, none⟩))) gs gr ({ D with p := updF D.p k p2, n := updF D.n k (lim x), A := updF D.A k [], q := updF D.q k p3, n' := updF D.n' k (lim x), A' := updF D.A' k [] } : SD)) := (v_rnew HV2.out k hk hS3 hb3).no
                clear hV3 hS3 hb3 HV2 cs1 fs1 cx1 hne1 hne2
                go_wp2
                go_roundw
                case rel => exact ⟨i + 1, ({ D with p := updF D.p k p2, n := updF D.n k (lim x), A := updF D.A k [], q := updF D.q k p3, n' := updF D.n' k (lim x), A' := updF D.A' k [] } : SD), by omega, by go_num, rfl, rfl, HV4, HE.out.new hin k _ _ _⟩
                case measure => simp [intOf]; omega
              · have cs := HM.out.cs k hk
                have cr := HM.out.cr k hk
                have ls := HM.out.ls
                have lr := HM.out.lr
                have HV : Hid (Nv N w (wr.alloc (.cells #[.int .i64 d, .int .i64 h, .int .i64 x] 32)) gs gr wr.heap.size (.cells #[.int .i64 d, .int .i64 h, .int .i64 x] 32 (0, 0)) D) := HM.out.nv _
                have hA : D.A' k = D.A k := by rw [HE.out.eA]
                have hN' : D.n' k = D.n k := by rw [HE.out.en]
                have HA : Hid (D.A' k = D.A k) := hA
                have HN : Hid (D.n' k = D.n k) := hN'
                clear hA hN' HM
                obtain ⟨F1, hs1, -⟩ := HV.out.set k hk
                have hl1 := hs1.len
                have hl : (D.A k).length ≤ 1048576 := by omega
                have hp1 := list18 N (D.p k) F1 (D.n k) (D.A k) (wr.alloc (.cells #[.int .i64 d, .int .i64 h, .int .i64 x] 32)) hs1 hl
                clear hs1 hl1
                go_wp2_with fail
                refine hp1.mono ?_
                rintro e w2 ⟨va, rfl, ho2, hb2⟩
                have HA2 : Hid (Na N w w2 gs gr wr.heap.size (.cells #[.int .i64 d, .int .i64 h, .int .i64 x] 32 (0, 0)) D va (D.A k)) := HV.out.listed ho2 hb2
                obtain ⟨ada, cpa, rfl, -⟩ := row_form_any ho2
                have cr2 := HA2.out.cr k hk
                obtain ⟨F2, hs2⟩ := HA2.out.ref k hk
                rw [HA.out] at hs2
                have hp2 := list19 N (D.q k) F2 (D.n' k) (D.A k) w2 hs2
                clear ho2 hb2 hs2 hp1 HV cs cr ls lr
                go_wp2_with fail
                refine hp2.mono ?_
                rintro e w3 ⟨vb, rfl, ho3, hb3⟩
                have HB3 : Hid (Nb N w w3 gs gr wr.heap.size (.cells #[.int .i64 d, .int .i64 h, .int .i64 x] 32 (0, 0)) D (.slice ada (D.A k).length cpa) vb (D.A k) (D.A k)) := HA2.out.listed ho3 hb3
                obtain ⟨adb, cpb, rfl, -⟩ := row_form_any ho3
                have cs3 := HB3.out.cs k hk
                have cr3 := HB3.out.cr k hk
                have q1 : ∀ q : Nat, Calls Try.prog 20 #[.slice ada (D.A k).length cpa, .slice adb (D.A k).length cpb] (w3.drewN q) fun e w' => e = .returned (.bool true) ∧ ∃ m, w' = (w3.drewN q).drewN m := fun q => by
                  have := same20 (D.A k) (D.A k) _ _ (w3.drewN q) ((ints_own rfl HB3.out.fst).drewN q) ((ints_own rfl HB3.out.snd).drewN q) (by omega) (by omega)
                  rw [show decide (D.A k = D.A k) = true by simp] at this
                  exact this
                have q2 : ∀ q : Nat, Calls Try.prog 14 #[.pointer (some ⟨D.p k, 0, none⟩)] (w3.drewN q) fun e w' => e = .returned (.int .i64 ((D.A k).length : Int)) ∧ w' = w3.drewN q := fun q => (HB3.out.drewN q).len k (D.p k) hk rfl (D.A k) rfl
                have q3 : ∀ q : Nat, Calls Try.prog 15 #[.pointer (some ⟨D.q k, 0, none⟩)] (w3.drewN q) fun e w' => e = .returned (.int .i64 ((D.A k).length : Int)) ∧ w' = w3.drewN q := fun q => (HB3.out.drewN q).rlen k (D.q k) hk rfl (D.A k) HA.out
                clear ho3 hb3 hp2 HA2 cr2
                go_wp2_with fail
                go_quiet (first | (go_at_call 20; exact Calls.quiet_of (q1 _)) | (go_at_call 14; exact Calls.quiet_of_same (q2 _)) | (go_at_call 15; exact Calls.quiet_of_same (q3 _)) | fail)
                have HB4 : Hid (Nb N w (w3.drewN nq) gs gr wr.heap.size (.cells #[.int .i64 d, .int .i64 h, .int .i64 x] 32 (0, 0)) D (.slice ada (D.A k).length cpa) (.slice adb (D.A k).length cpb) (D.A k) (D.A k)) := HB3.out.drewN nq
                have HL4 : Hid (D.L.length ≤ i) := HE.out.le
                have HL5 : Hid (D.L'.length ≤ i) := by
                  show _ ≤ _
                  rw [← HE.out.eL]
                  exact HE.out.le
                clear q1 q2 q3 HB3 cs3 cr3
                go_wp2_with (at_builtin; refine wpList_append_one rfl (.tmp 99) (.tmp 101) 30 rfl N 35 (.slice none 0 0) 24 Try.underlying30 info35 rfl D.ov (.slice ada (D.A k).length cpa) D.L.length 1 ((List.range D.L.length).map D.ow) rfl HB4.out.row _ rfl rfl rfl (by have := HL4.out; unfold maxLen; omega) (by have := HL4.out; omega) (by exact HB4.out.sz) ?_)
                intro v5 w5 ho5 hm5
                have HC5 : Hid (Nc N w w5 gs gr wr.heap.size (.cells #[.int .i64 d, .int .i64 h, .int .i64 x] 32 (0, 0)) ({ D with ov := v5, L := D.L ++ [D.A k], ow := updF D.ow D.L.length (.slice ada (D.A k).length cpa) } : SD) (.slice adb (D.A k).length cpb) (D.A k)) := HB4.out.out hl ho5.out hm5.out
                clear ho5 hm5 HB4
                go_wp2_with (at_builtin; refine wpList_append_one rfl (.tmp 103) (.tmp 105) 30 rfl N 35 (.slice none 0 0) 24 Try.underlying30 info35 rfl D.wv (.slice adb (D.A k).length cpb) D.L'.length 1 ((List.range D.L'.length).map D.ww) rfl HC5.out.row _ rfl rfl rfl (by have := HL5.out; unfold maxLen; omega) (by have := HL5.out; omega) (by exact HC5.out.sz) ?_)
                intro v6 w6 ho6 hm6
                have HV6 : Hid (No N w w6 gs gr ({ D with ov := v5, L := D.L ++ [D.A k], ow := updF D.ow D.L.length (.slice ada (D.A k).length cpa), wv := v6, L' := D.L' ++ [D.A k], ww := updF D.ww D.L'.length (.slice adb (D.A k).length cpb) } : SD)) := (HC5.out.were ho6.out hm6.out).no
                clear ho6 hm6 HC5
                go_wp2
                go_roundw
                case rel => exact ⟨i + 1, ({ D with ov := v5, L := D.L ++ [D.A k], ow := updF D.ow D.L.length (.slice ada (D.A k).length cpa), wv := v6, L' := D.L' ++ [D.A k], ww := updF D.ww D.L'.length (.slice adb (D.A k).length cpb) } : SD), by omega, by go_num, rfl, rfl, HV6, HE.out.list _ _ _ _ _⟩
                case measure => simp [intOf]; omega
    · by_cases hin2 : i < n + 2
      · clear HB1
        obtain ⟨k, hk, ha⟩ := and_one' ((i : Int) - (n : Int))
        have cs := HM.out.cs k hk
        have cr := HM.out.cr k hk
        have ls := HM.out.ls
        have lr := HM.out.lr
        have HV : Hid (Nv N w (wr.alloc (.cells #[.int .i64 3, .int .i64 ((i : Int) - (n : Int)), .int .i64 0] 32)) gs gr wr.heap.size (.cells #[.int .i64 3, .int .i64 ((i : Int) - (n : Int)), .int .i64 0] 32 (0, 0)) D) := HM.out.nv _
        have hA : D.A' k = D.A k := by rw [HE.out.eA]
        have hN' : D.n' k = D.n k := by rw [HE.out.en]
        have HA : Hid (D.A' k = D.A k) := hA
        have HN : Hid (D.n' k = D.n k) := hN'
        clear hA hN' HM
        obtain ⟨F1, hs1, -⟩ := HV.out.set k hk
        have hl1 := hs1.len
        have hl : (D.A k).length ≤ 1048576 := by omega
        have hp1 := list18 N (D.p k) F1 (D.n k) (D.A k) (wr.alloc (.cells #[.int .i64 3, .int .i64 ((i : Int) - (n : Int)), .int .i64 0] 32)) hs1 hl
        clear hs1 hl1
        go_wp2_with fail
        refine hp1.mono ?_
        rintro e w2 ⟨va, rfl, ho2, hb2⟩
        have HA2 : Hid (Na N w w2 gs gr wr.heap.size (.cells #[.int .i64 3, .int .i64 ((i : Int) - (n : Int)), .int .i64 0] 32 (0, 0)) D va (D.A k)) := HV.out.listed ho2 hb2
        obtain ⟨ada, cpa, rfl, -⟩ := row_form_any ho2
        have cr2 := HA2.out.cr k hk
        obtain ⟨F2, hs2⟩ := HA2.out.ref k hk
        rw [HA.out] at hs2
        have hp2 := list19 N (D.q k) F2 (D.n' k) (D.A k) w2 hs2
        clear ho2 hb2 hs2 hp1 HV cs cr ls lr
        go_wp2_with fail
        refine hp2.mono ?_
        rintro e w3 ⟨vb, rfl, ho3, hb3⟩
        have HB3 : Hid (Nb N w w3 gs gr wr.heap.size (.cells #[.int .i64 3, .int .i64 ((i : Int) - (n : Int)), .int .i64 0] 32 (0, 0)) D (.slice ada (D.A k).length cpa) vb (D.A k) (D.A k)) := HA2.out.listed ho3 hb3
        obtain ⟨adb, cpb, rfl, -⟩ := row_form_any ho3
        have cs3 := HB3.out.cs k hk
        have cr3 := HB3.out.cr k hk
        have q1 : ∀ q : Nat, Calls Try.prog 20 #[.slice ada (D.A k).length cpa, .slice adb (D.A k).length cpb] (w3.drewN q) fun e w' => e = .returned (.bool true) ∧ ∃ m, w' = (w3.drewN q).drewN m := fun q => by
          have := same20 (D.A k) (D.A k) _ _ (w3.drewN q) ((ints_own rfl HB3.out.fst).drewN q) ((ints_own rfl HB3.out.snd).drewN q) (by omega) (by omega)
          rw [show decide (D.A k = D.A k) = true by simp] at this
          exact this
        have q2 : ∀ q : Nat, Calls Try.prog 14 #[.pointer (some ⟨D.p k, 0, none⟩)] (w3.drewN q) fun e w' => e = .returned (.int .i64 ((D.A k).length : Int)) ∧ w' = w3.drewN q := fun q => (HB3.out.drewN q).len k (D.p k) hk rfl (D.A k) rfl
        have q3 : ∀ q : Nat, Calls Try.prog 15 #[.pointer (some ⟨D.q k, 0, none⟩)] (w3.drewN q) fun e w' => e = .returned (.int .i64 ((D.A k).length : Int)) ∧ w' = w3.drewN q := fun q => (HB3.out.drewN q).rlen k (D.q k) hk rfl (D.A k) HA.out
        clear ho3 hb3 hp2 HA2 cr2
        go_wp2_with fail
        go_quiet (first | (go_at_call 20; exact Calls.quiet_of (q1 _)) | (go_at_call 14; exact Calls.quiet_of_same (q2 _)) | (go_at_call 15; exact Calls.quiet_of_same (q3 _)) | fail)
        have HB4 : Hid (Nb N w (w3.drewN nq) gs gr wr.heap.size (.cells #[.int .i64 3, .int .i64 ((i : Int) - (n : Int)), .int .i64 0] 32 (0, 0)) D (.slice ada (D.A k).length cpa) (.slice adb (D.A k).length cpb) (D.A k) (D.A k)) := HB3.out.drewN nq
        have HL4 : Hid (D.L.length ≤ i) := HE.out.le
        have HL5 : Hid (D.L'.length ≤ i) := by
          show _ ≤ _
          rw [← HE.out.eL]
          exact HE.out.le
        clear q1 q2 q3 HB3 cs3 cr3
        go_wp2_with (at_builtin; refine wpList_append_one rfl (.tmp 99) (.tmp 101) 30 rfl N 35 (.slice none 0 0) 24 Try.underlying30 info35 rfl D.ov (.slice ada (D.A k).length cpa) D.L.length 1 ((List.range D.L.length).map D.ow) rfl HB4.out.row _ rfl rfl rfl (by have := HL4.out; unfold maxLen; omega) (by have := HL4.out; omega) (by exact HB4.out.sz) ?_)
        intro v5 w5 ho5 hm5
        have HC5 : Hid (Nc N w w5 gs gr wr.heap.size (.cells #[.int .i64 3, .int .i64 ((i : Int) - (n : Int)), .int .i64 0] 32 (0, 0)) ({ D with ov := v5, L := D.L ++ [D.A k], ow := updF D.ow D.L.length (.slice ada (D.A k).length cpa) } : SD) (.slice adb (D.A k).length cpb) (D.A k)) := HB4.out.out hl ho5.out hm5.out
        clear ho5 hm5 HB4
        go_wp2_with (at_builtin; refine wpList_append_one rfl (.tmp 103) (.tmp 105) 30 rfl N 35 (.slice none 0 0) 24 Try.underlying30 info35 rfl D.wv (.slice adb (D.A k).length cpb) D.L'.length 1 ((List.range D.L'.length).map D.ww) rfl HC5.out.row _ rfl rfl rfl (by have := HL5.out; unfold maxLen; omega) (by have := HL5.out; omega) (by exact HC5.out.sz) ?_)
        intro v6 w6 ho6 hm6
        have HV6 : Hid (No N w w6 gs gr ({ D with ov := v5, L := D.L ++ [D.A k], ow := updF D.ow D.L.length (.slice ada (D.A k).length cpa), wv := v6, L' := D.L' ++ [D.A k], ww := updF D.ww D.L'.length (.slice adb (D.A k).length cpb) } : SD)) := (HC5.out.were ho6.out hm6.out).no
        clear ho6 hm6 HC5
        go_wp2
        go_roundw
        case rel => exact ⟨i + 1, ({ D with ov := v5, L := D.L ++ [D.A k], ow := updF D.ow D.L.length (.slice ada (D.A k).length cpa), wv := v6, L' := D.L' ++ [D.A k], ww := updF D.ww D.L'.length (.slice adb (D.A k).length cpb) } : SD), by omega, by go_num, rfl, rfl, HV6, HE.out.list _ _ _ _ _⟩
        case measure => simp [intOf]; omega
      · obtain rfl : i = n + 2 := by omega
        clear hT hi hin
        have HL : Hid (D.L.length ≤ n + 2) := HE.out.le
        have hL := HE.out.any (by omega)
        obtain ⟨r1, r2, r3, r4, r5⟩ := HM.out.rows
        rw [← HE.out.eL] at r2 r4
        obtain ⟨g, cp, hov⟩ := Joins.ownsRow_form r1 hL
        obtain ⟨g2, cp2, hwv⟩ := Joins.ownsRow_form r2 hL
        have hc1 : ∀ j, j < D.L.length → wr.cell? ⟨g, j, none⟩ = some (D.ow j) := fun j hj => by
          rw [hov] at r1
          rw [r1.cellAt j (by simpa using hj)]
          simp [hj]
        have hc2 : ∀ j, j < D.L.length → wr.cell? ⟨g2, j, none⟩ = some (D.ww j) := fun j hj => by
          rw [hwv] at r2
          rw [r2.cellAt j (by simpa using hj)]
          simp [hj]
        have h20 : ∀ j, j < D.L.length → ∀ q q' : Nat, Calls Try.prog 20 #[D.ow j, D.ww j] ((wr.drewN q).drewN q') fun e w' => e = .returned (.bool true) ∧ ∃ m, w' = ((wr.drewN q).drewN q').drewN m := fun j hj q q' => by
          have h1 := r5 j hj
          have := same20 (D.L.getD j []) (D.L.getD j []) _ _ ((wr.drewN q).drewN q') (((ints_own rfl (r3 j hj)).drewN q).drewN q') (((ints_own rfl (r4 j hj)).drewN q).drewN q') (by omega) (by omega)
          rw [show decide (D.L.getD j [] = D.L.getD j []) = true by simp] at this
          exact this
        have hown : D.ov.ownBlock = some g := by rw [hov]; rfl
        have HO : Hid (∀ q : Nat, Calls Try.prog 21 #[.slice (some ⟨g, 0, none⟩) D.L.length cp] (wr.drewN q) fun e w' => e = .returned (.bool true) ∧ Below N (wr.drewN q) w') := fun q =>
          owned21 N g D.L.length cp D.ow (fun j => (D.L.getD j []).length) (wr.drewN q) (by have := HL.out; omega) ((HM.out.drewN q).rws hown) (fun j hj => ⟨_, r3 j hj⟩) (fun j hj => hc1 j hj) (fun j hj => by have := r5 j hj; show (D.L.getD j []).length ≤ _; omega)
        have HC1 : Hid (∀ j, j < D.L.length → wr.cell? ⟨g, j, none⟩ = some (D.ow j)) := hc1
        have HC2 : Hid (∀ j, j < D.L.length → wr.cell? ⟨g2, j, none⟩ = some (D.ww j)) := hc2
        have H20 : Hid (∀ j, j < D.L.length → ∀ q q' : Nat, Calls Try.prog 20 #[D.ow j, D.ww j] ((wr.drewN q).drewN q') fun e w' => e = .returned (.bool true) ∧ ∃ m, w' = ((wr.drewN q).drewN q').drewN m) := h20
        have HMB : Hid (∀ q w', Below N (wr.drewN q) w' → Below w0.heap.size w0 w') := fun q w' hb => HB0.out.trans (((HM.out.drewN q).below.trans hb).mono hs0)
        rw [hov, hwv]
        have hm : D.L.length ≤ 1048578 := by have := HL.out; omega
        generalize D.L.length = m at HC1 HC2 H20 HO hL hm ⊢
        clear r1 r2 r3 r4 r5 hc1 hc2 h20 hov hwv hown HE HM HB1 HL HB0
        go_wp2
        go_loopw [21] (fun jx wr' => ∃ (j : Nat), j ≤ m ∧ jx = .int .i64 j ∧ Hid (∃ q, wr' = wr.drewN q)) (fun jx _ => m - (intOf jx).toNat)
        case atStart => exact ⟨0, by omega, rfl, 0, rfl⟩
        case round =>
          obtain ⟨j, hj, rfl, HW⟩ := hrel
          by_cases hjm : j < m
          · obtain ⟨q, hq⟩ := HW.out
            have c1 : wr.cell? ⟨g, j, none⟩ = some (D.ow j) := by rw [hq]; exact HC1.out j hjm
            have c2 : wr.cell? ⟨g2, j, none⟩ = some (D.ww j) := by rw [hq]; exact HC2.out j hjm
            have h1 : ∀ q', Calls Try.prog 20 #[D.ow j, D.ww j] (wr.drewN q') fun e w' => e = .returned (.bool true) ∧ ∃ m, w' = (wr.drewN q').drewN m := by rw [hq]; exact H20.out j hjm q
            generalize D.ow j = va at c1 h1
            generalize D.ww j = vb at c2 h1
            clear hq
            go_wp2_with fail
            go_quiet (first | (go_at_call 20; exact Calls.quiet_of (h1 _)) | fail)
            go_wp2
            go_roundw
            case rel => exact ⟨j + 1, by omega, by go_num, by obtain ⟨q, hq⟩ := HW.out; exact ⟨_, by rw [hq, World.drewN_drewN]⟩⟩
            case measure => simp [intOf]; omega
          · obtain rfl : j = m := by omega
            obtain ⟨q, rfl⟩ := HW.out
            have h2 := HO.out q
            clear HW
            go_wp2_with (go_at_call 21; refine h2.mono ?_; rintro e w7 ⟨rfl, hb7⟩)
            go_ret
            exact ⟨rfl, HMB.out q _ hb7⟩
end Go.Proofs.Ytlidhjcciglinaa
