/- HELPERS: the contract of ownInts. -/
import Derived.Test.YtjglehklfdhgaaaDoorOwnJ
import Derived.Test.YtjglehklfdhgaaaDoorOwnB
namespace Go.Proofs.YtjglehklfdhgaaaDoor
open Go.RowKit Go.Mx
set_option linter.unusedVariables false
set_option linter.unusedSimpArgs false
def mk64 (j : Nat) : Value := .int .i64 (-1 - (j : Int))
theorem info29 : (Tryd.prog.info? 29).map (fun i => (i.zero, i.size, i.bytes)) = some (some (.slice none 0 0), 1, 24) := by kernel_rfl
set_option maxHeartbeats 8000000 in
set_option maxRecDepth 1000000 in
theorem own18 (base g n : Nat) (v : Nat → Value) (len : Nat → Nat) (w0 : World) (hn : n ≤ 100) (R : Hid (Rws 3 29 base g n v len mk64 w0)) (hO : Hid (∀ j, j < n → ∃ X, w0.ownsRow base 3 1 (v j) (len j) X)) (hc : Hid (∀ j, j < n → w0.cell? ⟨g, j, none⟩ = some (v j)))
    (hl : Hid (∀ j, j < n → len j ≤ 100000000)) :
    Calls Tryd.prog 18 #[.slice (some ⟨g, 0, none⟩) n n] w0 fun e w' => e = .returned (.bool true) ∧ Below base w0 w' := by
  obtain ⟨i0, hi0, hz0, hz1, hz2⟩ := info_parts info3
  obtain ⟨i1, hj0, hy0, hy1, hy2⟩ := info_parts info29
  go_enter Tryd.func18, Tryd.ntmps18
  go_wp2
  go_loopw [3] (fun i wr => ∃ (k : Nat), k ≤ n ∧ i = .int .i64 k ∧ Hid (∃ X, I1 3 base g n v len w0 X wr ∧ ∀ j, j < k → X j = List.replicate (len j) (mk64 j))) (fun i _ => n - (intOf i).toNat)
  case atStart =>
    refine ⟨0, by omega, rfl, ?_⟩
    obtain ⟨X, hX⟩ := Deep.choose_lt (α := List Value) (n := n) (p := fun j X => w0.ownsRow base 3 1 (v j) (len j) X) hO.out
    exact ⟨X, ⟨hX, hc.out, rfl, Below.refl _ _⟩, fun j hj => absurd hj (by omega)⟩
  case round =>
    obtain ⟨k, hk, rfl, HI⟩ := hrel
    by_cases hlt : k < n
    · have hform : ∃ ad m cap, v k = .slice ad m cap ∧ m = len k ∧ (0 < m → ∃ b, ad = some ⟨b, 0, none⟩) := by
        obtain ⟨X, h1, _⟩ := HI.out
        obtain ⟨⟨ad, cap, he⟩, hb⟩ := form_head (h1.own k hlt)
        exact ⟨ad, _, cap, he, rfl, fun hp => hb ad cap he hp⟩
      obtain ⟨ad, m, cap, hv, hm, hb⟩ := hform
      have HV : Hid (v k = .slice ad m cap) := hv
      have HM : Hid (m = len k) := hm
      have HB : Hid (0 < m → ∃ b, ad = some ⟨b, 0, none⟩) := hb
      have hm8 : m ≤ 100000000 := by rw [hm]; exact hl.out k hlt
      clear hv hm hb
      go_wp2
      go_loopw [4] (fun i wr => ∃ (t : Nat), t ≤ m ∧ i = .int .i64 t ∧ Hid (∃ X, I1 3 base g n v len w0 X wr ∧ (∀ j, j < k → X j = List.replicate (len j) (mk64 j)) ∧ (X k).take t = List.replicate t (mk64 k))) (fun i _ => m - (intOf i).toNat)
      case atStart =>
        refine ⟨0, by omega, rfl, ?_⟩
        obtain ⟨X, h1, h2⟩ := HI.out
        exact ⟨X, h1, h2, rfl⟩
      case round =>
        clear HI
        obtain ⟨t, ht, rfl, HT⟩ := hrel
        have c0 : wr.cell? ⟨g, k, none⟩ = some (.slice ad m cap) := by
          obtain ⟨X, h1, _⟩ := HT.out
          rw [h1.cel k hlt, HV.out]
        by_cases hlt2 : t < m
        · obtain ⟨b, rfl⟩ := HB.out (by omega)
          have hcell : ∃ y, wr.cell? ⟨b, t, none⟩ = some y := by
            obtain ⟨X, h1, _⟩ := HT.out
            have ho := h1.own k hlt
            rw [HV.out, ← HM.out] at ho
            refine ⟨_, (ho.cellAt t (by omega)).trans (List.getElem?_eq_getElem (by have := ho.1; omega))⟩
          have hfr : wr.frozen? ⟨b, t, none⟩ = false := by
            obtain ⟨X, h1, _⟩ := HT.out
            have ho := h1.own k hlt
            rw [HV.out, ← HM.out] at ho
            exact ho.frozenAt t
          obtain ⟨y, hy⟩ := hcell
          have HN : Hid (∃ X, I1 3 base g n v len w0 X (wr.setCell ⟨b, t, none⟩ (mk64 k)) ∧ (∀ j, j < k → X j = List.replicate (len j) (mk64 j)) ∧ (X k).take (t + 1) = List.replicate (t + 1) (mk64 k)) := by
            obtain ⟨X, h1, h2, h3⟩ := HT.out
            refine ⟨upd X k ((X k).set t (mk64 k)), h1.step R.out hlt (by rw [HV.out, HM.out]) _, fun j hj => ?_, ?_⟩
            · unfold upd
              rw [if_neg (by omega)]
              exact h2 j hj
            · unfold upd
              rw [if_pos rfl]
              exact take_set_snoc _ _ m _ (by have := (h1.own k hlt).1; rw [this, HM.out]; omega) hlt2 h3
          clear HT
          go_wp2
          go_roundw
          case rel => exact ⟨t + 1, by omega, by go_num, HN⟩
          case measure => simp [intOf]; omega
        · have htm : t = m := by omega
          have HN : Hid (∃ X, I1 3 base g n v len w0 X wr ∧ ∀ j, j < k + 1 → X j = List.replicate (len j) (mk64 j)) := by
            obtain ⟨X, h1, h2, h3⟩ := HT.out
            refine ⟨X, h1, fun j hj => ?_⟩
            by_cases hjk : j = k
            · subst hjk
              rw [htm, List.take_of_length_le (by have := (h1.own j hlt).1; rw [this, HM.out]; omega)] at h3
              rw [h3, HM.out]
            · exact h2 j (by omega)
          clear HT
          go_wp2
          go_roundw
          case rel => exact ⟨k + 1, by omega, by go_num, HN⟩
          case measure => simp [intOf]; omega
    · have hkn : k = n := by omega
      have HS : Hid (J3 3 29 base g n v len mk64 w0 0 0 (.slice none 0 0) [] [] wr) := by
        obtain ⟨X, h1, h2⟩ := HI.out
        refine ⟨fun j _ hj => by rw [← h2 j (by omega)]; exact h1.own j hj, h1.cel, World.ownsRow_nil _ _ _ _, fun j hj => absurd hj (by omega), rfl, fun q hq => absurd hq (by omega), by rw [h1.siz]; exact Nat.le_refl _, h1.bel⟩
      clear HI hO hc hkn
      go_wp2
      go_loopw [5, 6] (fun lo i wr => ∃ (k : Nat) (M L : List Value) (lo' : Value), k ≤ n ∧ i = .int .i64 k ∧ lo' = lo ∧ Hid (J3 3 29 base g n v len mk64 w0 k k lo' M L wr)) (fun _ i _ => n - (intOf i).toNat)
      case atStart => exact ⟨0, [], [], _, by omega, rfl, rfl, HS⟩
      case round =>
        clear HS
        obtain ⟨k, M, L, lo, hk, rfl, rfl, HI⟩ := hrel
        by_cases hlt : k < n
        · have c0 := HI.out.cel k hlt
          have H4 : Hid (J4 3 29 base g n v len mk64 w0 k 0 lo M L (v k) wr) := J4.start HI.out hlt
          have HF := form_head (HI.out.own k (Nat.le_refl _) hlt)
          have HF1 : Hid (∃ ad cap, v k = .slice ad (len k) cap) := HF.1
          have HF2 : Hid (∀ ad cap, v k = .slice ad (len k) cap → 0 < len k → ∃ b, ad = some ⟨b, 0, none⟩) := HF.2
          have hm8 := hl.out k hlt
          clear HF HI
          obtain ⟨vk, hvk⟩ : ∃ vk, vk = v k := ⟨_, rfl⟩
          rw [← hvk] at c0 H4
          have HVK : Hid (vk = v k) := hvk
          clear hvk
          go_wp2
          go_loopw [7, 8] (fun x i wr => ∃ (t : Nat) (x' : Value), t ≤ 40 ∧ i = .int .i64 t ∧ x' = x ∧ Hid (J4 3 29 base g n v len mk64 w0 k t lo M L x' wr)) (fun _ i _ => 40 - (intOf i).toNat)
          case atStart => exact ⟨0, _, by omega, rfl, rfl, H4⟩
          case round =>
            clear H4 c0
            obtain ⟨t, x, ht, rfl, rfl, H4⟩ := hrel
            by_cases hlt2 : t < 40
            · go_wp2_with (at_builtin; refine wpList_append_move rfl (.tmp 48) (.tmp 51) 29 rfl base 3 i0 (.int .i64 0) 8 Tryd.underlying29 hi0 hz0 hz1 hz2 rfl x (len k + t) _ rfl (H4.out.own.alloc _) ⟨wr.heap.size, 0, none⟩ 1 1 [.int .i64 (-1 - (k : Int))] rfl rfl (by decide) (by exact news_one _ _ _ _ rfl) (one_cell_int _ _) (by unfold maxLen; omega) (by omega) (by have := H4.out.inv.siz; have := R.out.hgb; simp; omega) ?_; intro x' w' ho hmv)
              have HN : Hid (J4 3 29 base g n v len mk64 w0 k (t + 1) lo M L x' w') := H4.out.step R.out hlt HF1.out HF2.out ho.out hmv.out
              clear ho hmv H4
              go_wp2
              go_roundw
              case rel => exact ⟨t + 1, _, by omega, by go_num, rfl, HN⟩
              case measure => simp [intOf]; omega
            · have ht40 : t = 40 := by omega
              subst ht40
              have c0 := H4.out.inv.cel k hlt
              rw [← HVK.out] at c0
              obtain ⟨⟨adx, capx, hex⟩, -⟩ := form_head H4.out.own
              obtain ⟨lx, hlx⟩ : ∃ lx, lx = len k + 40 := ⟨_, rfl⟩
              rw [← hlx] at hex
              subst hex
              clear hlx
              have N1 : Hid (∀ (j : Nat) (u : Value), [Value.slice adx lx capx][j]? = some u → (wr.alloc (.cells #[.slice adx lx capx] 29)).cell? ((⟨wr.heap.size, 0, none⟩ : Addr).add j) = some u) := news_one _ _ _ _ rfl
              have N2 : Hid (∀ u ∈ [Value.slice adx lx capx], u.oneCell' = true) := by
                intro u hu
                simp only [List.mem_cons, List.not_mem_nil, or_false] at hu
                rw [hu]; rfl
              go_wp2_with (at_builtin; refine wpList_append_move rfl (.tmp 53) (.tmp 55) 35 rfl w0.heap.size 29 i1 (.slice none 0 0) 24 Tryd.underlying35 hj0 hy0 hy1 hy2 rfl lo k M rfl (H4.out.inv.lon.alloc _) ⟨wr.heap.size, 0, none⟩ 1 1 [.slice adx lx capx] rfl rfl (by decide) N1.out N2.out (by unfold maxLen; omega) (by omega) (by have := H4.out.inv.siz; simp; omega) ?_; intro lo2 w' ho hmv)
              have HN : Hid (∃ M' L', J3 3 29 base g n v len mk64 w0 (k + 1) (k + 1) lo2 M' L' w') := ⟨_, _, H4.out.put R.out hlt ho.out hmv.out⟩
              obtain ⟨M2, L2, hN⟩ := HN.out
              have HN2 : Hid (J3 3 29 base g n v len mk64 w0 (k + 1) (k + 1) lo2 M2 L2 w') := hN
              clear ho hmv H4 HN hN N1 N2
              go_wp2
              go_roundw
              case rel => exact ⟨k + 1, M2, L2, _, by omega, by go_num, rfl, HN2⟩
              case measure => simp [intOf]; omega
        · have hkn2 : k = n := by omega
          rw [hkn2] at HI
          clear hkn2
          have hLf : ∃ adL capL, lo = .slice adL n capL ∧ (0 < n → ∃ b, adL = some ⟨b, 0, none⟩) := by
            obtain ⟨⟨ad, cap, he⟩, hb⟩ := form_head HI.out.lon
            exact ⟨ad, cap, he, fun hp => hb ad cap he hp⟩
          obtain ⟨adL, capL, rfl, hLb⟩ := hLf
          have HLB : Hid (0 < n → ∃ b, adL = some ⟨b, 0, none⟩) := hLb
          clear hLb
          go_wp2
          go_loopw [9] (fun i wr' => ∃ (q : Nat), q ≤ n ∧ i = .int .i64 q ∧ wr' = wr) (fun i _ => n - (intOf i).toNat)
          case atStart => exact ⟨0, by omega, rfl, rfl⟩
          case round =>
            obtain ⟨q, hq, rfl, rfl⟩ := hrel
            by_cases hlq : q < n
            · obtain ⟨gL, rfl⟩ := HLB.out (by omega)
              have c0 : wr.cell? ⟨gL, q, none⟩ = some (M.getD q undef) := by
                have hll := HI.out.lon.1
                rw [HI.out.lon.cellAt q (by omega)]
                simp [show q < M.length by omega]
              have c1 := HI.out.cel q hlq
              obtain ⟨ad, cap, hv, hmk⟩ := (HI.out.mar (2 * q) (by omega)).1
              obtain ⟨ad2, cap2, hv2, hmk2⟩ := (HI.out.mar (2 * q + 1) (by omega)).1
              rw [(HI.out.lm q hlq).2] at hv2
              rw [← (HI.out.lm q hlq).1] at hv
              have ec : cnt len (2 * q) = len q + 40 := by unfold cnt; rw [show 2 * q / 2 = q by omega, show 2 * q % 2 = 0 by omega]; rfl
              have ec2 : cnt len (2 * q + 1) = len q := by unfold cnt; rw [show (2 * q + 1) / 2 = q by omega, show (2 * q + 1) % 2 = 1 by omega]; rfl
              rw [ec, show 2 * q / 2 = q by omega] at hmk
              rw [ec] at hv
              rw [ec2, show (2 * q + 1) / 2 = q by omega] at hmk2
              rw [ec2] at hv2
              have hm8 := hl.out q hlq
              rw [hv] at c0
              rw [hv2] at c1
              generalize len q = m at c0 c1 hmk hmk2 hm8
              have HMK : Hid (∃ b, ad = some ⟨b, 0, none⟩ ∧ ∀ k, k < m + 40 → wr.cell? ⟨b, k, none⟩ = some (mk64 q)) := hmk.resolve_left (by omega)
              have HMK2 : Hid (m = 0 ∨ ∃ b, ad2 = some ⟨b, 0, none⟩ ∧ ∀ k, k < m → wr.cell? ⟨b, k, none⟩ = some (mk64 q)) := hmk2
              clear hv hmk hv2 hmk2 ec ec2
              go_wp2
              go_loopw [10] (fun i wr' => ∃ (t : Nat), t ≤ m + 40 ∧ i = .int .i64 t ∧ wr' = wr) (fun i _ => m + 40 - (intOf i).toNat)
              case atStart => exact ⟨0, by omega, rfl, rfl⟩
              case round =>
                obtain ⟨t, ht, rfl, rfl⟩ := hrel
                by_cases hlt3 : t < m + 40
                · obtain ⟨b, rfl, hcb⟩ := HMK.out
                  have d0 : wr.cell? ⟨b, t, none⟩ = some (.int .i64 (-1 - (q : Int))) := hcb t hlt3
                  clear hcb
                  by_cases htm : t < m
                  · obtain ⟨b2, rfl, hcb2⟩ := HMK2.out.resolve_left (by omega)
                    have d1 : wr.cell? ⟨b2, t, none⟩ = some (.int .i64 (-1 - (q : Int))) := hcb2 t htm
                    clear hcb2
                    have htm1 : (t : Int) < (m : Int) := by omega
                    go_wp2
                    go_roundw
                    case rel => exact ⟨t + 1, by omega, by go_num, trivial⟩
                    case measure => simp [intOf]; omega
                  · have htm1 : ¬ (t : Int) < (m : Int) := by omega
                    go_wp2
                    go_roundw
                    case rel => exact ⟨t + 1, by omega, by go_num, trivial⟩
                    case measure => simp [intOf]; omega
                · have htm : t = m + 40 := by omega
                  go_wp2
                  go_roundw
                  case rel => exact ⟨q + 1, by omega, by go_num, trivial⟩
                  case measure => simp [intOf]; omega
            · have hqn : q = n := by omega
              have HBX : Hid (Below base w0 wr) := HI.out.bel
              clear HI
              go_wp2
              go_ret
              exact ⟨rfl, HBX.out⟩
end Go.Proofs.YtjglehklfdhgaaaDoor
