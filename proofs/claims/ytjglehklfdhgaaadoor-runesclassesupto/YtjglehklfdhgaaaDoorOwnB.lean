/- HELPERS: the contract of ownBytes. -/
import Derived.Test.YtjglehklfdhgaaaDoorOwnI
namespace Go.Proofs.YtjglehklfdhgaaaDoor
open Go.RowKit Go.Mx
set_option linter.unusedVariables false
set_option linter.unusedSimpArgs false
def mk8 (j : Nat) : Value := .int .u8 (1 + (j : Int))
theorem info25 : (Tryd.prog.info? 25).map (fun i => (i.zero, i.size, i.bytes)) = some (some (.slice none 0 0), 1, 24) := by kernel_rfl
theorem take_set_snoc (X : List Value) (t m : Nat) (c : Value) (hX : X.length = m) (ht : t < m) (h : X.take t = List.replicate t c) : (X.set t c).take (t + 1) = List.replicate (t + 1) c := by
  rw [List.take_set, List.take_succ_eq_append_getElem (by omega), h, List.replicate_succ']
  simp
set_option maxHeartbeats 8000000 in
set_option maxRecDepth 1000000 in
theorem own23 (base g n : Nat) (v : Nat → Value) (len : Nat → Nat) (w0 : World) (hn : n ≤ 100) (R : Hid (Rws 5 25 base g n v len mk8 w0)) (hO : Hid (∀ j, j < n → ∃ X, w0.ownsRow base 5 1 (v j) (len j) X)) (hc : Hid (∀ j, j < n → w0.cell? ⟨g, j, none⟩ = some (v j)))
    (hl : Hid (∀ j, j < n → len j ≤ 100000000)) :
    Calls Tryd.prog 23 #[.slice (some ⟨g, 0, none⟩) n n] w0 fun e w' => e = .returned (.bool true) ∧ Below base w0 w' := by
  obtain ⟨i0, hi0, hz0, hz1, hz2⟩ := info_parts info5
  obtain ⟨i1, hj0, hy0, hy1, hy2⟩ := info_parts info25
  go_enter Tryd.func23, Tryd.ntmps23
  go_wp2
  go_loopw [3] (fun i wr => ∃ (k : Nat), k ≤ n ∧ i = .int .i64 k ∧ Hid (∃ X, I1 5 base g n v len w0 X wr ∧ ∀ j, j < k → X j = List.replicate (len j) (mk8 j))) (fun i _ => n - (intOf i).toNat)
  case atStart =>
    refine ⟨0, by omega, rfl, ?_⟩
    obtain ⟨X, hX⟩ := Deep.choose_lt (α := List Value) (n := n) (p := fun j X => w0.ownsRow base 5 1 (v j) (len j) X) hO.out
    exact ⟨X, ⟨hX, hc.out, rfl, Below.refl _ _⟩, fun j hj => absurd hj (by omega)⟩
  case round =>
    obtain ⟨k, hk, rfl, HI⟩ := hrel
    by_cases hlt : k < n
    · have hform : ∃ ad m cap, v k = .slice ad m cap ∧ m = len k ∧ (0 < m → ∃ b, ad = some ⟨b, 0, none⟩) := by
        obtain ⟨X, h1, _⟩ := HI.out
        obtain ⟨⟨ad, cap, he⟩, hb⟩ := form_head (h1.own k hlt)
        exact ⟨ad, _, cap, he, rfl, fun hp => hb ad cap he hp⟩
      obtain ⟨ad, m, cap, hv, hm, hb⟩ := hform
      have HV : Hid (v k = .slice ad m cap) := hv
      have HM : Hid (m = len k) := hm
      have HB : Hid (0 < m → ∃ b, ad = some ⟨b, 0, none⟩) := hb
      have hm8 : m ≤ 100000000 := by rw [hm]; exact hl.out k hlt
      clear hv hm hb
      go_wp2
      go_loopw [4] (fun i wr => ∃ (t : Nat), t ≤ m ∧ i = .int .i64 t ∧ Hid (∃ X, I1 5 base g n v len w0 X wr ∧ (∀ j, j < k → X j = List.replicate (len j) (mk8 j)) ∧ (X k).take t = List.replicate t (mk8 k))) (fun i _ => m - (intOf i).toNat)
      case atStart =>
        refine ⟨0, by omega, rfl, ?_⟩
        obtain ⟨X, h1, h2⟩ := HI.out
        exact ⟨X, h1, h2, rfl⟩
      case round =>
        clear HI
        obtain ⟨t, ht, rfl, HT⟩ := hrel
        have c0 : wr.cell? ⟨g, k, none⟩ = some (.slice ad m cap) := by
          obtain ⟨X, h1, _⟩ := HT.out
          rw [h1.cel k hlt, HV.out]
        by_cases hlt2 : t < m
        · obtain ⟨b, rfl⟩ := HB.out (by omega)
          have hcell : ∃ y, wr.cell? ⟨b, t, none⟩ = some y := by
            obtain ⟨X, h1, _⟩ := HT.out
            have ho := h1.own k hlt
            rw [HV.out, ← HM.out] at ho
            refine ⟨_, (ho.cellAt t (by omega)).trans (List.getElem?_eq_getElem (by have := ho.1; omega))⟩
          have hfr : wr.frozen? ⟨b, t, none⟩ = false := by
            obtain ⟨X, h1, _⟩ := HT.out
            have ho := h1.own k hlt
            rw [HV.out, ← HM.out] at ho
            exact ho.frozenAt t
          obtain ⟨y, hy⟩ := hcell
          have HN : Hid (∃ X, I1 5 base g n v len w0 X (wr.setCell ⟨b, t, none⟩ (mk8 k)) ∧ (∀ j, j < k → X j = List.replicate (len j) (mk8 j)) ∧ (X k).take (t + 1) = List.replicate (t + 1) (mk8 k)) := by
            obtain ⟨X, h1, h2, h3⟩ := HT.out
            refine ⟨upd X k ((X k).set t (mk8 k)), h1.step R.out hlt (by rw [HV.out, HM.out]) _, fun j hj => ?_, ?_⟩
            · unfold upd
              rw [if_neg (by omega)]
              exact h2 j hj
            · unfold upd
              rw [if_pos rfl]
              exact take_set_snoc _ _ m _ (by have := (h1.own k hlt).1; rw [this, HM.out]; omega) hlt2 h3
          have hw8 : IntKind.u8.wrap (1 + (k : Int)) = 1 + (k : Int) := u8_in _ (by omega) (by omega)
          clear HT
          go_wp2
          go_roundw
          case rel => exact ⟨t + 1, by omega, by go_num, HN⟩
          case measure => simp [intOf]; omega
        · have htm : t = m := by omega
          have HN : Hid (∃ X, I1 5 base g n v len w0 X wr ∧ ∀ j, j < k + 1 → X j = List.replicate (len j) (mk8 j)) := by
            obtain ⟨X, h1, h2, h3⟩ := HT.out
            refine ⟨X, h1, fun j hj => ?_⟩
            by_cases hjk : j = k
            · subst hjk
              rw [htm, List.take_of_length_le (by have := (h1.own j hlt).1; rw [this, HM.out]; omega)] at h3
              rw [h3, HM.out]
            · exact h2 j (by omega)
          clear HT
          go_wp2
          go_roundw
          case rel => exact ⟨k + 1, by omega, by go_num, HN⟩
          case measure => simp [intOf]; omega
    · have hkn : k = n := by omega
      have HS : Hid (I3 5 25 base g n v len mk8 w0 0 0 (.slice none 0 0) [] wr) := by
        obtain ⟨X, h1, h2⟩ := HI.out
        refine ⟨fun j _ hj => by rw [← h2 j (by omega)]; exact h1.own j hj, h1.cel, World.ownsRow_nil _ _ _ _, fun q hq => absurd hq (by omega), by rw [h1.siz]; exact Nat.le_refl _, h1.bel⟩
      clear HI hO hc hkn
      go_wp2
      go_loopw [5, 6] (fun lo i wr => ∃ (k : Nat) (L : List Value) (lo' : Value), k ≤ n ∧ i = .int .i64 k ∧ lo' = lo ∧ Hid (I3 5 25 base g n v len mk8 w0 k k lo' L wr)) (fun _ i _ => n - (intOf i).toNat)
      case atStart => exact ⟨0, [], _, by omega, rfl, rfl, HS⟩
      case round =>
        clear HS
        obtain ⟨k, L, lo, hk, rfl, rfl, HI⟩ := hrel
        by_cases hlt : k < n
        · have c0 := HI.out.cel k hlt
          have H4 : Hid (I4 5 25 base g n v len mk8 w0 k 0 lo L (v k) wr) := I4.start HI.out hlt
          have HF := form_head (HI.out.own k (Nat.le_refl _) hlt)
          have HF1 : Hid (∃ ad cap, v k = .slice ad (len k) cap) := HF.1
          have HF2 : Hid (∀ ad cap, v k = .slice ad (len k) cap → 0 < len k → ∃ b, ad = some ⟨b, 0, none⟩) := HF.2
          have hm8 := hl.out k hlt
          have hw8 : IntKind.u8.wrap (1 + (k : Int)) = 1 + (k : Int) := u8_in _ (by omega) (by omega)
          clear HF HI
          obtain ⟨vk, hvk⟩ : ∃ vk, vk = v k := ⟨_, rfl⟩
          rw [← hvk] at c0 H4
          have HVK : Hid (vk = v k) := hvk
          clear hvk
          go_wp2
          go_loopw [7, 8] (fun x i wr => ∃ (t : Nat) (x' : Value), t ≤ 40 ∧ i = .int .i64 t ∧ x' = x ∧ Hid (I4 5 25 base g n v len mk8 w0 k t lo L x' wr)) (fun _ i _ => 40 - (intOf i).toNat)
          case atStart => exact ⟨0, _, by omega, rfl, rfl, H4⟩
          case round =>
            clear H4 c0
            obtain ⟨t, x, ht, rfl, rfl, H4⟩ := hrel
            by_cases hlt2 : t < 40
            · go_wp2_with (at_builtin; refine wpList_append_move rfl (.tmp 49) (.tmp 53) 25 rfl base 5 i0 (.int .u8 0) 1 Tryd.underlying25 hi0 hz0 hz1 hz2 rfl x (len k + t) _ rfl (H4.out.own.alloc _) ⟨wr.heap.size, 0, none⟩ 1 1 [.int .u8 (1 + (k : Int))] rfl rfl (by decide) (by exact news_one _ _ _ _ rfl) (one_cell_int _ _) (by unfold maxLen; omega) (by omega) (by have := H4.out.inv.siz; have := R.out.hgb; simp; omega) ?_; intro x' w' ho hmv)
              have HN : Hid (I4 5 25 base g n v len mk8 w0 k (t + 1) lo L x' w') := H4.out.step R.out hlt HF1.out HF2.out ho.out hmv.out
              clear ho hmv H4
              go_wp2
              go_roundw
              case rel => exact ⟨t + 1, _, by omega, by go_num, rfl, HN⟩
              case measure => simp [intOf]; omega
            · have ht40 : t = 40 := by omega
              subst ht40
              have c0 := H4.out.inv.cel k hlt
              rw [← HVK.out] at c0
              obtain ⟨⟨adx, capx, hex⟩, -⟩ := form_head H4.out.own
              obtain ⟨lx, hlx⟩ : ∃ lx, lx = len k + 40 := ⟨_, rfl⟩
              rw [← hlx] at hex
              obtain ⟨adv, capv, hev0⟩ := HF1.out
              obtain ⟨lv, hlv⟩ : ∃ lv, lv = len k := ⟨_, rfl⟩
              rw [← hlv] at hev0
              have hev : vk = .slice adv lv capv := by rw [HVK.out]; exact hev0
              subst hex hev
              clear hlx hlv hev0
              have n1 : ∀ (j : Nat) (u : Value), [Value.slice adx lx capx, .slice adv lv capv][j]? = some u → (wr.alloc (.cells #[.slice adx lx capx, .slice adv lv capv] 25)).cell? ((⟨wr.heap.size, 0, none⟩ : Addr).add j) = some u := cell_two_new wr _ _ 25
              have n2 : ∀ u ∈ [Value.slice adx lx capx, .slice adv lv capv], u.oneCell' = true := by
                intro u hu
                simp only [List.mem_cons, List.not_mem_nil, or_false] at hu
                rcases hu with rfl | rfl <;> rfl
              have N1 : Hid (∀ (j : Nat) (u : Value), [Value.slice adx lx capx, .slice adv lv capv][j]? = some u → (wr.alloc (.cells #[.slice adx lx capx, .slice adv lv capv] 25)).cell? ((⟨wr.heap.size, 0, none⟩ : Addr).add j) = some u) := n1
              have N2 : Hid (∀ u ∈ [Value.slice adx lx capx, .slice adv lv capv], u.oneCell' = true) := n2
              clear n1 n2
              go_wp2_with (at_builtin; refine wpList_append_move rfl (.tmp 55) (.tmp 61) 40 rfl w0.heap.size 25 i1 (.slice none 0 0) 24 Tryd.underlying40 hj0 hy0 hy1 hy2 rfl lo (2 * k) L rfl (H4.out.inv.lon.alloc _) ⟨wr.heap.size, 0, none⟩ 2 2 [.slice adx lx capx, .slice adv lv capv] rfl rfl (by decide) N1.out N2.out (by unfold maxLen; omega) (by omega) (by have := H4.out.inv.siz; simp; omega) ?_; intro lo2 w' ho hmv)
              have HN : Hid (∃ L', I3 5 25 base g n v len mk8 w0 (k + 1) (k + 1) lo2 L' w') := by
                have ho' := ho.out
                rw [HVK.out] at ho'
                exact ⟨_, H4.out.put R.out hlt ho' hmv.out⟩
              obtain ⟨L2, hN⟩ := HN.out
              have HN2 : Hid (I3 5 25 base g n v len mk8 w0 (k + 1) (k + 1) lo2 L2 w') := hN
              clear ho hmv H4 HN hN N1 N2
              go_wp2
              go_roundw
              case rel => exact ⟨k + 1, L2, _, by omega, by go_num, rfl, HN2⟩
              case measure => simp [intOf]; omega
        · have hkn2 : k = n := by omega
          rw [hkn2] at HI
          clear hkn2
          have hLf : ∃ adL capL, lo = .slice adL (2 * n) capL ∧ (0 < 2 * n → ∃ b, adL = some ⟨b, 0, none⟩) := by
            obtain ⟨⟨ad, cap, he⟩, hb⟩ := form_head HI.out.lon
            exact ⟨ad, cap, he, fun hp => hb ad cap he hp⟩
          obtain ⟨adL, capL, rfl, hLb⟩ := hLf
          have HLB : Hid (0 < 2 * n → ∃ b, adL = some ⟨b, 0, none⟩) := hLb
          clear hLb
          go_wp2
          go_loopw [9] (fun i wr' => ∃ (q : Nat), q ≤ 2 * n ∧ i = .int .i64 q ∧ wr' = wr) (fun i _ => 2 * n - (intOf i).toNat)
          case atStart => exact ⟨0, by omega, rfl, rfl⟩
          case round =>
            obtain ⟨q, hq, rfl, rfl⟩ := hrel
            by_cases hlq : q < 2 * n
            · obtain ⟨gL, rfl⟩ := HLB.out (by omega)
              have c0 : wr.cell? ⟨gL, q, none⟩ = some (L.getD q undef) := by
                have hll := HI.out.lon.1
                rw [HI.out.lon.cellAt q (by omega)]
                simp [show q < L.length by omega]
              obtain ⟨ad, cap, hv, hmk⟩ := (HI.out.mar q hlq).1
              have hm8 : cnt len q ≤ 100000040 := by
                have := hl.out (q / 2) (by omega)
                unfold cnt
                split <;> omega
              rw [hv] at c0
              generalize cnt len q = m at c0 hmk hm8
              have HMK : Hid (m = 0 ∨ ∃ b, ad = some ⟨b, 0, none⟩ ∧ ∀ k, k < m → wr.cell? ⟨b, k, none⟩ = some (mk8 (q / 2))) := hmk
              clear hv hmk
              go_wp2
              go_loopw [10] (fun i wr' => ∃ (t : Nat), t ≤ m ∧ i = .int .i64 t ∧ wr' = wr) (fun i _ => m - (intOf i).toNat)
              case atStart => exact ⟨0, by omega, rfl, rfl⟩
              case round =>
                obtain ⟨t, ht, rfl, rfl⟩ := hrel
                by_cases hlt3 : t < m
                · obtain ⟨b, rfl, hcb⟩ := HMK.out.resolve_left (by omega)
                  have d0 : wr.cell? ⟨b, t, none⟩ = some (.int .u8 (1 + ((q / 2 : Nat) : Int))) := hcb t hlt3
                  have hw8 : IntKind.u8.wrap (1 + (q : Int) / 2) = 1 + ((q / 2 : Nat) : Int) := by rw [u8_in _ (by omega) (by omega)]; omega
                  clear hcb
                  go_wp2
                  go_roundw
                  case rel => exact ⟨t + 1, by omega, by go_num, trivial⟩
                  case measure => simp [intOf]; omega
                · have htm : t = m := by omega
                  go_wp2
                  go_roundw
                  case rel => exact ⟨q + 1, by omega, by go_num, trivial⟩
                  case measure => simp [intOf]; omega
            · have hqn : q = 2 * n := by omega
              have HBX : Hid (Below base w0 wr) := HI.out.bel
              clear HI
              go_wp2
              go_ret
              exact ⟨rfl, HBX.out⟩
end Go.Proofs.YtjglehklfdhgaaaDoor
