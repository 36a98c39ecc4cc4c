/- HELPERS: the walk of SparseStacks. Made by tools/genstacks.py. -/
import Derived.Test.YtlidhjcciglinaaSz
namespace Go.Proofs.Ytlidhjcciglinaa
open Go.RowKit
set_option linter.unusedVariables false
set_option linter.unusedSimpArgs false
theorem Mi.drewN {N : Nat} {w wr : World} {G : Gs} {own : Nat → Nat} {L : Nat → List Int} {M : Nat → Nat} (h : Mi N w wr G own L M) (q : Nat) : Mi N w (wr.drewN q) G own L M := (h.next (w1 := wr.drewN q) (Joins.below_draws _ _ _)).1
set_option maxHeartbeats 40000000 in
set_option maxRecDepth 1000000 in
theorem stacks4 (S : List (Int × Int × Int)) (ad : Option Addr) (n c : Nat) (w0 : World) (hT : Hid (ScriptAt w0.heap.size w0 ad n S)) (hn : n ≤ 5864062014634) :
    Calls Try.prog 4 #[.slice ad n c] w0 fun e w' => e = .returned (.bool true) ∧ Below w0.heap.size w0 w' := by
  go_enter Try.func4, Try.ntmps4
  go_wp2_with fail
  refine (awake7 w0).mono ?_
  rintro e w ⟨rfl, hb0⟩
  have hs0 := hb0.size
  have HB0 : Hid (Below w0.heap.size w0 w) := hb0
  obtain ⟨own0, hI⟩ := Mi.init w
  have HI : Hid (Mi w.heap.size w ((((w.alloc (.cells #[.slice none 0 0, .int .i64 0, .slice none 0 0, .int .i64 0] 42)).alloc (.cells #[.slice none 0 0, .int .i64 0, .slice none 0 0, .int .i64 0] 45)).alloc (.cells #[.slice none 0 0, .int .i64 0] 48)).alloc (.cells #[.slice none 0 0, .int .i64 0] 50))
    ⟨w.heap.size, w.heap.size + 1, w.heap.size + 1 + 1, w.heap.size + 1 + 1 + 1⟩ own0 (LL [] []) (MM 0 0)) := hI
  clear hb0 hI
  go_wp2
  generalize hN : w.heap.size = N at HI hs0 ⊢
  have HN : Hid (w.heap.size = N) := hN
  clear hN
  generalize N + 1 + 1 + 1 = gl at HI ⊢
  generalize N + 1 + 1 = gt at HI ⊢
  generalize N + 1 = gr at HI ⊢
  go_loopw [8] (fun ix wr => ∃ (i : Nat) (A B : List Int) (m k : Nat) (own : Nat → Nat), i ≤ n ∧ A.length ≤ i ∧ B.length ≤ i ∧ m ≤ i ∧ k ≤ i ∧ ix = .int .i64 i ∧ Hid (Mi N w wr ⟨N, gr, gt, gl⟩ own (LL A B) (MM m k)))
    (fun ix _ => n - (intOf ix).toNat)
  case atStart => exact ⟨0, [], [], 0, 0, own0, by omega, by simp, by simp, by omega, by omega, rfl, HI⟩
  case round =>
    obtain ⟨i, A, B, m, k, own, hi, hA, hB, hm, hk, rfl, HM⟩ := hrel
    clear HI
    have HB1 : Hid (Below w0.heap.size w0 wr) := HB0.out.trans (HM.out.below.mono hs0)
    by_cases hin : i < n
    · obtain ⟨b, off, d, h, x, rfl, hbN, q0, q1, q2⟩ := hT.out.at HB1.out i hin
      clear HB1
      rcases and_one h with ha | ha
      · by_cases hd0 : d = 0
        · subst hd0
          obtain ⟨own1, hM1, ho1, hk1⟩ := HM.out.alloc (.cells #[.int .i64 0, .int .i64 h, .int .i64 x] 32) 21 (by omega)
          have HM1 : Hid (Mi N w (wr.alloc (.cells #[.int .i64 0, .int .i64 h, .int .i64 x] 32)) ⟨N, gr, gt, gl⟩ own1 (LL A B) (MM m k)) := hM1
          have HX1 : Hid (20 ≤ own1 wr.heap.size) := by show 20 ≤ _; omega
          have HC1 : Hid ((wr.alloc (.cells #[.int .i64 0, .int .i64 h, .int .i64 x] 32)).cell? ⟨wr.heap.size, 2, none⟩ = some (.int .i64 x)) := by
            show _ = _
            rw [World.cell?_alloc_at _ _ _ _ rfl]; rfl
          clear hM1 ho1 hk1 HM
          have hp := m_pushI HM1.out.drew 0 N 0 (by decide) rfl rfl A m rfl rfl x (by omega)
          go_wp2_with fail
          go_region_with (go_at_call 22; refine hp.mono ?_; rintro e w2 ⟨rfl, own2, hM2, hK2⟩)
          have HM2 : Hid (Mi N w w2 ⟨N, gr, gt, gl⟩ own2 (updF (LL A B) 0 (A ++ [x])) (updF (MM m k) 0 (max m (A.length + 1)))) := hM2
          have hx2 : 20 ≤ own2 wr.heap.size := by have := HX1.out; have := Kp.mark hK2 HX1.out (by simp); omega
          have c2 : w2.cell? ⟨wr.heap.size, 2, none⟩ = some (.int .i64 x) := Kp.cell hK2 HX1.out HC1.out
          have hp2 := m_pushR HM2.out.drew 2 gr 0 (by decide) rfl rfl A m rfl rfl x (by omega)
          clear hp hM2 hK2 HM1 HX1 HC1
          go_wp2_with fail
          go_region_with (go_at_call 23; refine hp2.mono ?_; rintro e w3 ⟨rfl, own3, hM3, hK3⟩)
          have HM3 : Hid (Mi N w w3 ⟨N, gr, gt, gl⟩ own3 (updF (updF (LL A B) 0 (A ++ [x])) 2 (A ++ [x])) (updF (updF (MM m k) 0 (max m (A.length + 1))) 2 (max m (A.length + 1)))) := hM3
          have hx3 : 20 ≤ own3 wr.heap.size := by have := Kp.mark hK3 hx2 (World.block_lt_of_cell? _ _ c2); omega
          have c3 : w3.cell? ⟨wr.heap.size, 2, none⟩ = some (.int .i64 x) := Kp.cell hK3 hx2 c2
          clear hp2 hM3 hK3 HM2 hx2 c2
          go_wp2_with fail
          refine (text25 x w3).mono ?_
          rintro e w4 ⟨rfl, hb4⟩
          obtain ⟨hM4, hK4⟩ := HM3.out.next hb4
          have HM4 : Hid (Mi N w w4 ⟨N, gr, gt, gl⟩ own3 (updF (updF (LL A B) 0 (A ++ [x])) 2 (A ++ [x])) (updF (updF (MM m k) 0 (max m (A.length + 1))) 2 (max m (A.length + 1)))) := hM4
          have c4 : w4.cell? ⟨wr.heap.size, 2, none⟩ = some (.int .i64 x) := hK4.cell hx3 c3
          clear hM4 hK4 hb4 HM3 c3
          go_wp2_with fail
          refine (m_pushT HM4.out gt rfl A m rfl rfl x (by omega)).mono ?_
          rintro e w5 ⟨rfl, own5, hM5, hK5⟩
          have HM5 : Hid (Mi N w w5 ⟨N, gr, gt, gl⟩ own5 (updF (updF (updF (LL A B) 0 (A ++ [x])) 2 (A ++ [x])) 4 (A ++ [x])) (updF (updF (updF (MM m k) 0 (max m (A.length + 1))) 2 (max m (A.length + 1))) 4 (max m (A.length + 1)))) := hM5
          have c5 : w5.cell? ⟨wr.heap.size, 2, none⟩ = some (.int .i64 x) := hK5.cell hx3 c4
          clear hM5 hK5 HM4 c4 hx3
          go_wp2_with fail
          obtain ⟨own6, hM6, ho6, hk6⟩ := HM5.out.alloc (.cells #[.int .i64 x, .int .i64 (i : Int)] 3) 20 (by omega)
          refine (m_pushL hM6 gl rfl A m rfl rfl x w5.heap.size ho6 (by rw [World.cell?_alloc_at _ _ _ _ rfl]; rfl) (by omega)).mono ?_
          rintro e w7 ⟨rfl, own7, hM7, hK7⟩
          have HM7 : Hid (Mi N w w7 ⟨N, gr, gt, gl⟩ own7 (updF (updF (updF (updF (LL A B) 0 (A ++ [x])) 2 (A ++ [x])) 4 (A ++ [x])) 5 (A ++ [x])) (updF (updF (updF (updF (MM m k) 0 (max m (A.length + 1))) 2 (max m (A.length + 1))) 4 (max m (A.length + 1))) 5 (max m (A.length + 1)))) := hM7
          clear hM7 hK7 hM6 ho6 hk6 HM5 c5
          have HME : Hid (Mi N w w7 ⟨N, gr, gt, gl⟩ own7 (LL (A ++ [x]) B) (MM (max m (A.length + 1)) k)) := HM7.out.congr (six _ rfl rfl rfl rfl rfl rfl) (six _ rfl rfl rfl rfl rfl rfl)
          clear HM7
          go_wp2
          go_roundw
          case rel => exact ⟨i + 1, (A ++ [x]), B, (max m (A.length + 1)), k, _, by omega, by simp; omega, by omega, by omega, by omega, by go_num, HME⟩
          case measure => simp [intOf]; omega
        · by_cases hd1 : d = 1
          · subst hd1
            rcases list_end A with rfl | ⟨A2, y, rfl⟩
            · obtain ⟨own1, hM1, ho1, hk1⟩ := HM.out.alloc (.cells #[.int .i64 1, .int .i64 h, .int .i64 x] 32) 21 (by omega)
              have HM1 : Hid (Mi N w (wr.alloc (.cells #[.int .i64 1, .int .i64 h, .int .i64 x] 32)) ⟨N, gr, gt, gl⟩ own1 (LL [] B) (MM m k)) := hM1
              have HX1 : Hid (20 ≤ own1 wr.heap.size) := by show 20 ≤ _; omega
              have HC1 : Hid ((wr.alloc (.cells #[.int .i64 1, .int .i64 h, .int .i64 x] 32)).cell? ⟨wr.heap.size, 2, none⟩ = some (.int .i64 x)) := by
                show _ = _
                rw [World.cell?_alloc_at _ _ _ _ rfl]; rfl
              clear hM1 ho1 hk1 HM
              have hp1 := m_popI_none HM1.out 0 N 0 (by decide) rfl rfl rfl
              have hp2 := m_popR_none HM1.out 2 gr 0 (by decide) rfl rfl rfl
              have hp3 := m_popT_none HM1.out gt rfl rfl
              have hp4 := m_popL_none HM1.out gl rfl rfl
              go_wp2_with (first
                | (go_at_call 27; refine hp1.mono ?_; rintro e w2 ⟨rfl, rfl⟩)
                | (go_at_call 28; refine hp2.mono ?_; rintro e w2 ⟨rfl, rfl⟩)
                | (go_at_call 29; refine hp3.mono ?_; rintro e w2 ⟨rfl, rfl⟩)
                | (go_at_call 30; refine hp4.mono ?_; rintro e w2 ⟨rfl, rfl⟩))
              go_roundw
              case rel => exact ⟨i + 1, [], B, m, k, _, by omega, by simp, by omega, by omega, by omega, by go_num, HM1⟩
              case measure => simp [intOf]; omega
            · simp at hA
              obtain ⟨own1, hM1, ho1, hk1⟩ := HM.out.alloc (.cells #[.int .i64 1, .int .i64 h, .int .i64 x] 32) 21 (by omega)
              have HM1 : Hid (Mi N w (wr.alloc (.cells #[.int .i64 1, .int .i64 h, .int .i64 x] 32)) ⟨N, gr, gt, gl⟩ own1 (LL (A2 ++ [y]) B) (MM m k)) := hM1
              have HX1 : Hid (20 ≤ own1 wr.heap.size) := by show 20 ≤ _; omega
              have HC1 : Hid ((wr.alloc (.cells #[.int .i64 1, .int .i64 h, .int .i64 x] 32)).cell? ⟨wr.heap.size, 2, none⟩ = some (.int .i64 x)) := by
                show _ = _
                rw [World.cell?_alloc_at _ _ _ _ rfl]; rfl
              clear hM1 ho1 hk1 HM
              go_wp2_with fail
              refine (m_popI HM1.out 0 N 0 (by decide) rfl rfl A2 m y rfl rfl).mono ?_
              rintro e w2 ⟨rfl, own2, hM2, hK2⟩
              have HM2 : Hid (Mi N w w2 ⟨N, gr, gt, gl⟩ own2 (updF (LL (A2 ++ [y]) B) 0 A2) (updF (MM m k) 0 m)) := hM2
              clear hM2 hK2 HM1 HX1 HC1
              go_wp2_with fail
              refine (m_popR HM2.out 2 gr 0 (by decide) rfl rfl A2 m y rfl rfl).mono ?_
              rintro e w3 ⟨rfl, own3, hM3, hK3⟩
              have HM3 : Hid (Mi N w w3 ⟨N, gr, gt, gl⟩ own3 (updF (updF (LL (A2 ++ [y]) B) 0 A2) 2 A2) (updF (updF (MM m k) 0 m) 2 m)) := hM3
              clear hM3 hK3 HM2
              go_wp2_with fail
              refine (m_popT HM3.out gt rfl A2 m y rfl rfl).mono ?_
              rintro e w4 ⟨rfl, own4, hM4, hK4⟩
              have HM4 : Hid (Mi N w w4 ⟨N, gr, gt, gl⟩ own4 (updF (updF (updF (LL (A2 ++ [y]) B) 0 A2) 2 A2) 4 A2) (updF (updF (updF (MM m k) 0 m) 2 m) 4 m)) := hM4
              clear hM4 hK4 HM3
              go_wp2_with fail
              refine (m_popL HM4.out gl rfl A2 m y rfl rfl).mono ?_
              rintro e w5 ⟨lb, rfl, c5, own5, hM5, ho5, hK5⟩
              have HM5 : Hid (Mi N w w5 ⟨N, gr, gt, gl⟩ own5 (updF (updF (updF (updF (LL (A2 ++ [y]) B) 0 A2) 2 A2) 4 A2) 5 A2) (updF (updF (updF (updF (MM m k) 0 m) 2 m) 4 m) 5 m)) := hM5
              clear hM5 hK5 HM4
              have ht := text25 y w5
              have HO5 : Hid (20 ≤ own5 lb) := by show 20 ≤ _; omega
              clear ho5
              go_wp2_with fail
              refine ht.mono ?_
              rintro e w6 ⟨rfl, hb6⟩
              obtain ⟨hM6, hK6⟩ := HM5.out.next hb6
              have c6 : w6.cell? ⟨lb, 0, none⟩ = some (.int .i64 y) := hK6.cell HO5.out c5
              have HM6 : Hid (Mi N w w6 ⟨N, gr, gt, gl⟩ own5 (updF (updF (updF (updF (LL (A2 ++ [y]) B) 0 A2) 2 A2) 4 A2) 5 A2) (updF (updF (updF (updF (MM m k) 0 m) 2 m) 4 m) 5 m)) := hM6
              clear hM6 hK6 hb6 HM5 c5 HO5 ht
              have HME : Hid (Mi N w w6 ⟨N, gr, gt, gl⟩ own5 (LL A2 B) (MM m k)) := HM6.out.congr (six _ rfl rfl rfl rfl rfl rfl) (six _ rfl rfl rfl rfl rfl rfl)
              clear HM6
              go_wp2
              go_roundw
              case rel => exact ⟨i + 1, A2, B, m, k, _, by omega, by omega, by omega, by omega, by omega, by go_num, HME⟩
              case measure => simp [intOf]; omega
          · by_cases hd2 : d = 2
            · subst hd2
              obtain ⟨own1, hM1, ho1, hk1⟩ := HM.out.alloc (.cells #[.int .i64 2, .int .i64 h, .int .i64 x] 32) 21 (by omega)
              have HM1 : Hid (Mi N w (wr.alloc (.cells #[.int .i64 2, .int .i64 h, .int .i64 x] 32)) ⟨N, gr, gt, gl⟩ own1 (LL A B) (MM m k)) := hM1
              have HX1 : Hid (20 ≤ own1 wr.heap.size) := by show 20 ≤ _; omega
              have HC1 : Hid ((wr.alloc (.cells #[.int .i64 2, .int .i64 h, .int .i64 x] 32)).cell? ⟨wr.heap.size, 2, none⟩ = some (.int .i64 x)) := by
                show _ = _
                rw [World.cell?_alloc_at _ _ _ _ rfl]; rfl
              clear hM1 ho1 hk1 HM
              have hp1 : ∀ q : Nat, Calls Try.prog 31 #[.pointer (some ⟨N, 0, none⟩)] ((wr.alloc (.cells #[.int .i64 2, .int .i64 h, .int .i64 x] 32)).drewN q) fun e w' => e = .returned (.int .i64 (A.length : Int)) ∧ w' = (wr.alloc (.cells #[.int .i64 2, .int .i64 h, .int .i64 x] 32)).drewN q := fun q => m_lenI (HM1.out.drewN q) 0 N 0 (by decide) rfl rfl A rfl
              have hp2 : ∀ q : Nat, Calls Try.prog 32 #[.pointer (some ⟨gr, 0, none⟩)] ((wr.alloc (.cells #[.int .i64 2, .int .i64 h, .int .i64 x] 32)).drewN q) fun e w' => e = .returned (.int .i64 (A.length : Int)) ∧ w' = (wr.alloc (.cells #[.int .i64 2, .int .i64 h, .int .i64 x] 32)).drewN q := fun q => m_lenR (HM1.out.drewN q) 2 gr 0 (by decide) rfl rfl A rfl
              go_wp2_with fail
              go_quiet (first | (go_at_call 31; exact Calls.quiet_of_same (hp1 _)) | (go_at_call 32; exact Calls.quiet_of_same (hp2 _)) | fail)
              have HME : Hid (Mi N w ((wr.alloc (.cells #[.int .i64 2, .int .i64 h, .int .i64 x] 32)).drewN nq) ⟨N, gr, gt, gl⟩ own1 (LL A B) (MM m k)) := HM1.out.drewN nq
              clear hp1 hp2 HM1 HX1 HC1
              go_wp2
              go_roundw
              case rel => exact ⟨i + 1, A, B, m, k, _, by omega, by omega, by omega, by omega, by omega, by go_num, HME⟩
              case measure => simp [intOf]; omega
            · by_cases hd3 : d = 4
              · subst hd3
                obtain ⟨own1, hM1, ho1, hk1⟩ := HM.out.alloc (.cells #[.int .i64 4, .int .i64 h, .int .i64 x] 32) 21 (by omega)
                have HM1 : Hid (Mi N w (wr.alloc (.cells #[.int .i64 4, .int .i64 h, .int .i64 x] 32)) ⟨N, gr, gt, gl⟩ own1 (LL A B) (MM m k)) := hM1
                have HX1 : Hid (20 ≤ own1 wr.heap.size) := by show 20 ≤ _; omega
                have HC1 : Hid ((wr.alloc (.cells #[.int .i64 4, .int .i64 h, .int .i64 x] 32)).cell? ⟨wr.heap.size, 2, none⟩ = some (.int .i64 x)) := by
                  show _ = _
                  rw [World.cell?_alloc_at _ _ _ _ rfl]; rfl
                clear hM1 ho1 hk1 HM
                go_wp2_with fail
                refine (m_clearI HM1.out 0 N 0 (by decide) rfl rfl).mono ?_
                rintro e w2 ⟨rfl, own2, hM2, hK2⟩
                have HM2 : Hid (Mi N w w2 ⟨N, gr, gt, gl⟩ own2 (updF (LL A B) 0 []) (updF (MM m k) 0 0)) := hM2
                clear hM2 hK2 HM1 HX1 HC1
                go_wp2_with fail
                refine (m_clearR HM2.out 2 gr 0 (by decide) rfl rfl).mono ?_
                rintro e w3 ⟨rfl, own3, hM3, hK3⟩
                have HM3 : Hid (Mi N w w3 ⟨N, gr, gt, gl⟩ own3 (updF (updF (LL A B) 0 []) 2 []) (updF (updF (MM m k) 0 0) 2 0)) := hM3
                clear hM3 hK3 HM2
                go_wp2_with fail
                refine (m_clearT HM3.out gt rfl).mono ?_
                rintro e w4 ⟨rfl, own4, hM4, hK4⟩
                have HM4 : Hid (Mi N w w4 ⟨N, gr, gt, gl⟩ own4 (updF (updF (updF (LL A B) 0 []) 2 []) 4 []) (updF (updF (updF (MM m k) 0 0) 2 0) 4 0)) := hM4
                clear hM4 hK4 HM3
                go_wp2_with fail
                refine (m_clearL HM4.out gl rfl).mono ?_
                rintro e w5 ⟨rfl, own5, hM5, hK5⟩
                have HM5 : Hid (Mi N w w5 ⟨N, gr, gt, gl⟩ own5 (updF (updF (updF (updF (LL A B) 0 []) 2 []) 4 []) 5 []) (updF (updF (updF (updF (MM m k) 0 0) 2 0) 4 0) 5 0)) := hM5
                clear hM5 hK5 HM4
                have HME : Hid (Mi N w w5 ⟨N, gr, gt, gl⟩ own5 (LL [] B) (MM 0 k)) := HM5.out.congr (six _ rfl rfl rfl rfl rfl rfl) (six _ rfl rfl rfl rfl rfl rfl)
                clear HM5
                go_wp2
                go_roundw
                case rel => exact ⟨i + 1, [], B, 0, k, _, by omega, by simp, by omega, by omega, by omega, by go_num, HME⟩
                case measure => simp [intOf]; omega
              · obtain ⟨own1, hM1, ho1, hk1⟩ := HM.out.alloc (.cells #[.int .i64 d, .int .i64 h, .int .i64 x] 32) 21 (by omega)
                have HM1 : Hid (Mi N w (wr.alloc (.cells #[.int .i64 d, .int .i64 h, .int .i64 x] 32)) ⟨N, gr, gt, gl⟩ own1 (LL A B) (MM m k)) := hM1
                have HX1 : Hid (20 ≤ own1 wr.heap.size) := by show 20 ≤ _; omega
                have HC1 : Hid ((wr.alloc (.cells #[.int .i64 d, .int .i64 h, .int .i64 x] 32)).cell? ⟨wr.heap.size, 2, none⟩ = some (.int .i64 x)) := by
                  show _ = _
                  rw [World.cell?_alloc_at _ _ _ _ rfl]; rfl
                clear hM1 ho1 hk1 HM
                have hp1 : ∀ q : Nat, Calls Try.prog 37 #[.pointer (some ⟨N, 0, none⟩)] ((wr.alloc (.cells #[.int .i64 d, .int .i64 h, .int .i64 x] 32)).drewN q) fun e w' => e = .returned (.int .i64 (m : Int)) ∧ w' = (wr.alloc (.cells #[.int .i64 d, .int .i64 h, .int .i64 x] 32)).drewN q := fun q => m_mostI (HM1.out.drewN q) 0 N 0 (by decide) rfl rfl m rfl
                have hp2 : ∀ q : Nat, Calls Try.prog 38 #[.pointer (some ⟨gr, 0, none⟩)] ((wr.alloc (.cells #[.int .i64 d, .int .i64 h, .int .i64 x] 32)).drewN q) fun e w' => e = .returned (.int .i64 (m : Int)) ∧ w' = (wr.alloc (.cells #[.int .i64 d, .int .i64 h, .int .i64 x] 32)).drewN q := fun q => m_mostR (HM1.out.drewN q) 2 gr 0 (by decide) rfl rfl m rfl
                have hp3 : ∀ q : Nat, Calls Try.prog 39 #[.pointer (some ⟨gt, 0, none⟩)] ((wr.alloc (.cells #[.int .i64 d, .int .i64 h, .int .i64 x] 32)).drewN q) fun e w' => e = .returned (.int .i64 (m : Int)) ∧ w' = (wr.alloc (.cells #[.int .i64 d, .int .i64 h, .int .i64 x] 32)).drewN q := fun q => m_mostT (HM1.out.drewN q) gt rfl m rfl
                have hp4 : ∀ q : Nat, Calls Try.prog 40 #[.pointer (some ⟨gl, 0, none⟩)] ((wr.alloc (.cells #[.int .i64 d, .int .i64 h, .int .i64 x] 32)).drewN q) fun e w' => e = .returned (.int .i64 (A.length : Int)) ∧ w' = (wr.alloc (.cells #[.int .i64 d, .int .i64 h, .int .i64 x] 32)).drewN q := fun q => m_lenL (HM1.out.drewN q) gl rfl A rfl
                have hp5 : ∀ q : Nat, Calls Try.prog 32 #[.pointer (some ⟨gr, 0, none⟩)] ((wr.alloc (.cells #[.int .i64 d, .int .i64 h, .int .i64 x] 32)).drewN q) fun e w' => e = .returned (.int .i64 (A.length : Int)) ∧ w' = (wr.alloc (.cells #[.int .i64 d, .int .i64 h, .int .i64 x] 32)).drewN q := fun q => m_lenR (HM1.out.drewN q) 2 gr 0 (by decide) rfl rfl A rfl
                go_wp2_with fail
                go_quiet (first | (go_at_call 37; exact Calls.quiet_of_same (hp1 _)) | (go_at_call 38; exact Calls.quiet_of_same (hp2 _)) | (go_at_call 39; exact Calls.quiet_of_same (hp3 _)) | (go_at_call 40; exact Calls.quiet_of_same (hp4 _)) | (go_at_call 32; exact Calls.quiet_of_same (hp5 _)) | fail)
                have HME : Hid (Mi N w ((wr.alloc (.cells #[.int .i64 d, .int .i64 h, .int .i64 x] 32)).drewN nq) ⟨N, gr, gt, gl⟩ own1 (LL A B) (MM m k)) := HM1.out.drewN nq
                clear hp1 hp2 hp3 hp4 hp5 HM1 HX1 HC1
                go_wp2
                go_roundw
                case rel => exact ⟨i + 1, A, B, m, k, _, by omega, by omega, by omega, by omega, by omega, by go_num, HME⟩
                case measure => simp [intOf]; omega
      · by_cases hd0 : d = 0
        · subst hd0
          obtain ⟨own1, hM1, ho1, hk1⟩ := HM.out.alloc (.cells #[.int .i64 0, .int .i64 h, .int .i64 x] 32) 21 (by omega)
          have HM1 : Hid (Mi N w (wr.alloc (.cells #[.int .i64 0, .int .i64 h, .int .i64 x] 32)) ⟨N, gr, gt, gl⟩ own1 (LL A B) (MM m k)) := hM1
          have HX1 : Hid (20 ≤ own1 wr.heap.size) := by show 20 ≤ _; omega
          have HC1 : Hid ((wr.alloc (.cells #[.int .i64 0, .int .i64 h, .int .i64 x] 32)).cell? ⟨wr.heap.size, 2, none⟩ = some (.int .i64 x)) := by
            show _ = _
            rw [World.cell?_alloc_at _ _ _ _ rfl]; rfl
          clear hM1 ho1 hk1 HM
          have hp := m_pushI HM1.out.drew 1 N 2 (by decide) rfl rfl B k rfl rfl x (by omega)
          go_wp2_with fail
          go_region_with (go_at_call 22; refine hp.mono ?_; rintro e w2 ⟨rfl, own2, hM2, hK2⟩)
          have HM2 : Hid (Mi N w w2 ⟨N, gr, gt, gl⟩ own2 (updF (LL A B) 1 (B ++ [x])) (updF (MM m k) 1 (max k (B.length + 1)))) := hM2
          have hx2 : 20 ≤ own2 wr.heap.size := by have := HX1.out; have := Kp.mark hK2 HX1.out (by simp); omega
          have c2 : w2.cell? ⟨wr.heap.size, 2, none⟩ = some (.int .i64 x) := Kp.cell hK2 HX1.out HC1.out
          have hp2 := m_pushR HM2.out.drew 3 gr 2 (by decide) rfl rfl B k rfl rfl x (by omega)
          clear hp hM2 hK2 HM1 HX1 HC1
          go_wp2_with fail
          go_region_with (go_at_call 23; refine hp2.mono ?_; rintro e w3 ⟨rfl, own3, hM3, hK3⟩)
          have HM3 : Hid (Mi N w w3 ⟨N, gr, gt, gl⟩ own3 (updF (updF (LL A B) 1 (B ++ [x])) 3 (B ++ [x])) (updF (updF (MM m k) 1 (max k (B.length + 1))) 3 (max k (B.length + 1)))) := hM3
          have hx3 : 20 ≤ own3 wr.heap.size := by have := Kp.mark hK3 hx2 (World.block_lt_of_cell? _ _ c2); omega
          have c3 : w3.cell? ⟨wr.heap.size, 2, none⟩ = some (.int .i64 x) := Kp.cell hK3 hx2 c2
          clear hp2 hM3 hK3 HM2 hx2 c2
          have HME : Hid (Mi N w w3 ⟨N, gr, gt, gl⟩ own3 (LL A (B ++ [x])) (MM m (max k (B.length + 1)))) := HM3.out.congr (six _ rfl rfl rfl rfl rfl rfl) (six _ rfl rfl rfl rfl rfl rfl)
          clear HM3
          go_wp2
          go_roundw
          case rel => exact ⟨i + 1, A, (B ++ [x]), m, (max k (B.length + 1)), _, by omega, by omega, by simp; omega, by omega, by omega, by go_num, HME⟩
          case measure => simp [intOf]; omega
        · by_cases hd1 : d = 1
          · subst hd1
            rcases list_end B with rfl | ⟨A2, y, rfl⟩
            · obtain ⟨own1, hM1, ho1, hk1⟩ := HM.out.alloc (.cells #[.int .i64 1, .int .i64 h, .int .i64 x] 32) 21 (by omega)
              have HM1 : Hid (Mi N w (wr.alloc (.cells #[.int .i64 1, .int .i64 h, .int .i64 x] 32)) ⟨N, gr, gt, gl⟩ own1 (LL A []) (MM m k)) := hM1
              have HX1 : Hid (20 ≤ own1 wr.heap.size) := by show 20 ≤ _; omega
              have HC1 : Hid ((wr.alloc (.cells #[.int .i64 1, .int .i64 h, .int .i64 x] 32)).cell? ⟨wr.heap.size, 2, none⟩ = some (.int .i64 x)) := by
                show _ = _
                rw [World.cell?_alloc_at _ _ _ _ rfl]; rfl
              clear hM1 ho1 hk1 HM
              have hp1 := m_popI_none HM1.out 1 N 2 (by decide) rfl rfl rfl
              have hp2 := m_popR_none HM1.out 3 gr 2 (by decide) rfl rfl rfl
              go_wp2_with (first
                | (go_at_call 27; refine hp1.mono ?_; rintro e w2 ⟨rfl, rfl⟩)
                | (go_at_call 28; refine hp2.mono ?_; rintro e w2 ⟨rfl, rfl⟩))
              go_roundw
              case rel => exact ⟨i + 1, A, [], m, k, _, by omega, by omega, by simp, by omega, by omega, by go_num, HM1⟩
              case measure => simp [intOf]; omega
            · simp at hB
              obtain ⟨own1, hM1, ho1, hk1⟩ := HM.out.alloc (.cells #[.int .i64 1, .int .i64 h, .int .i64 x] 32) 21 (by omega)
              have HM1 : Hid (Mi N w (wr.alloc (.cells #[.int .i64 1, .int .i64 h, .int .i64 x] 32)) ⟨N, gr, gt, gl⟩ own1 (LL A (A2 ++ [y])) (MM m k)) := hM1
              have HX1 : Hid (20 ≤ own1 wr.heap.size) := by show 20 ≤ _; omega
              have HC1 : Hid ((wr.alloc (.cells #[.int .i64 1, .int .i64 h, .int .i64 x] 32)).cell? ⟨wr.heap.size, 2, none⟩ = some (.int .i64 x)) := by
                show _ = _
                rw [World.cell?_alloc_at _ _ _ _ rfl]; rfl
              clear hM1 ho1 hk1 HM
              go_wp2_with fail
              refine (m_popI HM1.out 1 N 2 (by decide) rfl rfl A2 k y rfl rfl).mono ?_
              rintro e w2 ⟨rfl, own2, hM2, hK2⟩
              have HM2 : Hid (Mi N w w2 ⟨N, gr, gt, gl⟩ own2 (updF (LL A (A2 ++ [y])) 1 A2) (updF (MM m k) 1 k)) := hM2
              clear hM2 hK2 HM1 HX1 HC1
              go_wp2_with fail
              refine (m_popR HM2.out 3 gr 2 (by decide) rfl rfl A2 k y rfl rfl).mono ?_
              rintro e w3 ⟨rfl, own3, hM3, hK3⟩
              have HM3 : Hid (Mi N w w3 ⟨N, gr, gt, gl⟩ own3 (updF (updF (LL A (A2 ++ [y])) 1 A2) 3 A2) (updF (updF (MM m k) 1 k) 3 k)) := hM3
              clear hM3 hK3 HM2
              have HME : Hid (Mi N w w3 ⟨N, gr, gt, gl⟩ own3 (LL A A2) (MM m k)) := HM3.out.congr (six _ rfl rfl rfl rfl rfl rfl) (six _ rfl rfl rfl rfl rfl rfl)
              clear HM3
              go_wp2
              go_roundw
              case rel => exact ⟨i + 1, A, A2, m, k, _, by omega, by omega, by omega, by omega, by omega, by go_num, HME⟩
              case measure => simp [intOf]; omega
          · by_cases hd2 : d = 2
            · subst hd2
              obtain ⟨own1, hM1, ho1, hk1⟩ := HM.out.alloc (.cells #[.int .i64 2, .int .i64 h, .int .i64 x] 32) 21 (by omega)
              have HM1 : Hid (Mi N w (wr.alloc (.cells #[.int .i64 2, .int .i64 h, .int .i64 x] 32)) ⟨N, gr, gt, gl⟩ own1 (LL A B) (MM m k)) := hM1
              have HX1 : Hid (20 ≤ own1 wr.heap.size) := by show 20 ≤ _; omega
              have HC1 : Hid ((wr.alloc (.cells #[.int .i64 2, .int .i64 h, .int .i64 x] 32)).cell? ⟨wr.heap.size, 2, none⟩ = some (.int .i64 x)) := by
                show _ = _
                rw [World.cell?_alloc_at _ _ _ _ rfl]; rfl
              clear hM1 ho1 hk1 HM
              have hp1 : ∀ q : Nat, Calls Try.prog 31 #[.pointer (some ⟨N, 2, none⟩)] ((wr.alloc (.cells #[.int .i64 2, .int .i64 h, .int .i64 x] 32)).drewN q) fun e w' => e = .returned (.int .i64 (B.length : Int)) ∧ w' = (wr.alloc (.cells #[.int .i64 2, .int .i64 h, .int .i64 x] 32)).drewN q := fun q => m_lenI (HM1.out.drewN q) 1 N 2 (by decide) rfl rfl B rfl
              have hp2 : ∀ q : Nat, Calls Try.prog 32 #[.pointer (some ⟨gr, 2, none⟩)] ((wr.alloc (.cells #[.int .i64 2, .int .i64 h, .int .i64 x] 32)).drewN q) fun e w' => e = .returned (.int .i64 (B.length : Int)) ∧ w' = (wr.alloc (.cells #[.int .i64 2, .int .i64 h, .int .i64 x] 32)).drewN q := fun q => m_lenR (HM1.out.drewN q) 3 gr 2 (by decide) rfl rfl B rfl
              go_wp2_with fail
              go_quiet (first | (go_at_call 31; exact Calls.quiet_of_same (hp1 _)) | (go_at_call 32; exact Calls.quiet_of_same (hp2 _)) | fail)
              have HME : Hid (Mi N w ((wr.alloc (.cells #[.int .i64 2, .int .i64 h, .int .i64 x] 32)).drewN nq) ⟨N, gr, gt, gl⟩ own1 (LL A B) (MM m k)) := HM1.out.drewN nq
              clear hp1 hp2 HM1 HX1 HC1
              go_wp2
              go_roundw
              case rel => exact ⟨i + 1, A, B, m, k, _, by omega, by omega, by omega, by omega, by omega, by go_num, HME⟩
              case measure => simp [intOf]; omega
            · by_cases hd3 : d = 4
              · subst hd3
                obtain ⟨own1, hM1, ho1, hk1⟩ := HM.out.alloc (.cells #[.int .i64 4, .int .i64 h, .int .i64 x] 32) 21 (by omega)
                have HM1 : Hid (Mi N w (wr.alloc (.cells #[.int .i64 4, .int .i64 h, .int .i64 x] 32)) ⟨N, gr, gt, gl⟩ own1 (LL A B) (MM m k)) := hM1
                have HX1 : Hid (20 ≤ own1 wr.heap.size) := by show 20 ≤ _; omega
                have HC1 : Hid ((wr.alloc (.cells #[.int .i64 4, .int .i64 h, .int .i64 x] 32)).cell? ⟨wr.heap.size, 2, none⟩ = some (.int .i64 x)) := by
                  show _ = _
                  rw [World.cell?_alloc_at _ _ _ _ rfl]; rfl
                clear hM1 ho1 hk1 HM
                go_wp2_with fail
                refine (m_clearI HM1.out 1 N 2 (by decide) rfl rfl).mono ?_
                rintro e w2 ⟨rfl, own2, hM2, hK2⟩
                have HM2 : Hid (Mi N w w2 ⟨N, gr, gt, gl⟩ own2 (updF (LL A B) 1 []) (updF (MM m k) 1 0)) := hM2
                clear hM2 hK2 HM1 HX1 HC1
                go_wp2_with fail
                refine (m_clearR HM2.out 3 gr 2 (by decide) rfl rfl).mono ?_
                rintro e w3 ⟨rfl, own3, hM3, hK3⟩
                have HM3 : Hid (Mi N w w3 ⟨N, gr, gt, gl⟩ own3 (updF (updF (LL A B) 1 []) 3 []) (updF (updF (MM m k) 1 0) 3 0)) := hM3
                clear hM3 hK3 HM2
                have HME : Hid (Mi N w w3 ⟨N, gr, gt, gl⟩ own3 (LL A []) (MM m 0)) := HM3.out.congr (six _ rfl rfl rfl rfl rfl rfl) (six _ rfl rfl rfl rfl rfl rfl)
                clear HM3
                go_wp2
                go_roundw
                case rel => exact ⟨i + 1, A, [], m, 0, _, by omega, by omega, by simp, by omega, by omega, by go_num, HME⟩
                case measure => simp [intOf]; omega
              · obtain ⟨own1, hM1, ho1, hk1⟩ := HM.out.alloc (.cells #[.int .i64 d, .int .i64 h, .int .i64 x] 32) 21 (by omega)
                have HM1 : Hid (Mi N w (wr.alloc (.cells #[.int .i64 d, .int .i64 h, .int .i64 x] 32)) ⟨N, gr, gt, gl⟩ own1 (LL A B) (MM m k)) := hM1
                have HX1 : Hid (20 ≤ own1 wr.heap.size) := by show 20 ≤ _; omega
                have HC1 : Hid ((wr.alloc (.cells #[.int .i64 d, .int .i64 h, .int .i64 x] 32)).cell? ⟨wr.heap.size, 2, none⟩ = some (.int .i64 x)) := by
                  show _ = _
                  rw [World.cell?_alloc_at _ _ _ _ rfl]; rfl
                clear hM1 ho1 hk1 HM
                have hp1 : ∀ q : Nat, Calls Try.prog 37 #[.pointer (some ⟨N, 2, none⟩)] ((wr.alloc (.cells #[.int .i64 d, .int .i64 h, .int .i64 x] 32)).drewN q) fun e w' => e = .returned (.int .i64 (k : Int)) ∧ w' = (wr.alloc (.cells #[.int .i64 d, .int .i64 h, .int .i64 x] 32)).drewN q := fun q => m_mostI (HM1.out.drewN q) 1 N 2 (by decide) rfl rfl k rfl
                have hp2 : ∀ q : Nat, Calls Try.prog 38 #[.pointer (some ⟨gr, 2, none⟩)] ((wr.alloc (.cells #[.int .i64 d, .int .i64 h, .int .i64 x] 32)).drewN q) fun e w' => e = .returned (.int .i64 (k : Int)) ∧ w' = (wr.alloc (.cells #[.int .i64 d, .int .i64 h, .int .i64 x] 32)).drewN q := fun q => m_mostR (HM1.out.drewN q) 3 gr 2 (by decide) rfl rfl k rfl
                go_wp2_with fail
                go_quiet (first | (go_at_call 37; exact Calls.quiet_of_same (hp1 _)) | (go_at_call 38; exact Calls.quiet_of_same (hp2 _)) | fail)
                have HME : Hid (Mi N w ((wr.alloc (.cells #[.int .i64 d, .int .i64 h, .int .i64 x] 32)).drewN nq) ⟨N, gr, gt, gl⟩ own1 (LL A B) (MM m k)) := HM1.out.drewN nq
                clear hp1 hp2 HM1 HX1 HC1
                go_wp2
                go_roundw
                case rel => exact ⟨i + 1, A, B, m, k, _, by omega, by omega, by omega, by omega, by omega, by go_num, HME⟩
                case measure => simp [intOf]; omega
    · obtain rfl : i = n := by omega
      clear hT hi hin
      have h1 := m_lenI HM.out 0 N 0 (by decide) rfl rfl A rfl
      have h2 := m_lenI HM.out 1 N 2 (by decide) rfl rfl B rfl
      have h3 := m_lenR HM.out 2 gr 0 (by decide) rfl rfl A rfl
      have h4 := m_lenR HM.out 3 gr 2 (by decide) rfl rfl B rfl
      have h5 := m_mostI HM.out 0 N 0 (by decide) rfl rfl m rfl
      have h6 := m_mostI HM.out 1 N 2 (by decide) rfl rfl k rfl
      have h7 := m_mostR HM.out 2 gr 0 (by decide) rfl rfl m rfl
      have h8 := m_mostR HM.out 3 gr 2 (by decide) rfl rfl k rfl
      go_wp2_with (first
        | (go_at_call_of 31 (Value.pointer (some ⟨N, 0, none⟩)); refine h1.mono ?_; rintro e w2 ⟨rfl, rfl⟩)
        | (go_at_call_of 31 (Value.pointer (some ⟨N, 2, none⟩)); refine h2.mono ?_; rintro e w2 ⟨rfl, rfl⟩)
        | (go_at_call_of 32 (Value.pointer (some ⟨gr, 0, none⟩)); refine h3.mono ?_; rintro e w2 ⟨rfl, rfl⟩)
        | (go_at_call_of 32 (Value.pointer (some ⟨gr, 2, none⟩)); refine h4.mono ?_; rintro e w2 ⟨rfl, rfl⟩)
        | (go_at_call_of 37 (Value.pointer (some ⟨N, 0, none⟩)); refine h5.mono ?_; rintro e w2 ⟨rfl, rfl⟩)
        | (go_at_call_of 37 (Value.pointer (some ⟨N, 2, none⟩)); refine h6.mono ?_; rintro e w2 ⟨rfl, rfl⟩)
        | (go_at_call_of 38 (Value.pointer (some ⟨gr, 0, none⟩)); refine h7.mono ?_; rintro e w2 ⟨rfl, rfl⟩)
        | (go_at_call_of 38 (Value.pointer (some ⟨gr, 2, none⟩)); refine h8.mono ?_; rintro e w2 ⟨rfl, rfl⟩))
      go_ret
      exact ⟨rfl, HB1.out⟩
end Go.Proofs.Ytlidhjcciglinaa
