/- HELPERS: the contract of runes.Decode, for every row of bytes. -/
import Derived.Test.YtjglehklfdhgaaaDoorProg
import Derived.WalkKit
import Derived.ProofKit
import Derived.BigQuiet
import Derived.Deep.QuietTactic
import Derived.Test.YtjglehklfdhgaaaDoorMx
namespace Go.Proofs.YtjglehklfdhgaaaDoor
open Go.RowKit Go.Mx
set_option linter.unusedVariables false
set_option linter.unusedSimpArgs false
theorem ret_bool {a b : Bool} (h : a = b) : Ending.returned (.bool a) = .returned (.bool b) := by rw [h]
theorem ret_pair {a b c d : Int} (h : a = c) (h2 : b = d) : Ending.returned (.tuple #[.int .i64 a, .int .i64 b]) = .returned (.tuple #[.int .i64 c, .int .i64 d]) := by rw [h, h2]
theorem dom41 (r : Int) (w : World) : Calls Tryd.prog 41 #[.int .i64 r] w fun e w' => e = .returned (.bool (dom r)) ∧ w' = w := by
  go_enter Tryd.func41, Tryd.ntmps41
  go_wp2
  all_goals go_ret
  all_goals exact ⟨ret_bool (by rw [Bool.eq_iff_iff]; simp [dom]; omega), rfl⟩
set_option maxHeartbeats 800000 in
theorem decode1 (a : Int) (t : List Int) (n b off cap : Nat) (w : World) (hn1 : t.length + 1 ≤ n) (hn2 : n ≤ t.length + 1) (hlen : n ≤ 140737488351232) (hcap : n ≤ cap) (hcl : cap ≤ 9223372036854775807)
   (h0 : w.cell? ⟨b, off, none⟩ = some (.int .u8 a)) (hc : ∀ k, k < t.length → w.cell? ⟨b, off + 1 + k, none⟩ = some (.int .u8 (t.getD k 0)))
   (h1 : 0 ≤ a) (h2 : a < 256) (hb : ∀ k, 0 ≤ t.getD k 0 ∧ t.getD k 0 < 256)
   (hs2 : (1 : Int) ≤ n)
   (hS : w.cell? ⟨0, (a / 8).toNat, none⟩ = some (.int .i64 1)) (hM : w.cell? ⟨1, 4, none⟩ = some (.int .i64 127)) (hL : w.cell? ⟨1, 5, none⟩ = some (.int .i64 0))
   (HS : Hid (sz a = 1)) :
   Calls Tryd.prog 12 #[.slice (some ⟨b, off, none⟩) n cap] w fun e w' => e = .returned (.tuple #[.int .i64 (dec (a :: t)).1, .int .i64 (dec (a :: t)).2]) ∧ ∃ q, w' = w.drewN q := by
  have hA := and127 a h1 h2
  have hm : 0 ≤ a % 128 ∧ a % 128 < 128 := by omega
  have hd := dec_end a t (by rw [HS.out]; omega) (by rw [HS.out]; omega) (by rw [HS.out]; rfl)
  have hv : val a t = a % 128 := by unfold val; rw [HS.out]; rfl
  rw [hv, HS.out] at hd
  have ha : a < 128 := sz_one (HS.out)
  have hm2 : a % 128 = a := by omega
  rw [hm2, if_pos ⟨by show (0 : Int) ≤ a; omega, by simp [dom]; omega⟩] at hd
  have HD : Hid (dec (a :: t) = (a, 1)) := hd
  have hdom : ∀ W : World, Calls Tryd.prog 41 #[.int .i64 (a % 128)] W fun e w' => e = .returned (.bool true) ∧ w' = W := by
    intro W
    have := dom41 (a % 128) W
    rwa [show dom (a % 128) = true by simp [dom]; omega] at this
  clear hd hv hm2 hc hb
  go_enter Tryd.func12, Tryd.ntmps12
  go_wp2
  go_quiet (fail)
  go_wp2
  all_goals refine wp_loop_rounds 1 ?_
  all_goals rw [rounds_succ]
  all_goals go_wp2_with (go_at_call 41; refine (hdom _).mono ?_; rintro e w' ⟨rfl, rfl⟩)
  all_goals go_ret2
  all_goals exact ⟨ret_pair (by rw [HD.out]; omega) (by rw [HD.out]), _, rfl⟩
set_option maxHeartbeats 800000 in
theorem decode2 (a : Int) (t : List Int) (n b off cap : Nat) (w : World) (hn1 : t.length + 1 ≤ n) (hn2 : n ≤ t.length + 1) (hlen : n ≤ 140737488351232) (hcap : n ≤ cap) (hcl : cap ≤ 9223372036854775807)
   (h0 : w.cell? ⟨b, off, none⟩ = some (.int .u8 a)) (hc : ∀ k, k < t.length → w.cell? ⟨b, off + 1 + k, none⟩ = some (.int .u8 (t.getD k 0)))
   (h1 : 0 ≤ a) (h2 : a < 256) (hb : ∀ k, 0 ≤ t.getD k 0 ∧ t.getD k 0 < 256)
   (hs2 : (2 : Int) ≤ n)
   (hS : w.cell? ⟨0, (a / 8).toNat, none⟩ = some (.int .i64 2)) (hM : w.cell? ⟨1, 7, none⟩ = some (.int .i64 31)) (hL : w.cell? ⟨1, 8, none⟩ = some (.int .i64 128))
   (HS : Hid (sz a = 2)) :
   Calls Tryd.prog 12 #[.slice (some ⟨b, off, none⟩) n cap] w fun e w' => e = .returned (.tuple #[.int .i64 (dec (a :: t)).1, .int .i64 (dec (a :: t)).2]) ∧ ∃ q, w' = w.drewN q := by
  have hA := and31 a h1 h2
  have hm : 0 ≤ a % 32 ∧ a % 32 < 128 := by omega
  go_enter Tryd.func12, Tryd.ntmps12
  go_wp2
  go_quiet (fail)
  go_wp2
  go_loop [5, 38] (fun rv i => ∃ k : Nat, k ≤ 1 ∧ i = .int .i64 k ∧ ∃ r : Int, 0 ≤ r ∧ r < 33554432 ∧ rv = .int .i64 r ∧ Hid (r = acc (a % 32) (t.take k) ∧ (t.take k).all cont = true)) (fun _ i => 1 - (intOf i).toNat)
  case atStart => exact ⟨0, by omega, rfl, a % 32, by omega, by omega, rfl, by exact ⟨rfl, rfl⟩⟩
  case round =>
    obtain ⟨k, hk, rfl, r, hr0, hr1, rfl, HR⟩ := hrel
    by_cases hlt : k < 1
    · have hck := hc k (by omega)
      have hbk := hb k
      generalize hx : t.getD k 0 = x at hck hbk
      have HX : Hid (t.getD k 0 = x) := hx
      clear hx hc hb
      obtain ⟨hx0, hx1⟩ := hbk
      have e1 := and63 x hx0 hx1
      have e2 := andNot63 x hx0 hx1
      have e3 := or6 (r * 64) (x % 64) (by omega) (by omega) (by omega) (by omega) (by omega)
      by_cases hcx : x - x % 64 = 128
      · go_wp2
        go_round
        case rel =>
          have hR := HR.out
          have hxo := HX.out
          have hn : acc (a % 32) (t.take (k + 1)) = r * 64 + x % 64 := by rw [take_succ' t k (by omega), acc_snoc, ← hR.1, hxo]
          have hbd := acc_small (a % 32) (t.take (k + 1)) (by omega) (by omega) (by rw [List.length_take]; omega)
          refine ⟨k + 1, by omega, by go_num, r * 64 + x % 64, by omega, by omega, rfl, ?_⟩
          exact ⟨hn.symm, by rw [all_take_succ t k (by omega), hR.2, hxo]; simp [cont]; omega⟩
        case measure => simp [intOf]; omega
      · go_wp2
        go_ret2
        have hd := dec_brk a t k (by rw [HS.out]; omega) (by omega) (by rw [HX.out]; simp [cont]; omega)
        exact ⟨ret_pair (by rw [hd]) (by rw [hd]), _, rfl⟩
    · obtain rfl : k = 1 := by omega
      have hR := HR.out
      clear HR hc hb
      have hv : val a t = r := by unfold val; rw [HS.out]; exact hR.1.symm
      have hd := dec_end a t (by rw [HS.out]; omega) (by rw [HS.out]; omega) (by rw [HS.out]; exact hR.2)
      rw [hv, HS.out] at hd
      have HD : Hid (dec (a :: t) = if ls 2 ≤ r ∧ dom r = true then (r, 2) else (65533, 1)) := hd
      have hls : ls 2 = 128 := by decide
      have HL : Hid (ls 2 = 128) := hls
      clear hd hv hR hls
      by_cases hrl : r < 128
      · go_wp2_with (go_at_call 41; refine (dom41 _ _).mono ?_; rintro e w' ⟨rfl, rfl⟩)
        go_ret2
        exact ⟨ret_pair (by rw [HD.out, HL.out, if_neg (by omega)]) (by rw [HD.out, HL.out, if_neg (by omega)]), _, rfl⟩
      · cases hdr : dom r
        · have hdom : Calls Tryd.prog 41 #[.int .i64 r] (w.drewN nq) fun e w' => e = .returned (.bool false) ∧ w' = w.drewN nq := by
            have := dom41 r (w.drewN nq); rwa [hdr] at this
          have HDR : Hid (dom r = false) := hdr
          clear hdr
          go_wp2_with (go_at_call 41; refine hdom.mono ?_; rintro e w' ⟨rfl, rfl⟩)
          go_ret2
          exact ⟨ret_pair (by rw [HD.out, HL.out, if_neg (by rw [HDR.out]; simp)]) (by rw [HD.out, HL.out, if_neg (by rw [HDR.out]; simp)]), _, rfl⟩
        · have hdom : Calls Tryd.prog 41 #[.int .i64 r] (w.drewN nq) fun e w' => e = .returned (.bool true) ∧ w' = w.drewN nq := by
            have := dom41 r (w.drewN nq); rwa [hdr] at this
          have HDR : Hid (dom r = true) := hdr
          clear hdr
          go_wp2_with (go_at_call 41; refine hdom.mono ?_; rintro e w' ⟨rfl, rfl⟩)
          go_ret2
          exact ⟨ret_pair (by rw [HD.out, HL.out, if_pos ⟨by omega, HDR.out⟩]) (by rw [HD.out, HL.out, if_pos ⟨by omega, HDR.out⟩]), _, rfl⟩
set_option maxHeartbeats 800000 in
theorem decode3 (a : Int) (t : List Int) (n b off cap : Nat) (w : World) (hn1 : t.length + 1 ≤ n) (hn2 : n ≤ t.length + 1) (hlen : n ≤ 140737488351232) (hcap : n ≤ cap) (hcl : cap ≤ 9223372036854775807)
   (h0 : w.cell? ⟨b, off, none⟩ = some (.int .u8 a)) (hc : ∀ k, k < t.length → w.cell? ⟨b, off + 1 + k, none⟩ = some (.int .u8 (t.getD k 0)))
   (h1 : 0 ≤ a) (h2 : a < 256) (hb : ∀ k, 0 ≤ t.getD k 0 ∧ t.getD k 0 < 256)
   (hs2 : (3 : Int) ≤ n)
   (hS : w.cell? ⟨0, (a / 8).toNat, none⟩ = some (.int .i64 3)) (hM : w.cell? ⟨1, 10, none⟩ = some (.int .i64 15)) (hL : w.cell? ⟨1, 11, none⟩ = some (.int .i64 2048))
   (HS : Hid (sz a = 3)) :
   Calls Tryd.prog 12 #[.slice (some ⟨b, off, none⟩) n cap] w fun e w' => e = .returned (.tuple #[.int .i64 (dec (a :: t)).1, .int .i64 (dec (a :: t)).2]) ∧ ∃ q, w' = w.drewN q := by
  have hA := and15 a h1 h2
  have hm : 0 ≤ a % 16 ∧ a % 16 < 128 := by omega
  go_enter Tryd.func12, Tryd.ntmps12
  go_wp2
  go_quiet (fail)
  go_wp2
  go_loop [5, 38] (fun rv i => ∃ k : Nat, k ≤ 2 ∧ i = .int .i64 k ∧ ∃ r : Int, 0 ≤ r ∧ r < 33554432 ∧ rv = .int .i64 r ∧ Hid (r = acc (a % 16) (t.take k) ∧ (t.take k).all cont = true)) (fun _ i => 2 - (intOf i).toNat)
  case atStart => exact ⟨0, by omega, rfl, a % 16, by omega, by omega, rfl, by exact ⟨rfl, rfl⟩⟩
  case round =>
    obtain ⟨k, hk, rfl, r, hr0, hr1, rfl, HR⟩ := hrel
    by_cases hlt : k < 2
    · have hck := hc k (by omega)
      have hbk := hb k
      generalize hx : t.getD k 0 = x at hck hbk
      have HX : Hid (t.getD k 0 = x) := hx
      clear hx hc hb
      obtain ⟨hx0, hx1⟩ := hbk
      have e1 := and63 x hx0 hx1
      have e2 := andNot63 x hx0 hx1
      have e3 := or6 (r * 64) (x % 64) (by omega) (by omega) (by omega) (by omega) (by omega)
      by_cases hcx : x - x % 64 = 128
      · go_wp2
        go_round
        case rel =>
          have hR := HR.out
          have hxo := HX.out
          have hn : acc (a % 16) (t.take (k + 1)) = r * 64 + x % 64 := by rw [take_succ' t k (by omega), acc_snoc, ← hR.1, hxo]
          have hbd := acc_small (a % 16) (t.take (k + 1)) (by omega) (by omega) (by rw [List.length_take]; omega)
          refine ⟨k + 1, by omega, by go_num, r * 64 + x % 64, by omega, by omega, rfl, ?_⟩
          exact ⟨hn.symm, by rw [all_take_succ t k (by omega), hR.2, hxo]; simp [cont]; omega⟩
        case measure => simp [intOf]; omega
      · go_wp2
        go_ret2
        have hd := dec_brk a t k (by rw [HS.out]; omega) (by omega) (by rw [HX.out]; simp [cont]; omega)
        exact ⟨ret_pair (by rw [hd]) (by rw [hd]), _, rfl⟩
    · obtain rfl : k = 2 := by omega
      have hR := HR.out
      clear HR hc hb
      have hv : val a t = r := by unfold val; rw [HS.out]; exact hR.1.symm
      have hd := dec_end a t (by rw [HS.out]; omega) (by rw [HS.out]; omega) (by rw [HS.out]; exact hR.2)
      rw [hv, HS.out] at hd
      have HD : Hid (dec (a :: t) = if ls 3 ≤ r ∧ dom r = true then (r, 3) else (65533, 1)) := hd
      have hls : ls 3 = 2048 := by decide
      have HL : Hid (ls 3 = 2048) := hls
      clear hd hv hR hls
      by_cases hrl : r < 2048
      · go_wp2_with (go_at_call 41; refine (dom41 _ _).mono ?_; rintro e w' ⟨rfl, rfl⟩)
        go_ret2
        exact ⟨ret_pair (by rw [HD.out, HL.out, if_neg (by omega)]) (by rw [HD.out, HL.out, if_neg (by omega)]), _, rfl⟩
      · cases hdr : dom r
        · have hdom : Calls Tryd.prog 41 #[.int .i64 r] (w.drewN nq) fun e w' => e = .returned (.bool false) ∧ w' = w.drewN nq := by
            have := dom41 r (w.drewN nq); rwa [hdr] at this
          have HDR : Hid (dom r = false) := hdr
          clear hdr
          go_wp2_with (go_at_call 41; refine hdom.mono ?_; rintro e w' ⟨rfl, rfl⟩)
          go_ret2
          exact ⟨ret_pair (by rw [HD.out, HL.out, if_neg (by rw [HDR.out]; simp)]) (by rw [HD.out, HL.out, if_neg (by rw [HDR.out]; simp)]), _, rfl⟩
        · have hdom : Calls Tryd.prog 41 #[.int .i64 r] (w.drewN nq) fun e w' => e = .returned (.bool true) ∧ w' = w.drewN nq := by
            have := dom41 r (w.drewN nq); rwa [hdr] at this
          have HDR : Hid (dom r = true) := hdr
          clear hdr
          go_wp2_with (go_at_call 41; refine hdom.mono ?_; rintro e w' ⟨rfl, rfl⟩)
          go_ret2
          exact ⟨ret_pair (by rw [HD.out, HL.out, if_pos ⟨by omega, HDR.out⟩]) (by rw [HD.out, HL.out, if_pos ⟨by omega, HDR.out⟩]), _, rfl⟩
set_option maxHeartbeats 800000 in
theorem decode4 (a : Int) (t : List Int) (n b off cap : Nat) (w : World) (hn1 : t.length + 1 ≤ n) (hn2 : n ≤ t.length + 1) (hlen : n ≤ 140737488351232) (hcap : n ≤ cap) (hcl : cap ≤ 9223372036854775807)
   (h0 : w.cell? ⟨b, off, none⟩ = some (.int .u8 a)) (hc : ∀ k, k < t.length → w.cell? ⟨b, off + 1 + k, none⟩ = some (.int .u8 (t.getD k 0)))
   (h1 : 0 ≤ a) (h2 : a < 256) (hb : ∀ k, 0 ≤ t.getD k 0 ∧ t.getD k 0 < 256)
   (hs2 : (4 : Int) ≤ n)
   (hS : w.cell? ⟨0, (a / 8).toNat, none⟩ = some (.int .i64 4)) (hM : w.cell? ⟨1, 13, none⟩ = some (.int .i64 7)) (hL : w.cell? ⟨1, 14, none⟩ = some (.int .i64 65536))
   (HS : Hid (sz a = 4)) :
   Calls Tryd.prog 12 #[.slice (some ⟨b, off, none⟩) n cap] w fun e w' => e = .returned (.tuple #[.int .i64 (dec (a :: t)).1, .int .i64 (dec (a :: t)).2]) ∧ ∃ q, w' = w.drewN q := by
  have hA := and7 a h1 h2
  have hm : 0 ≤ a % 8 ∧ a % 8 < 128 := by omega
  go_enter Tryd.func12, Tryd.ntmps12
  go_wp2
  go_quiet (fail)
  go_wp2
  go_loop [5, 38] (fun rv i => ∃ k : Nat, k ≤ 3 ∧ i = .int .i64 k ∧ ∃ r : Int, 0 ≤ r ∧ r < 33554432 ∧ rv = .int .i64 r ∧ Hid (r = acc (a % 8) (t.take k) ∧ (t.take k).all cont = true)) (fun _ i => 3 - (intOf i).toNat)
  case atStart => exact ⟨0, by omega, rfl, a % 8, by omega, by omega, rfl, by exact ⟨rfl, rfl⟩⟩
  case round =>
    obtain ⟨k, hk, rfl, r, hr0, hr1, rfl, HR⟩ := hrel
    by_cases hlt : k < 3
    · have hck := hc k (by omega)
      have hbk := hb k
      generalize hx : t.getD k 0 = x at hck hbk
      have HX : Hid (t.getD k 0 = x) := hx
      clear hx hc hb
      obtain ⟨hx0, hx1⟩ := hbk
      have e1 := and63 x hx0 hx1
      have e2 := andNot63 x hx0 hx1
      have e3 := or6 (r * 64) (x % 64) (by omega) (by omega) (by omega) (by omega) (by omega)
      by_cases hcx : x - x % 64 = 128
      · go_wp2
        go_round
        case rel =>
          have hR := HR.out
          have hxo := HX.out
          have hn : acc (a % 8) (t.take (k + 1)) = r * 64 + x % 64 := by rw [take_succ' t k (by omega), acc_snoc, ← hR.1, hxo]
          have hbd := acc_small (a % 8) (t.take (k + 1)) (by omega) (by omega) (by rw [List.length_take]; omega)
          refine ⟨k + 1, by omega, by go_num, r * 64 + x % 64, by omega, by omega, rfl, ?_⟩
          exact ⟨hn.symm, by rw [all_take_succ t k (by omega), hR.2, hxo]; simp [cont]; omega⟩
        case measure => simp [intOf]; omega
      · go_wp2
        go_ret2
        have hd := dec_brk a t k (by rw [HS.out]; omega) (by omega) (by rw [HX.out]; simp [cont]; omega)
        exact ⟨ret_pair (by rw [hd]) (by rw [hd]), _, rfl⟩
    · obtain rfl : k = 3 := by omega
      have hR := HR.out
      clear HR hc hb
      have hv : val a t = r := by unfold val; rw [HS.out]; exact hR.1.symm
      have hd := dec_end a t (by rw [HS.out]; omega) (by rw [HS.out]; omega) (by rw [HS.out]; exact hR.2)
      rw [hv, HS.out] at hd
      have HD : Hid (dec (a :: t) = if ls 4 ≤ r ∧ dom r = true then (r, 4) else (65533, 1)) := hd
      have hls : ls 4 = 65536 := by decide
      have HL : Hid (ls 4 = 65536) := hls
      clear hd hv hR hls
      by_cases hrl : r < 65536
      · go_wp2_with (go_at_call 41; refine (dom41 _ _).mono ?_; rintro e w' ⟨rfl, rfl⟩)
        go_ret2
        exact ⟨ret_pair (by rw [HD.out, HL.out, if_neg (by omega)]) (by rw [HD.out, HL.out, if_neg (by omega)]), _, rfl⟩
      · cases hdr : dom r
        · have hdom : Calls Tryd.prog 41 #[.int .i64 r] (w.drewN nq) fun e w' => e = .returned (.bool false) ∧ w' = w.drewN nq := by
            have := dom41 r (w.drewN nq); rwa [hdr] at this
          have HDR : Hid (dom r = false) := hdr
          clear hdr
          go_wp2_with (go_at_call 41; refine hdom.mono ?_; rintro e w' ⟨rfl, rfl⟩)
          go_ret2
          exact ⟨ret_pair (by rw [HD.out, HL.out, if_neg (by rw [HDR.out]; simp)]) (by rw [HD.out, HL.out, if_neg (by rw [HDR.out]; simp)]), _, rfl⟩
        · have hdom : Calls Tryd.prog 41 #[.int .i64 r] (w.drewN nq) fun e w' => e = .returned (.bool true) ∧ w' = w.drewN nq := by
            have := dom41 r (w.drewN nq); rwa [hdr] at this
          have HDR : Hid (dom r = true) := hdr
          clear hdr
          go_wp2_with (go_at_call 41; refine hdom.mono ?_; rintro e w' ⟨rfl, rfl⟩)
          go_ret2
          exact ⟨ret_pair (by rw [HD.out, HL.out, if_pos ⟨by omega, HDR.out⟩]) (by rw [HD.out, HL.out, if_pos ⟨by omega, HDR.out⟩]), _, rfl⟩
/-- the tables, as the program lays them -/
def TabS : List Int := [1, 1, 1, 1, 1, 1, 1, 1, 1, 1, 1, 1, 1, 1, 1, 1, 0, 0, 0, 0, 0, 0, 0, 0, 2, 2, 2, 2, 3, 3, 4, 0]
def TabF : List Int := [0, 0, 0, 0, 127, 0, 192, 31, 128, 224, 15, 2048, 240, 7, 65536]
def Tabs (w : World) : Prop := (∀ i, i < 32 → w.cell? ⟨0, i, none⟩ = some (.int .i64 (TabS.getD i 0))) ∧ (∀ i, i < 15 → w.cell? ⟨1, i, none⟩ = some (.int .i64 (TabF.getD i 0)))
def Bytes (w : World) (b off : Nat) (l : List Int) : Prop := ∀ k, k < l.length → w.cell? ⟨b, off + k, none⟩ = some (.int .u8 (l.getD k 0))
def ByteL (l : List Int) : Prop := ∀ k, 0 ≤ l.getD k 0 ∧ l.getD k 0 < 256
theorem sz_tab (a : Int) (h0 : 0 ≤ a) (h1 : a < 256) : TabS.getD (a / 8).toNat 0 = sz a := by
  have h : ∀ n : Fin 256, TabS.getD ((n.val : Int) / 8).toNat 0 = sz (n.val : Int) := by decide +kernel
  have := h ⟨a.toNat, by omega⟩
  simpa [Int.toNat_of_nonneg h0] using this
theorem ByteL.tail {a : Int} {t : List Int} (h : ByteL (a :: t)) : ByteL t := fun k => by simpa using h (k + 1)
theorem ByteL.head {a : Int} {t : List Int} (h : ByteL (a :: t)) : 0 ≤ a ∧ a < 256 := by simpa using h 0
theorem ByteL.drop {l : List Int} (h : ByteL l) (n : Nat) : ByteL (l.drop n) := fun k => by
  have := h (n + k)
  simpa [List.getD_eq_getElem?_getD, List.getElem?_drop] using this
theorem Bytes.drop {w : World} {b off : Nat} {l : List Int} (h : Bytes w b off l) (n : Nat) : Bytes w b (off + n) (l.drop n) := fun k hk => by
  rw [List.length_drop] at hk
  have := h (n + k) (by omega)
  rw [show off + n + k = off + (n + k) by omega, this]
  simp [List.getD_eq_getElem?_getD, List.getElem?_drop]
set_option maxHeartbeats 400000 in
theorem decode0 (a : Int) (t : List Int) (n b off cap : Nat) (w : World) (hn1 : t.length + 1 ≤ n) (hn2 : n ≤ t.length + 1) (hlen : n ≤ 140737488351232)
   (h0 : w.cell? ⟨b, off, none⟩ = some (.int .u8 a)) (h1 : 0 ≤ a) (h2 : a < 256) (s : Int) (hs0 : 0 ≤ s) (hs4 : s ≤ 4) (hs : s = 0 ∨ (n : Int) < s)
   (hS : w.cell? ⟨0, (a / 8).toNat, none⟩ = some (.int .i64 s)) (HS : Hid (sz a = s)) :
   Calls Tryd.prog 12 #[.slice (some ⟨b, off, none⟩) n cap] w fun e w' => e = .returned (.tuple #[.int .i64 (dec (a :: t)).1, .int .i64 (dec (a :: t)).2]) ∧ ∃ q, w' = w.drewN q := by
  have hd := dec_few a t (by rw [HS.out]; omega)
  have HD : Hid (dec (a :: t) = (65533, 1)) := hd
  clear hd
  rcases hs with rfl | hs
  · go_enter Tryd.func12, Tryd.ntmps12
    go_wp2
    all_goals go_ret2
    all_goals exact ⟨ret_pair (by rw [HD.out]) (by rw [HD.out]), 0, rfl⟩
  · have h3 : ¬ s = 0 := by omega
    go_enter Tryd.func12, Tryd.ntmps12
    go_wp2
    all_goals go_ret2
    all_goals exact ⟨ret_pair (by rw [HD.out]) (by rw [HD.out]), 0, rfl⟩
theorem decode_any (l : List Int) (hl : l ≠ []) (b off cap n : Nat) (w : World) (hn : n = l.length) (hlen : n ≤ 140737488351232) (hcap : n ≤ cap) (hcl : cap ≤ 9223372036854775807)
   (hT : Tabs w) (hB : Bytes w b off l) (hL : ByteL l) :
   Calls Tryd.prog 12 #[.slice (some ⟨b, off, none⟩) n cap] w fun e w' => e = .returned (.tuple #[.int .i64 (dec l).1, .int .i64 (dec l).2]) ∧ ∃ q, w' = w.drewN q := by
  cases l with
  | nil => exact absurd rfl hl
  | cons a t =>
    obtain ⟨h1, h2⟩ := hL.head
    have hS := hT.1 (a / 8).toNat (by omega)
    rw [sz_tab a h1 h2] at hS
    have h0 : w.cell? ⟨b, off, none⟩ = some (.int .u8 a) := by have := hB 0 (by simp); simpa using this
    have hc : ∀ k, k < t.length → w.cell? ⟨b, off + 1 + k, none⟩ = some (.int .u8 (t.getD k 0)) := fun k hk => by
      have := hB (k + 1) (by simp; omega)
      rw [show off + 1 + k = off + (k + 1) by omega, this]
      simp
    simp only [List.length_cons] at hn
    have hsz := sz_le a
    by_cases hf : sz a = 0 ∨ (n : Int) < sz a
    · exact decode0 a t n b off cap w (by omega) (by omega) hlen h0 h1 h2 (sz a) hsz.1 hsz.2 hf hS rfl
    · have hcases : sz a = 1 ∨ sz a = 2 ∨ sz a = 3 ∨ sz a = 4 := by omega
      rcases hcases with hs | hs | hs | hs
      · rw [hs] at hS hf
        exact decode1 a t n b off cap w (by omega) (by omega) hlen hcap hcl h0 hc h1 h2 hL.tail (by omega) hS (hT.2 4 (by decide)) (hT.2 5 (by decide)) hs
      · rw [hs] at hS hf
        exact decode2 a t n b off cap w (by omega) (by omega) hlen hcap hcl h0 hc h1 h2 hL.tail (by omega) hS (hT.2 7 (by decide)) (hT.2 8 (by decide)) hs
      · rw [hs] at hS hf
        exact decode3 a t n b off cap w (by omega) (by omega) hlen hcap hcl h0 hc h1 h2 hL.tail (by omega) hS (hT.2 10 (by decide)) (hT.2 11 (by decide)) hs
      · rw [hs] at hS hf
        exact decode4 a t n b off cap w (by omega) (by omega) hlen hcap hcl h0 hc h1 h2 hL.tail (by omega) hS (hT.2 13 (by decide)) (hT.2 14 (by decide)) hs
theorem decode_none (ad : Option Addr) (cap : Nat) (w : World) : Calls Tryd.prog 12 #[.slice ad 0 cap] w fun e w' => e = .returned (.tuple #[.int .i64 0, .int .i64 0]) ∧ w' = w := by
  go_enter Tryd.func12, Tryd.ntmps12
  go_wp2
  all_goals go_ret2
  all_goals exact ⟨rfl, rfl⟩
end Go.Proofs.YtjglehklfdhgaaaDoor
