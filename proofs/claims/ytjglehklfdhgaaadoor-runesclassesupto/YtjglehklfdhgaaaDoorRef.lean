/- HELPERS: the contracts of the document's own Encode and Word, and of runes.Word. -/
import Derived.Test.YtjglehklfdhgaaaDoorSame
namespace Go.Proofs.YtjglehklfdhgaaaDoor
open Go.RowKit Go.Mx
set_option linter.unusedVariables false
set_option linter.unusedSimpArgs false
theorem dom43 (r : Int) (w : World) : Calls Tryd.prog 43 #[.int .i64 r] w fun e w' => e = .returned (.bool (dom r)) ∧ w' = w := by
  go_enter Tryd.func43, Tryd.ntmps43
  go_wp2
  all_goals go_ret
  all_goals exact ⟨ret_bool (by rw [Bool.eq_iff_iff]; simp [dom]; omega), rfl⟩
def wordB (r : Int) : Bool := decide (97 ≤ r ∧ r ≤ 122 ∨ 65 ≤ r ∧ r ≤ 90 ∨ 48 ≤ r ∧ r ≤ 57 ∨ r = 95)
theorem word22 (r : Int) (w : World) : Calls Tryd.prog 22 #[.int .i64 r] w fun e w' => e = .returned (.bool (wordB r)) ∧ w' = w := by
  go_enter Tryd.func22, Tryd.ntmps22
  go_wp2
  all_goals go_ret
  all_goals exact ⟨ret_bool (by rw [Bool.eq_iff_iff]; simp [wordB]; omega), rfl⟩
theorem word21 (r : Int) (w : World) : Calls Tryd.prog 21 #[.int .i64 r] w fun e w' => e = .returned (.bool (wordB r)) ∧ w' = w := by
  have hd := dom41 r w
  cases hdr : dom r
  · rw [hdr] at hd
    have hw : wordB r = false := by simp [dom] at hdr; simp [wordB]; omega
    clear hdr
    go_enter Tryd.func21, Tryd.ntmps21
    go_wp2_with (go_at_call 41; refine hd.mono ?_; rintro e w' ⟨rfl, rfl⟩)
    all_goals go_ret
    all_goals exact ⟨ret_bool hw.symm, rfl⟩
  · rw [hdr] at hd
    obtain ⟨h0, h1⟩ := dom_bd hdr
    clear hdr
    go_enter Tryd.func21, Tryd.ntmps21
    go_wp2_with (go_at_call 41; refine hd.mono ?_; rintro e w' ⟨rfl, rfl⟩)
    all_goals go_ret
    all_goals exact ⟨ret_bool (by rw [Bool.eq_iff_iff]; simp [wordB]; omega), rfl⟩
theorem six55 (r : Int) (w : World) (h0 : 0 ≤ r) (h1 : r < 1114112) : Calls Tryd.prog 55 #[.int .i64 r, .int .i64 0] w fun e w' => e = .returned (.int .u8 (128 + r % 64)) ∧ w' = w := by
  go_enter Tryd.func55, Tryd.ntmps55
  go_wp2
  go_ret
  exact ⟨by rfl, rfl⟩
set_option maxHeartbeats 1000000 in
theorem by1 (r : Int) (w : World) (h0 : 0 ≤ r) (h1 : r < 128) : Calls Tryd.prog 44 #[.int .i64 r] w fun e w' => e = .returned (.slice (some ⟨w.heap.size, 0, none⟩) 1 1) ∧ w' = w.alloc (.cells #[.int .u8 r] 5) := by
  go_enter Tryd.func44, Tryd.ntmps44
  go_wp2
  go_ret
  exact ⟨rfl, rfl⟩
set_option maxHeartbeats 1000000 in
theorem by2 (r : Int) (w : World) (h0 : 128 ≤ r) (h1 : r < 2048) : Calls Tryd.prog 44 #[.int .i64 r] w fun e w' => e = .returned (.slice (some ⟨w.heap.size, 0, none⟩) 2 2) ∧ w' = w.alloc (.cells #[.int .u8 (192 + r / 64), .int .u8 (128 + r % 64)] 5) := by
  go_enter Tryd.func44, Tryd.ntmps44
  go_wp2_with (go_at_call 55; refine (six55 _ _ (by omega) (by omega)).mono ?_; rintro e w' ⟨rfl, rfl⟩)
  go_ret
  exact ⟨rfl, rfl⟩
set_option maxHeartbeats 1000000 in
theorem by3 (r : Int) (w : World) (h0 : 2048 ≤ r) (h1 : r < 65536) : Calls Tryd.prog 44 #[.int .i64 r] w fun e w' => e = .returned (.slice (some ⟨w.heap.size, 0, none⟩) 3 3) ∧ w' = w.alloc (.cells #[.int .u8 (224 + r / 4096), .int .u8 (128 + r / 64 % 64), .int .u8 (128 + r % 64)] 5) := by
  go_enter Tryd.func44, Tryd.ntmps44
  go_wp2_with (go_at_call 55; refine (six55 _ _ (by omega) (by omega)).mono ?_; rintro e w' ⟨rfl, rfl⟩)
  go_ret
  exact ⟨rfl, rfl⟩
set_option maxHeartbeats 1000000 in
theorem by4 (r : Int) (w : World) (h0 : 65536 ≤ r) (h1 : r < 1114112) : Calls Tryd.prog 44 #[.int .i64 r] w fun e w' => e = .returned (.slice (some ⟨w.heap.size, 0, none⟩) 4 4) ∧ w' = w.alloc (.cells #[.int .u8 (240 + r / 262144), .int .u8 (128 + r / 4096 % 64), .int .u8 (128 + r / 64 % 64), .int .u8 (128 + r % 64)] 5) := by
  go_enter Tryd.func44, Tryd.ntmps44
  go_wp2_with (go_at_call 55; refine (six55 _ _ (by omega) (by omega)).mono ?_; rintro e w' ⟨rfl, rfl⟩)
  go_ret
  exact ⟨rfl, rfl⟩
theorem bytes44 (r : Int) (w : World) (hd : dom r = true) : Calls Tryd.prog 44 #[.int .i64 r] w fun e w' => e = .returned (.slice (some ⟨w.heap.size, 0, none⟩) (enc r).length (enc r).length) ∧ w' = w.alloc (.cells (U8 (enc r)).toArray 5) := by
  obtain ⟨h0, h1⟩ := dom_bd hd
  by_cases g1 : r < 128
  · have he : enc r = [r] := by unfold enc; rw [if_pos g1]
    rw [he]
    exact by1 r w h0 g1
  · by_cases g2 : r < 2048
    · have he : enc r = [192 + r / 64, 128 + r % 64] := by unfold enc; rw [if_neg g1, if_pos g2]
      rw [he]
      exact by2 r w (by omega) g2
    · by_cases g3 : r < 65536
      · have he : enc r = [224 + r / 4096, 128 + r / 64 % 64, 128 + r % 64] := by unfold enc; rw [if_neg g1, if_neg g2, if_pos g3]
        rw [he]
        exact by3 r w (by omega) g3
      · have he : enc r = [240 + r / 262144, 128 + r / 4096 % 64, 128 + r / 64 % 64, 128 + r % 64] := by unfold enc; rw [if_neg g1, if_neg g2, if_neg g3]
        rw [he]
        exact by4 r w (by omega) h1
def RefEnd (N : Nat) (w w' : World) (e : Ending) (l : List Int) : Prop :=
  Below N w w' ∧ (if 4194304 < l.length then e = .returned (.tuple #[.slice none 0 0, .int .i64 2]) else if l.all dom = true then ∃ v, e = .returned (.tuple #[v, .int .i64 0]) ∧ w'.ownsRow N 5 1 v (encL l).length (U8 (encL l)) else e = .returned (.tuple #[.slice none 0 0, .int .i64 10]))
theorem news_many (w : World) (l : List Int) (g : Nat) (hg : g = w.heap.size) : ∀ (j : Nat) (u : Value), (U8 l)[j]? = some u → (w.alloc (.cells (U8 l).toArray 5)).cell? ((⟨g, 0, none⟩ : Addr).add j) = some u := by
  intro j u h
  have e : ((⟨g, 0, none⟩ : Addr).add j) = ⟨g, j, none⟩ := by simp [Addr.add]; intro h; exact h.symm
  rw [e, World.cell?_alloc_at _ 5 g j hg]
  simpa using h
theorem cells_one (l : List Int) : ∀ u ∈ U8 l, u.oneCell' = true := by
  intro u hu
  simp only [List.mem_map] at hu
  obtain ⟨x, _, rfl⟩ := hu
  rfl
set_option maxHeartbeats 1000000 in
set_option maxRecDepth 1000000 in
theorem refenc_long (l : List Int) (ad : Option Addr) (n cap : Nat) (w : World) (hn : Hid (n = l.length)) (hlong : 4194304 < n) (hlen : n ≤ 17592186044416) :
    Calls Tryd.prog 20 #[.slice ad n cap] w fun e w' => RefEnd w.heap.size w w' e l := by
  have hE : Hid (RefEnd w.heap.size w w (.returned (.tuple #[.slice none 0 0, .int .i64 2])) l) := ⟨Below.refl _ _, by rw [if_pos (by rw [← hn.out]; exact hlong)]⟩
  go_enter Tryd.func20, Tryd.ntmps20
  go_wp2
  go_ret2
  exact hE.out
set_option maxHeartbeats 1000000 in
set_option maxRecDepth 1000000 in
theorem refenc_short (l : List Int) (ad : Option Addr) (n cap : Nat) (w : World) (hn : Hid (n = l.length)) (hshort : n ≤ 4194304) (hl : Hid (IntsAt w.heap.size w (.slice ad n cap) l)) :
    Calls Tryd.prog 20 #[.slice ad n cap] w fun e w' => RefEnd w.heap.size w w' e l := by
  obtain ⟨i0, hi0, hz0, hz1, hz2⟩ := info_parts info5
  go_enter Tryd.func20, Tryd.ntmps20
  go_wp2
  go_loopw [4, 5] (fun v i wr => ∃ (k m : Nat) (B : List Int), k ≤ n ∧ m ≤ 4 * k ∧ i = .int .i64 k ∧ wr.ownsRow w.heap.size 5 1 v m (U8 B) ∧ Below w.heap.size w wr ∧ Hid (B = encL (l.take k) ∧ m = B.length ∧ (l.take k).all dom = true))
    (fun _ i _ => n - (intOf i).toNat)
  case atStart => exact ⟨0, 0, [], by omega, by omega, rfl, World.ownsRow_nil _ _ _ _, Below.refl _ _, by exact ⟨rfl, rfl, rfl⟩⟩
  case round =>
    obtain ⟨k, m, B, hk, hm, rfl, hown, hbw, HR⟩ := hrel
    have hsz := hbw.size
    by_cases hlt : k < n
    · obtain ⟨ad', cap', he, _, _, h | ⟨b, off, rfl, hbN, hc⟩⟩ := hl.out
      · exact absurd h (by rw [← hn.out]; omega)
      · simp only [Value.slice.injEq] at he
        obtain ⟨rfl, -, rfl⟩ := he
        have hn' := hn.out
        have d0 := (hbw.cell (p := ⟨b, off + k, none⟩) hbN).trans (hc k (by omega))
        have hts := take_snocI l k (by omega)
        have hbad := all_dom_bad l k (by omega)
        clear hn'
        generalize l.getD k 0 = r at d0 hts hbad
        have HTS : Hid (l.take (k + 1) = l.take k ++ [r]) := hts
        clear hts hc
        cases hdr : dom r
        · have hE : Hid (l.all dom = false) := hbad hdr
          have hdom := dom43 r wr
          rw [hdr] at hdom
          clear hbad hdr
          go_wp2_with (go_at_call 43; refine hdom.mono ?_; rintro e w' ⟨rfl, rfl⟩)
          go_ret2
          exact ⟨hbw, by rw [if_neg (by rw [← hn.out]; omega), if_neg (by rw [hE.out]; simp)]; rfl⟩
        · have hdom := dom43 r wr
          rw [hdr] at hdom
          have HD : Hid (dom r = true) := hdr
          have hby := bytes44 r wr hdr
          clear hbad hdr
          have hel := enc_len r
          have hnw := news_many wr (enc r) wr.heap.size rfl
          have hu8 : (U8 (enc r)).length = (enc r).length * 1 := by simp
          have hco := cells_one (enc r)
          have howa : (wr.alloc (.cells (U8 (enc r)).toArray 5)).ownsRow w.heap.size 5 1 _ m (U8 B) := hown.alloc _
          generalize hln : (enc r).length = ln at hby hel hu8
          have HLN : Hid ((enc r).length = ln) := hln
          clear hln
          generalize hW : wr.alloc (.cells (U8 (enc r)).toArray 5) = wa at hby hnw howa
          have hba : Below w.heap.size w wa := by rw [← hW]; exact hbw.alloc hsz _
          have hsa := hba.size
          clear hW
          go_wp2_with (first | (go_at_call 43; refine hdom.mono ?_; rintro e w' ⟨rfl, rfl⟩) | (go_at_call 44; refine hby.mono ?_; rintro e w' ⟨rfl, rfl⟩) | (at_builtin; refine wpList_append_own _ rfl (.tmp 23) (.tmp 28) 25 rfl w.heap.size 5 i0 (.int .u8 0) 1 1 Tryd.underlying25 hi0 hz0 hz1 hz2 rfl (by decide) _ m _ rfl howa _ ln ln (U8 (enc r)) rfl hu8 hnw hco (by unfold maxLen; omega) (by omega) hsa ?_; intro v2 w2 ho2 hg2 _))
          have hb2 : Below w.heap.size w w2 := hba.grown hg2 hsa (fun j hj => (hown.lt j hj).1)
          go_roundw
          case rel =>
            have hR := HR.out
            refine ⟨k + 1, m + ln, B ++ enc r, by omega, by omega, by go_num, by simpa [U8] using ho2, hb2, ?_⟩
            exact ⟨by rw [HTS.out, hR.1]; simp [encL], by rw [List.length_append, ← hR.2.1, HLN.out], by rw [HTS.out, List.all_append, hR.2.2]; simp [HD.out]⟩
          case measure => simp [intOf]; omega
    · obtain rfl : k = n := by omega
      have hR := HR.out
      rw [List.take_of_length_le (by rw [← hn.out]; exact Nat.le_refl _)] at hR
      obtain ⟨rfl, hml, hall⟩ := hR
      have hE : Hid (l.all dom = true ∧ m = (encL l).length) := ⟨hall, hml⟩
      clear HR hml hall
      go_wp2
      go_ret2
      refine ⟨hbw, ?_⟩
      rw [if_neg (by rw [← hn.out]; omega), if_pos hE.out.1, ← hE.out.2]
      exact ⟨_, rfl, hown⟩
theorem refenc20 (l : List Int) (ad : Option Addr) (n cap : Nat) (w : World) (hn : n = l.length) (hl : IntsAt w.heap.size w (.slice ad n cap) l) :
    Calls Tryd.prog 20 #[.slice ad n cap] w fun e w' => RefEnd w.heap.size w w' e l := by
  by_cases h : n ≤ 4194304
  · exact refenc_short l ad n cap w hn h hl
  · obtain ⟨ad', cap', he, h1, h3, _⟩ := hl
    simp only [Value.slice.injEq] at he
    exact refenc_long l ad n cap w hn (by omega) (by omega)
end Go.Proofs.YtjglehklfdhgaaaDoor
