/- HELPERS: the contract of runes.Encode. -/
import Derived.Test.YtjglehklfdhgaaaDoorEnc
namespace Go.Proofs.YtjglehklfdhgaaaDoor
open Go.RowKit Go.Mx
set_option linter.unusedVariables false
set_option linter.unusedSimpArgs false
theorem EncEnd.long {N : Nat} {w w' : World} {l : List Int} (h : 4194304 < l.length) (hb : Below N w w') : EncEnd N w w' (.returned (.tuple #[.slice none 0 0, .int .i64 2])) l := ⟨hb, by rw [if_pos h]⟩
theorem EncEnd.bad {N : Nat} {w w' : World} {l : List Int} (h : ¬ 4194304 < l.length) (h2 : l.all dom = false) (hb : Below N w w') : EncEnd N w w' (.returned (.tuple #[.slice none 0 0, .int .i64 10])) l := ⟨hb, by rw [if_neg h, if_neg (by rw [h2]; simp)]⟩
theorem EncEnd.good {N g n cap : Nat} {w w' : World} {l : List Int} (h : ¬ 4194304 < l.length) (h2 : l.all dom = true) (hb : Below N w w') (hn : n = (encL l).length) (ho : w'.ownsRow N 5 1 (.slice (some ⟨g, 0, none⟩) n cap) n (U8 (encL l))) : EncEnd N w w' (.returned (.tuple #[.slice (some ⟨g, 0, none⟩) n cap, .int .i64 0])) l := ⟨hb, by rw [if_neg h, if_pos h2]; subst hn; exact ⟨g, cap, rfl, ho⟩⟩
set_option maxHeartbeats 1000000 in
set_option maxRecDepth 1000000 in
theorem encode_long (l : List Int) (ad : Option Addr) (n cap : Nat) (w : World) (hn : Hid (n = l.length)) (hlong : 4194304 < n) (hlen : n ≤ 17592186044416) :
    Calls Tryd.prog 19 #[.slice ad n cap] w fun e w' => EncEnd w.heap.size w w' e l := by
  have hE : Hid (EncEnd w.heap.size w w (.returned (.tuple #[.slice none 0 0, .int .i64 2])) l) := EncEnd.long (by rw [← hn.out]; exact hlong) (Below.refl _ _)
  go_enter Tryd.func19, Tryd.ntmps19
  go_wp2
  go_ret2
  exact hE.out
set_option maxHeartbeats 1000000 in
set_option maxRecDepth 1000000 in
theorem encode_short (l : List Int) (ad : Option Addr) (n cap : Nat) (w : World) (hn : Hid (n = l.length)) (hshort : n ≤ 4194304) (hl : Hid (IntsAt w.heap.size w (.slice ad n cap) l)) (hT : Hid (Tabs w)) (h2 : 2 ≤ w.heap.size) :
    Calls Tryd.prog 19 #[.slice ad n cap] w fun e w' => EncEnd w.heap.size w w' e l := by
  obtain ⟨i0, hi0, hz0, hz1, hz2⟩ := info_parts info5
  go_enter Tryd.func19, Tryd.ntmps19
  go_wp2_with (at_make; refine wpList_make_own _ rfl _ (.tmp 11) 25 rfl w.heap.size 5 i0 (.int .u8 0) 1 Tryd.underlying25 hi0 hz0 hz1 _ _ _ n rfl rfl (by omega) (by rw [hz2]; omega) (by unfold maxLen; omega) (Nat.le_refl _) ?_)
  intro w0 hown0 hgrow0
  have hb0 : Below w.heap.size w w0 := (Below.refl _ _).grown hgrow0 (Nat.le_refl _) (fun k h => by cases h)
  clear hgrow0
  go_wp2
  go_loopw [4, 15] (fun v i wr => ∃ (k m g cp : Nat) (B : List Int), k ≤ n ∧ m ≤ 4 * k ∧ i = .int .i64 k ∧ v = .slice (some ⟨g, 0, none⟩) m cp ∧ wr.ownsRow w.heap.size 5 1 (.slice (some ⟨g, 0, none⟩) m cp) m (U8 B) ∧ Below w.heap.size w wr ∧ Hid (B = encL (l.take k) ∧ m = B.length ∧ (l.take k).all dom = true))
    (fun _ i _ => n - (intOf i).toNat)
  case atStart => exact ⟨0, 0, _, _, [], by omega, by omega, rfl, rfl, hown0, hb0, by exact ⟨rfl, rfl, rfl⟩⟩
  case round =>
    obtain ⟨k, m, g, cp, B, hk, hm, rfl, rfl, hown, hbw, HR⟩ := hrel
    have hsz := hbw.size
    by_cases hlt : k < n
    · obtain ⟨ad', cap', he, _, _, h | ⟨b, off, rfl, hbN, hc⟩⟩ := hl.out
      · exact absurd h (by rw [← hn.out]; omega)
      · simp only [Value.slice.injEq] at he
        obtain ⟨rfl, -, rfl⟩ := he
        have hn' := hn.out
        have d0 := (hbw.cell (p := ⟨b, off + k, none⟩) hbN).trans (hc k (by omega))
        have hts := take_snocI l k (by omega)
        have hbad := all_dom_bad l k (by omega)
        clear hn'
        generalize l.getD k 0 = r at d0 hts hbad
        have HTS : Hid (l.take (k + 1) = l.take k ++ [r]) := hts
        clear hts hc
        cases hdr : dom r
        · have hE : Hid (l.all dom = false) := hbad hdr
          have hdom := dom41 r wr
          rw [hdr] at hdom
          clear hbad hdr
          go_wp2_with (go_at_call 41; refine hdom.mono ?_; rintro e w' ⟨rfl, rfl⟩)
          go_ret2
          exact EncEnd.bad (by rw [← hn.out]; omega) hE.out hbw
        · have hdom := dom41 r wr
          rw [hdr] at hdom
          have HD : Hid (dom r = true) := hdr
          obtain ⟨hr0, hr1⟩ := dom_bd hdr
          clear hbad hdr
          have happ := app45 w.heap.size B m (.slice (some ⟨g, 0, none⟩) m cp) r wr (hT.out.below hbw h2) hown hsz (by omega) hr0 hr1
          have hel := enc_len r
          go_wp2_with (first | (go_at_call 41; refine hdom.mono ?_; rintro e w' ⟨rfl, rfl⟩) | (go_at_call 45; refine happ.mono ?_; rintro e w2 ⟨v2, rfl, ho2, hb2⟩; obtain ⟨g2, cp2, rfl⟩ := Joins.ownsRow_form ho2 (by omega)))
          have hb3 := hbw.trans hb2
          go_roundw
          case rel =>
            refine ⟨k + 1, m + (enc r).length, g2, cp2, B ++ enc r, by omega, by omega, by go_num, rfl, ho2, hb3, ?_⟩
            have hR := HR.out
            exact ⟨by rw [HTS.out, hR.1]; simp [encL], by rw [List.length_append, ← hR.2.1], by rw [HTS.out, List.all_append, hR.2.2]; simp [HD.out]⟩
          case measure => simp [intOf]; omega
    · obtain rfl : k = n := by omega
      have hR := HR.out
      rw [List.take_of_length_le (by rw [← hn.out]; exact Nat.le_refl _)] at hR
      obtain ⟨rfl, hml, hall⟩ := hR
      have hE : Hid (EncEnd w.heap.size w wr (.returned (.tuple #[.slice (some ⟨g, 0, none⟩) m cp, .int .i64 0])) l) := EncEnd.good (by rw [← hn.out]; omega) hall hbw hml hown
      clear HR hml hall
      go_wp2
      go_ret2
      exact hE.out
theorem encode19 (l : List Int) (ad : Option Addr) (n cap : Nat) (w : World) (hn : n = l.length) (hl : IntsAt w.heap.size w (.slice ad n cap) l) (hT : Tabs w) (h2 : 2 ≤ w.heap.size) :
    Calls Tryd.prog 19 #[.slice ad n cap] w fun e w' => EncEnd w.heap.size w w' e l := by
  by_cases h : n ≤ 4194304
  · exact encode_short l ad n cap w hn h hl hT h2
  · obtain ⟨ad', cap', he, h1, h3, _⟩ := hl
    simp only [Value.slice.injEq] at he
    exact encode_long l ad n cap w hn (by omega) (by omega)
end Go.Proofs.YtjglehklfdhgaaaDoor
