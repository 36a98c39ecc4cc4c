/- HELPERS: the walk of RunesBack. -/
import Derived.Test.YtjglehklfdhgaaaDoorSame
import Derived.Test.YtjglehklfdhgaaaDoorAwake
namespace Go.Proofs.YtjglehklfdhgaaaDoor
open Go.RowKit Go.Mx
set_option linter.unusedVariables false
set_option linter.unusedSimpArgs false
set_option maxHeartbeats 2000000 in
set_option maxRecDepth 1000000 in
theorem back_bad (l : List Int) (ad : Option Addr) (n cap : Nat) (w : World) (hn : Hid (n = l.length)) (hl : Hid (IntsAt w.heap.size w (.slice ad n cap) l)) (hT : Hid (Tabs w)) (h2 : 2 ≤ w.heap.size) (hlen : n ≤ 17592186044416)
    (hA : Hid ((decide (n ≤ 4194304) && l.all dom) = false)) :
    Calls Tryd.prog 7 #[.slice ad n cap] w fun e w' => e = .returned (.bool true) ∧ Below w.heap.size w w' := by
  have haw := awake9 w hT h2
  go_enter Tryd.func7, Tryd.ntmps7
  go_wp2_with (go_at_call 9; refine haw.mono ?_; rintro e w1 ⟨rfl, hb1⟩)
  have hs1 := hb1.size
  have henc := encode19 l ad n cap w1 hn.out (hl.out.below hb1 (Nat.le_refl _) hs1) (hT.out.below hb1 h2) (by omega)
  refine henc.mono ?_
  intro e w2 hE
  have hx : ∃ c : Int, 1 ≤ c ∧ e = .returned (.tuple #[.slice none 0 0, .int .i64 c]) := by
    obtain ⟨_, hE⟩ := hE
    split at hE
    · exact ⟨2, by omega, hE⟩
    · rename_i h3
      split at hE
      · rename_i h4
        have := hA.out
        rw [h4, hn.out] at this
        simp at this
        omega
      · exact ⟨10, by omega, hE⟩
  obtain ⟨c, hc, rfl⟩ := hx
  have hb2 := hb1.trans (hE.1.mono hs1)
  clear hE henc haw
  go_wp2
  go_loop [6, 7] (fun a i => ∃ (k : Nat) (bb : Bool), k ≤ n ∧ i = .int .i64 k ∧ a = .bool bb ∧ Hid (bb = (decide (n ≤ 4194304) && (l.take k).all dom))) (fun _ i => n - (intOf i).toNat)
  case atStart => exact ⟨0, _, by omega, rfl, rfl, by show decide ((n : Int) ≤ 4194304) = (decide (n ≤ 4194304) && (l.take 0).all dom); simp; omega⟩
  case round =>
    obtain ⟨k, bb, hk, rfl, rfl, HR⟩ := hrel
    by_cases hlt : k < n
    · obtain ⟨ad', cap', he, _, _, h | ⟨b, off, rfl, hbN, hc⟩⟩ := hl.out
      · exact absurd h (by rw [← hn.out]; omega)
      · simp only [Value.slice.injEq] at he
        obtain ⟨rfl, -, rfl⟩ := he
        have hn' := hn.out
        have d0 := (hb2.cell (p := ⟨b, off + k, none⟩) hbN).trans (hc k (by omega))
        have hts := take_snocI l k (by omega)
        clear hn'
        generalize l.getD k 0 = r at d0 hts
        have HTS : Hid (l.take (k + 1) = l.take k ++ [r]) := hts
        clear hts hc
        have hdom := dom40 r w2
        generalize hdr : dom r = dr at hdom
        have HDR : Hid (dom r = dr) := hdr
        clear hdr
        cases bb
        · go_wp2_with (go_at_call 40; refine hdom.mono ?_; rintro e w' ⟨rfl, rfl⟩)
          go_round
          case rel => exact ⟨k + 1, false, by omega, by go_num, rfl, by show false = (decide (n ≤ 4194304) && (l.take (k + 1)).all dom); rw [HTS.out, List.all_append, ← Bool.and_assoc, ← HR.out]; simp⟩
          case measure => simp [intOf]; omega
        · go_wp2_with (go_at_call 40; refine hdom.mono ?_; rintro e w' ⟨rfl, rfl⟩)
          go_round
          case rel => exact ⟨k + 1, dr, by omega, by go_num, rfl, by show dr = (decide (n ≤ 4194304) && (l.take (k + 1)).all dom); rw [HTS.out, List.all_append, ← Bool.and_assoc, ← HR.out]; simp [HDR.out]⟩
          case measure => simp [intOf]; omega
    · obtain rfl : k = n := by omega
      have hbb : bb = false := by
        have := HR.out
        rw [List.take_of_length_le (by rw [← hn.out]; exact Nat.le_refl _), hA.out] at this
        exact this
      subst hbb
      clear HR
      have hc0 : (c == 0) = false := by simp; omega
      have hc1 : (c != 0) = true := by simp; omega
      go_wp2
      go_ret
      exact ⟨rfl, hb2⟩
theorem own_cap {w : World} {B e size g n cap : Nat} {xs : List Value} (h : w.ownsRow B e size (.slice (some ⟨g, 0, none⟩) n cap) n xs) : n ≤ cap ∧ cap ≤ 9223372036854775807 := by
  rcases h.2 with ⟨h', _⟩ | ⟨g', cap', cur, h', hb, hg, hnc, hcm, _⟩
  · simp at h'
  · simp only [Value.slice.injEq] at h'
    obtain ⟨_, _, rfl⟩ := h'
    unfold maxLen at hcm
    exact ⟨hnc, hcm⟩
theorem bytes_own {w : World} {B g n cap : Nat} {l : List Int} (h : w.ownsRow B 5 1 (.slice (some ⟨g, 0, none⟩) n cap) n (U8 l)) (hn : l.length = n) : Bytes w g 0 l := by
  intro k hk
  rw [Nat.zero_add, h.cellAt k (by omega)]
  simp [hk]
theorem all_dom_at (l : List Int) (k : Nat) (h : k < l.length) (ha : l.all dom = true) : dom (l.getD k 0) = true := by
  have e : l.getD k 0 = l[k] := by simp [h]
  rw [e]
  exact (List.all_eq_true.1 ha) _ (List.getElem_mem h)
theorem str_slice (w : World) (b off n cap : Nat) (zs : List Int) (hl : zs.length = n) (hc : ∀ k, k < n → w.cell? ⟨b, off + k, none⟩ = some (.int .u8 (zs.getD k 0))) :
    (convert 25 9 (.slice (some ⟨b, off, none⟩) n cap)).run Tryd.prog w = .ok (.string (strOfNums zs)) w :=
  run_convert_bytes_arg (P := Tryd.prog) w 25 5 Tryd.underlying25 Tryd.underlying5 b off n cap zs hl hc 9 Tryd.underlying9
set_option maxHeartbeats 2000000 in
set_option maxRecDepth 1000000 in
theorem back_good (l : List Int) (ad : Option Addr) (n cap : Nat) (w : World) (hn : Hid (n = l.length)) (hl : Hid (IntsAt w.heap.size w (.slice ad n cap) l)) (hT : Hid (Tabs w)) (h2 : 2 ≤ w.heap.size) (hsh : n ≤ 4194304)
    (hA : Hid (l.all dom = true)) :
    Calls Tryd.prog 7 #[.slice ad n cap] w fun e w' => e = .returned (.bool true) ∧ Below w.heap.size w w' := by
  have haw := awake9 w hT h2
  go_enter Tryd.func7, Tryd.ntmps7
  go_wp2_with (go_at_call 9; refine haw.mono ?_; rintro e w1 ⟨rfl, hb1⟩)
  have hs1 := hb1.size
  have henc := encode19 l ad n cap w1 hn.out (hl.out.below hb1 (Nat.le_refl _) hs1) (hT.out.below hb1 h2) (by omega)
  refine henc.mono ?_
  intro e w2 hE
  obtain ⟨hbE, hE⟩ := hE
  rw [if_neg (by rw [← hn.out]; omega), if_pos hA.out] at hE
  obtain ⟨g, cp, rfl, ho2⟩ := hE
  have hb2 := hb1.trans (hbE.mono hs1)
  have hs2 := hb2.size
  have hm4 := encL_len l
  rw [← hn.out] at hm4
  generalize hm : (encL l).length = m at ho2 hm4 ⊢
  have HM : Hid ((encL l).length = m) := hm
  clear hm hbE henc haw
  have hglt : g < w2.heap.size := (ho2.lt _ rfl).2
  have hgcap : m ≤ cp ∧ cp ≤ 9223372036854775807 := own_cap ho2
  go_wp2
  go_loop [6, 7] (fun a i => ∃ (k : Nat), k ≤ n ∧ i = .int .i64 k ∧ a = .bool true) (fun _ i => n - (intOf i).toNat)
  case atStart => exact ⟨0, by omega, rfl, by simp; omega⟩
  case round =>
    obtain ⟨k, hk, rfl, rfl⟩ := hrel
    by_cases hlt : k < n
    · obtain ⟨ad', cap', he, _, _, h | ⟨b, off, rfl, hbN, hc⟩⟩ := hl.out
      · exact absurd h (by rw [← hn.out]; omega)
      · simp only [Value.slice.injEq] at he
        obtain ⟨rfl, -, rfl⟩ := he
        have hn' := hn.out
        have d0 := (hb2.cell (p := ⟨b, off + k, none⟩) hbN).trans (hc k (by omega))
        have hdr := all_dom_at l k (by omega) hA.out
        clear hn'
        generalize l.getD k 0 = r at d0 hdr
        clear hc
        have hdom := dom40 r w2
        rw [hdr] at hdom
        clear hdr
        go_wp2_with (go_at_call 40; refine hdom.mono ?_; rintro e w' ⟨rfl, rfl⟩)
        go_round
        case rel => exact ⟨k + 1, by omega, by go_num, rfl⟩
        case measure => simp [intOf]; omega
    · obtain rfl : k = n := by omega
      have hbytes : Bytes w2 g 0 (encL l) := bytes_own ho2 HM.out
      have hcut := cut_any (encL l) g 0 cp m w2 HM.out.symm (by omega) hgcap.1 hgcap.2 (hT.out.below hb2 h2) hbytes (encL_bytes l hA.out) hglt (by omega)
      have hclen : (cut (encL l)).length = k := by rw [cut_enc l hA.out, pf_len, ← hn.out]
      have hpl := places_at l hA.out m HM.out.symm
      rw [hclen] at hcut
      rw [← hn.out] at hpl
      have hrun : runesOf (cut (encL l)) = l := by rw [cut_enc l hA.out, pf_runes]
      rw [hrun] at hcut
      generalize placesOf (cut (encL l)) ++ [(m : Int)] = PL at hcut hpl
      clear hclen hrun
      go_wp2_with (go_at_call 13; refine hcut.mono ?_; rintro e w3 ⟨g2, hg2, rfl, hr3, hp3, hb3⟩)
      have hs3 := hb3.size
      have hbw3 := hb2.trans (hb3.mono hs2)
      have pc : ∀ i, i ≤ k → w3.cell? ⟨g2, i, none⟩ = some (.int .i64 ((encL (l.take i)).length : Nat)) := fun i hi => by
        rw [hp3.cellAt i (by omega), List.getElem?_map, hpl i hi]; rfl
      have hg2lt : g2 < w3.heap.size := (hp3.lt _ rfl).2
      have hsame := same17 l l _ _ w3 (ints_own hn.out hr3) (hl.out.below hbw3 (Nat.le_refl _) (Nat.le_refl _)).c (by rw [← hn.out]; omega) (by rw [← hn.out]; omega)
      rw [show decide (l = l) = true by simp] at hsame
      refine hsame.mono ?_
      rintro e w4 ⟨rfl, q4, rfl⟩
      have pc0 : w3.cell? ⟨g2, 0, none⟩ = some (.int .i64 0) := by rw [pc 0 (by omega)]; rfl
      have pck : w3.cell? ⟨g2, k, none⟩ = some (.int .i64 (m : Int)) := by
        rw [pc k (Nat.le_refl _), List.take_of_length_le (by rw [← hn.out]; exact Nat.le_refl _), HM.out]
      have hbyt3 : Bytes w3 g 0 (encL l) := hbytes.below hb3 hglt
      have hT3 : Tabs w3 := hT.out.below hbw3 h2
      have HPC : Hid (∀ i, i ≤ k → w3.cell? ⟨g2, i, none⟩ = some (.int .i64 ((encL (l.take i)).length : Nat))) := pc
      have HB3 : Hid (Bytes w3 g 0 (encL l)) := hbyt3
      have HT3 : Hid (Tabs w3) := hT3
      have HI3 : Hid (IntsAt w3.heap.size w3 (.slice ad k cap) l) := hl.out.below hbw3 (Nat.le_refl _) (by omega)
      clear hcut hbytes hsame pc hbyt3 hT3 hr3 hp3 hpl ho2
      have hgl3 : g < w3.heap.size := by omega
      go_wp2
      clear pc0 pck
      go_loopw [12] (fun c wr => ∃ (i : Nat), i ≤ k ∧ c = .int .i64 i ∧ Below w3.heap.size w3 wr) (fun c _ => k - (intOf c).toNat)
      case atStart => exact ⟨0, by omega, rfl, below_drewN (Below.refl _ _) _⟩
      case round =>
        obtain ⟨i, hi, rfl, hbw⟩ := hrel
        have hsw := hbw.size
        by_cases hlt2 : i < k
        · obtain ⟨ad', cap', he, hcc1, hcc2, h | ⟨b, off, rfl, hbN, hc⟩⟩ := HI3.out
          · exact absurd h (by rw [← hn.out]; omega)
          · simp only [Value.slice.injEq] at he
            obtain ⟨rfl, -, rfl⟩ := he
            have hn' := hn.out
            have d0 := (hbw.cell (p := ⟨b, off + i, none⟩) hbN).trans (hc i (by omega))
            have hdx := all_dom_at l i (by omega) hA.out
            have hde := drop_enc l i (by omega)
            have hls := len_step l i (by omega)
            have hle := len_le l (i + 1)
            rw [HM.out] at hle
            have e0 := (hbw.cell (p := ⟨g2, i, none⟩) hg2lt).trans (HPC.out i (by omega))
            have e1 := (hbw.cell (p := ⟨g2, i + 1, none⟩) hg2lt).trans (HPC.out (i + 1) (by omega))
            generalize hp0 : (encL (l.take i)).length = p0 at *
            generalize hp1 : (encL (l.take (i + 1))).length = p1 at *
            generalize hx : l.getD i 0 = x at *
            have hel := enc_len x
            have hone : ∀ k', k' < [x].length → wr.cell? ⟨b, off + i + k', none⟩ = some (.int .i64 ([x].getD k' 0)) := by
              intro k' hk'
              obtain rfl : k' = 0 := by simp at hk'; omega
              exact d0
            have hints : IntsAt wr.heap.size wr (.slice (some ⟨b, off + i, none⟩) 1 (cap - i)) [x] := ⟨_, _, rfl, by simp; omega, by omega, .inr ⟨b, off + i, rfl, by omega, hone⟩⟩
            have henc := encode19 [x] (some ⟨b, off + i, none⟩) 1 (cap - i) wr rfl hints (HT3.out.below hbw (by omega)) (by omega)
            have hencl : encL [x] = enc x := by simp [encL]
            have hdec := dec_enc x (encL (l.drop (i + 1))) hdx
            rw [← hde] at hdec
            have hic : i + 1 ≤ cap := by omega
            clear hp0 hp1 hx hn' hc hcc1 hone hints
            go_wp2_with fail
            refine henc.mono ?_
            intro e w5 hE
            obtain ⟨hbE, hE⟩ := hE
            rw [if_neg (by simp), if_pos (by simp [hdx]), hencl] at hE
            obtain ⟨g5, cp5, rfl, ho5⟩ := hE
            have hbw5 := hbw.trans (hbE.mono hsw)
            have hs5 := hbw5.size
            have d5 := (hbw5.cell (p := ⟨b, off + i, none⟩) hbN).trans ((hbw.cell (p := ⟨b, off + i, none⟩) hbN).symm.trans d0)
            have f0 := (hbw5.cell (p := ⟨g2, i, none⟩) hg2lt).trans ((hbw.cell (p := ⟨g2, i, none⟩) hg2lt).symm.trans e0)
            have f1 := (hbw5.cell (p := ⟨g2, i + 1, none⟩) hg2lt).trans ((hbw.cell (p := ⟨g2, i + 1, none⟩) hg2lt).symm.trans e1)
            have hB5 : Bytes w5 g 0 (encL l) := HB3.out.below hbw5 hgl3
            have hS1 : ∀ q, (convert 25 9 (.slice (some ⟨g5, 0, none⟩) (enc x).length cp5)).run Tryd.prog (w5.drewN q) = .ok (.string (strOfNums (enc x))) (w5.drewN q) := fun q => str_slice (w5.drewN q) g5 0 _ cp5 (enc x) rfl (fun k' hk' => bytes_own ho5 rfl k' hk')
            have hS2 : ∀ q, (convert 25 9 (.slice (some ⟨g, p0, none⟩) (p1 - p0) (cp - p0))).run Tryd.prog (w5.drewN q) = .ok (.string (strOfNums (enc x))) (w5.drewN q) := fun q => str_slice (w5.drewN q) g p0 _ (cp - p0) (enc x) (by omega) (fun k' hk' => by
              have h7 := hB5.drop p0 k' (by rw [hde, List.length_append]; omega)
              rw [Nat.zero_add, hde] at h7
              refine Eq.trans h7 ?_
              simp [List.getD_eq_getElem?_getD, List.getElem?_append_left (show k' < (enc x).length by omega)])
            have hdecc := decode_any ((encL l).drop p0) (by rw [hde]; intro h8; have h9 := (List.append_eq_nil_iff.1 h8).1; rw [h9] at hel; simp at hel) g (0 + p0) (cp - p0) (m - p0) w5 (by rw [List.length_drop, HM.out]) (by omega) (by omega) (by omega) (HT3.out.below hbw5 (by omega)) (hB5.drop p0) ((encL_bytes l hA.out).drop p0)
            rw [hdec] at hdecc
            simp only [Nat.zero_add] at hdecc
            generalize strOfNums (enc x) = S at hS1 hS2
            have hln : p1 = p0 + (enc x).length := hls
            have hln1 : p0 + (enc x).length ≤ p1 := by omega
            have hln2 : p1 ≤ p0 + (enc x).length := by omega
            generalize (enc x).length = ln at *
            clear hln hls hde hencl hdx hdec henc hB5 ho5 d0 e0 e1
            have hbE2 : Below w.heap.size w w5 := hbw3.trans (hbw5.mono (by omega))
            have hI0 : (0 : Int) ≤ (i : Int) + 1 := by omega
            have hI1 : (i : Int) + 1 < (k : Int) + 1 := by omega
            have hI2 : (i : Int) < (k : Int) + 1 := by omega
            have hI3 : (0 : Int) ≤ (i : Int) := by omega
            have hI4 : (i : Int) + 1 < ((k + 1 : Nat) : Int) := by omega
            have hI5 : (i : Int) < ((k + 1 : Nat) : Int) := by omega
            have hI6 : ((i : Int) + 1).toNat = i + 1 := by omega
            have hP0 : (0 : Int) ≤ (p0 : Int) := by omega
            have hgd1 : ((ln : Int) == (p1 : Int) - (p0 : Int)) = true := by simp; omega
            have hgd2 : ((ln : Int) != (p1 : Int) - (p0 : Int)) = false := by simp; omega
            have hgd3 : decide ((ln : Int) = (p1 : Int) - (p0 : Int)) = true := by simp; omega
            have hP1 : (p0 : Int) ≤ (p1 : Int) := by omega
            have hP2 : (p1 : Int) ≤ (cp : Int) := by omega
            go_wp2_with (go_at_call 12; refine hdecc.mono ?_; rintro e w6 ⟨rfl, q6, rfl⟩)
            go_quiet (fail)
            go_wp2
            go_roundw
            case rel => exact ⟨i + 1, by omega, by go_num, below_drewN hbw5 _⟩
            case measure => simp [intOf]; omega
        · clear HPC HB3
          go_wp2
          go_ret
          exact ⟨rfl, hbw3.trans (hbw.mono (by omega))⟩
end Go.Proofs.YtjglehklfdhgaaaDoor
