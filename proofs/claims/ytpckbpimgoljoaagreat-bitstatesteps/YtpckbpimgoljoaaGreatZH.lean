/- HELPERS: Run of layer 12 of any program, text and place. -/
import Derived.Test.YtpckbpimgoljoaaGreatZBo
import Derived.Test.YtpckbpimgoljoaaGreatZE
import Derived.Test.YtpckbpimgoljoaaGreatK7
import Derived.Deep.RegionHeld2
/- HELPERS: the search, from beginning to beginning. -/
namespace Go.Proofs.YtpckbpimgoljoaaGreat
open Go.RowKit Go.Lk
set_option linter.unusedVariables false
set_option linter.unusedSimpArgs false
theorem bgs_anch (P : Pr) (a : Nat) : ∀ (m j : Nat), a < j → bgs P a true none m j = []
  | 0, _, _ => rfl
  | m + 1, j, h => by
    have hn : ¬ bgB a true j none = true := by simp [bgB]; omega
    simp only [bgs]
    rw [if_neg hn, bgs_anch P a m (j + 1) (by omega)]
    rfl
/-- the place up to which there are beginnings -/
def lastP (anch : Bool) (a tn : Nat) : Nat := if anch = true then a else tn
theorem bgs_in (P : Pr) {a tn j : Nat} {anch : Bool} (ha : a ≤ j) (hj : j ≤ lastP anch a tn) (hat : a ≤ tn) : bgs P a anch none (tn + 1 - j) j = (P.S, j, List.replicate P.K (-1)) :: bgs P a anch none (tn + 1 - (j + 1)) (j + 1) := by
  have hjt : j ≤ tn := by unfold lastP at hj; split at hj <;> omega
  rw [show tn + 1 - j = (tn + 1 - (j + 1)) + 1 by omega]
  simp only [bgs]
  rw [if_pos]
  · rfl
  · unfold lastP at hj
    cases anch
    · simp [bgB]
    · simp at hj; simp [bgB]; omega
theorem bgs_out (P : Pr) {a tn j : Nat} {anch : Bool} (ha : a ≤ j) (hj : lastP anch a tn < j) : bgs P a anch none (tn + 1 - j) j = [] := by
  unfold lastP at hj
  cases anch
  · simp at hj
    rw [show tn + 1 - j = 0 by omega]
    rfl
  · simp at hj
    exact bgs_anch P a _ _ hj
/-- between two beginnings -/
def BR (w0 w : World) (B b : Nat) (l : List In) (tx : List Int) (C : Bk) (anch : Bool) (r : Fd) (m' : List Pt) (p : Nat) : Prop :=
  ∃ V st m cp W, BI w B b l tx C V st m cp W ∧ V.fs = m.length ∧ Below B w0 w ∧
    ((st = [] ∧ cp = List.replicate C.K (-1) ∧ NF V ∧ Da (act l tx) m (bgs (prOf l tx C.S C.K) C.a anch none (C.tn + 1 - p) p) m' r) ∨ (m = m' ∧ ∃ y, r = some y ∧ BF C V st (List.replicate C.K (-1)) cp r))
set_option maxRecDepth 100000 in
set_option maxHeartbeats 16000000 in
theorem run22 {w : World} {B b : Nat} {l : List In} {tx : List Int} {C : Bk} {V : Bv} {anch : Bool} {r : Fd} {m' : List Pt} (h : BI w B b l tx C V [] [] (List.replicate C.K (-1)) []) (hc : BC l tx C) (hfs : V.fs = 0) (hnf : NF V) (hd : Da (act l tx) [] (bgs (prOf l tx C.S C.K) C.a anch none (C.tn + 1 - C.a) C.a) m' r) :
    Calls Tryz.prog 22 #[.pointer (some ⟨b, 0, none⟩), .int .i64 (C.a : Int), .bool anch] w fun e w' => e = .returned (.tuple #[]) ∧ ∃ V' st cp' W', BI w' B b l tx C V' st m' cp' W' ∧ V'.fs = m'.length ∧ BF C V' st (List.replicate C.K (-1)) cp' r ∧ Below B w w' := by
  have hat := hc.at_
  have htl := hc.tl
  have HBC := hid hc
  have c3 := h.mb.c 3
  simp at c3
  have HBR : Hid (BR w w B b l tx C anch r m' C.a) := ⟨V, [], [], _, [], h, hfs, Below.refl _ _, .inl ⟨rfl, rfl, hnf, hd⟩⟩
  obtain ⟨L, hL⟩ : ∃ L, L = lastP anch C.a C.tn := ⟨_, rfl⟩
  have HL := hid hL
  have hLt : L ≤ C.tn := by rw [hL]; unfold lastP; split <;> omega
  have HBG : Hid (∀ (V : Bv) m W (w : World) (p : Nat) (r1 : Fd) (m1 : List Pt), BI w B b l tx C V [] m (List.replicate C.K (-1)) W → V.fs = m.length → NF V → C.a ≤ p → p ≤ C.tn → Df (act l tx) m C.S p (List.replicate C.K (-1)) m1 r1 → Calls Tryz.prog 33 #[.pointer (some ⟨b, 0, none⟩), .int .i64 (p : Int)] w fun e w' => e = .returned (.tuple #[]) ∧ ∃ V' st cp' W', BI w' B b l tx C V' st m1 cp' W' ∧ V'.fs = m1.length ∧ BF C V' st (List.replicate C.K (-1)) cp' r1 ∧ Below B w w') := fun V m W w p r1 m1 h hf hn ha hp hdf => by
    obtain ⟨N, hev⟩ := df_ev1 hdf
    exact begin30 h hc hf hn ha hp hev
  clear h hc hfs hnf hd
  go_enter Tryz.func22, Tryz.ntmps22
  have hcase : (anch = true ∧ L = C.a) ∨ (anch = false ∧ L = C.tn) := by
    rw [hL]; unfold lastP
    cases anch <;> simp
  clear hL
  rcases hcase with ⟨rfl, rfl⟩ | ⟨rfl, rfl⟩
  all_goals go_wp2_with fail
  · clear c3
    go_loopw [7] (fun s7 wr => ∃ p : Nat, s7 = .int .i64 (p : Int) ∧ C.a ≤ p ∧ p ≤ C.tn + 1 ∧ Hid (BR w wr B b l tx C true r m' p)) (fun s7 _ => C.tn + 1 - (intOf s7).toNat)
    case atStart => exact ⟨C.a, rfl, Nat.le_refl _, by omega, HBR⟩
    case round =>
      clear HBR
      obtain ⟨p, rfl, hap, hpt, HBR⟩ := hrel
      obtain ⟨V1, st, m1, cp1, W1, hbi, hfs, hbw, hcs⟩ := HBR.out
      clear HBR
      have HBI := hid hbi
      have HFS := hid hfs
      have HBW := hid hbw
      have c10 := hbi.mb.c 10
      simp at c10
      by_cases hpl : p ≤ C.a
      · have b1 : decide ((p : Int) ≤ (C.a : Int)) = true := by simp; omega
        have b1' : (p : Int) ≤ (C.a : Int) := by omega
        rcases hcs with ⟨rfl, rfl, hnf, hda⟩ | ⟨rfl, y, rfl, hbf⟩
        · rw [hnf.1] at c10
          rw [bgs_in _ hap (by rw [← HL.out]; exact hpl) hat] at hda
          have ap : IntKind.i64.wrap ((p : Int) + 1) = ((p + 1 : Nat) : Int) := by rw [wrap_ok _ (by omega) (by omega)]; omega
          cases hda with
          | hit _ _ _ _ _ _ z hdf =>
            have HB := HBG.out _ _ _ _ p _ _ hbi hfs hnf hap (by omega) hdf
            clear hbi hfs hbw hnf hdf HBG
            go_wp2_with (go_at_call 33; (with_reducible refine HB.mono ?_); rintro e w2 ⟨rfl, V2, st2, cp2, W2, hb2, hf2, hbf2, hbw2⟩; have HB2 := hid hb2; have HF2 := hid hf2; have HBF2 := hid hbf2; have HBW2 := hid hbw2; clear hb2 hf2 hbf2 hbw2 HB)
            refine ⟨⟨p + 1, rfl, by omega, by omega, _, _, _, _, _, HB2.out, HF2.out, HBW.out.trans HBW2.out, .inr ⟨rfl, _, rfl, HBF2.out⟩⟩, by simp [intOf]; omega⟩
          | miss _ _ _ _ _ m2 _ _ hdf hda =>
            have HB := HBG.out _ _ _ _ p _ _ hbi hfs hnf hap (by omega) hdf
            have HDA := hid hda
            clear hbi hfs hbw hnf hdf HBG hda
            go_wp2_with (go_at_call 33; (with_reducible refine HB.mono ?_); rintro e w2 ⟨rfl, V2, st2, cp2, W2, hb2, hf2, hbf2, hbw2⟩; have HB2 := hid hb2; have HF2 := hid hf2; have HBF2 := hid hbf2; have HBW2 := hid hbw2; clear hb2 hf2 hbf2 hbw2 HB)
            refine ⟨⟨p + 1, rfl, by omega, by omega, _, _, _, _, _, HB2.out, HF2.out, HBW.out.trans HBW2.out, .inl ⟨HBF2.out.1, HBF2.out.2.1, HBF2.out.2.2, HDA.out⟩⟩, by simp [intOf]; omega⟩
        · rw [hbf.1] at c10
          have HBF := hid hbf
          clear hbi hfs hbw hbf HBG
          go_wp2
          go_end0
          exact ⟨rfl, _, _, _, _, HBI.out, HFS.out, HBF.out, HBW.out⟩
      · have b1 : decide ((p : Int) ≤ (C.a : Int)) = false := by simp; omega
        have b1' : ¬ ((p : Int) ≤ (C.a : Int)) := by omega
        have hres : m1 = m' ∧ BF C V1 st (List.replicate C.K (-1)) cp1 r := by
          rcases hcs with ⟨rfl, rfl, hnf, hda⟩ | ⟨rfl, y, rfl, hbf⟩
          · rw [bgs_out _ hap (by rw [← HL.out]; omega)] at hda
            cases hda with
            | nil => exact ⟨rfl, rfl, rfl, hnf⟩
          · exact ⟨rfl, hbf⟩
        obtain ⟨rfl, hbf⟩ := hres
        have HBF := hid hbf
        clear hbi hfs hbw hcs hbf HBG c10
        go_wp2
        go_end0
        first | exact ⟨rfl, V1, st, cp1, W1, HBI.out, HFS.out, HBF.out, HBW.out⟩ | exact ⟨rfl, V1, st, cp1, ⟨W1, HBI.out⟩, HFS.out, HBF.out, HBW.out⟩ | exact ⟨rfl, ⟨V1, st, cp1, ⟨W1, HBI.out⟩, HFS.out, HBF.out⟩, HBW.out⟩
  · clear c3
    go_loopw [7] (fun s7 wr => ∃ p : Nat, s7 = .int .i64 (p : Int) ∧ C.a ≤ p ∧ p ≤ C.tn + 1 ∧ Hid (BR w wr B b l tx C false r m' p)) (fun s7 _ => C.tn + 1 - (intOf s7).toNat)
    case atStart => exact ⟨C.a, rfl, Nat.le_refl _, by omega, HBR⟩
    case round =>
      clear HBR
      obtain ⟨p, rfl, hap, hpt, HBR⟩ := hrel
      obtain ⟨V1, st, m1, cp1, W1, hbi, hfs, hbw, hcs⟩ := HBR.out
      clear HBR
      have HBI := hid hbi
      have HFS := hid hfs
      have HBW := hid hbw
      have c10 := hbi.mb.c 10
      simp at c10
      by_cases hpl : p ≤ C.tn
      · have b1 : decide ((p : Int) ≤ (C.tn : Int)) = true := by simp; omega
        have b1' : (p : Int) ≤ (C.tn : Int) := by omega
        rcases hcs with ⟨rfl, rfl, hnf, hda⟩ | ⟨rfl, y, rfl, hbf⟩
        · rw [hnf.1] at c10
          rw [bgs_in _ hap (by rw [← HL.out]; exact hpl) hat] at hda
          have ap : IntKind.i64.wrap ((p : Int) + 1) = ((p + 1 : Nat) : Int) := by rw [wrap_ok _ (by omega) (by omega)]; omega
          cases hda with
          | hit _ _ _ _ _ _ z hdf =>
            have HB := HBG.out _ _ _ _ p _ _ hbi hfs hnf hap (by omega) hdf
            clear hbi hfs hbw hnf hdf HBG
            go_wp2_with (go_at_call 33; (with_reducible refine HB.mono ?_); rintro e w2 ⟨rfl, V2, st2, cp2, W2, hb2, hf2, hbf2, hbw2⟩; have HB2 := hid hb2; have HF2 := hid hf2; have HBF2 := hid hbf2; have HBW2 := hid hbw2; clear hb2 hf2 hbf2 hbw2 HB)
            refine ⟨⟨p + 1, rfl, by omega, by omega, _, _, _, _, _, HB2.out, HF2.out, HBW.out.trans HBW2.out, .inr ⟨rfl, _, rfl, HBF2.out⟩⟩, by simp [intOf]; omega⟩
          | miss _ _ _ _ _ m2 _ _ hdf hda =>
            have HB := HBG.out _ _ _ _ p _ _ hbi hfs hnf hap (by omega) hdf
            have HDA := hid hda
            clear hbi hfs hbw hnf hdf HBG hda
            go_wp2_with (go_at_call 33; (with_reducible refine HB.mono ?_); rintro e w2 ⟨rfl, V2, st2, cp2, W2, hb2, hf2, hbf2, hbw2⟩; have HB2 := hid hb2; have HF2 := hid hf2; have HBF2 := hid hbf2; have HBW2 := hid hbw2; clear hb2 hf2 hbf2 hbw2 HB)
            refine ⟨⟨p + 1, rfl, by omega, by omega, _, _, _, _, _, HB2.out, HF2.out, HBW.out.trans HBW2.out, .inl ⟨HBF2.out.1, HBF2.out.2.1, HBF2.out.2.2, HDA.out⟩⟩, by simp [intOf]; omega⟩
        · rw [hbf.1] at c10
          have HBF := hid hbf
          clear hbi hfs hbw hbf HBG
          go_wp2
          go_end0
          exact ⟨rfl, _, _, _, _, HBI.out, HFS.out, HBF.out, HBW.out⟩
      · have b1 : decide ((p : Int) ≤ (C.tn : Int)) = false := by simp; omega
        have b1' : ¬ ((p : Int) ≤ (C.tn : Int)) := by omega
        have hres : m1 = m' ∧ BF C V1 st (List.replicate C.K (-1)) cp1 r := by
          rcases hcs with ⟨rfl, rfl, hnf, hda⟩ | ⟨rfl, y, rfl, hbf⟩
          · rw [bgs_out _ hap (by rw [← HL.out]; omega)] at hda
            cases hda with
            | nil => exact ⟨rfl, rfl, rfl, hnf⟩
          · exact ⟨rfl, hbf⟩
        obtain ⟨rfl, hbf⟩ := hres
        have HBF := hid hbf
        clear hbi hfs hbw hcs hbf HBG c10
        go_wp2
        go_end0
        first | exact ⟨rfl, V1, st, cp1, W1, HBI.out, HFS.out, HBF.out, HBW.out⟩ | exact ⟨rfl, V1, st, cp1, ⟨W1, HBI.out⟩, HFS.out, HBF.out, HBW.out⟩ | exact ⟨rfl, ⟨V1, st, cp1, ⟨W1, HBI.out⟩, HFS.out, HBF.out⟩, HBW.out⟩
end Go.Proofs.YtpckbpimgoljoaaGreat
/- HELPERS: a thread is put where there is no room yet. -/
namespace Go.Proofs.YtpckbpimgoljoaaGreat
open Go.RowKit Go.Lk
set_option linter.unusedVariables false
set_option linter.unusedSimpArgs false
theorem Eqw.alloc {w w' : World} (h : Eqw w w') (o : Obj) : Eqw (w.alloc o) (w'.alloc o) := ⟨by show w'.heap.push o = w.heap.push o; rw [h.heap], h.os, h.tape, h.output⟩
end Go.Proofs.YtpckbpimgoljoaaGreat
/- HELPERS: what a visit finds in memory. -/
namespace Go.Proofs.YtpckbpimgoljoaaGreat
open Go.RowKit Go.Lk
set_option linter.unusedVariables false
set_option linter.unusedSimpArgs false
theorem FD.kept {w w' : World} {N K : Nat} {M : Mv} {fb : List Nat} {fd : Fd} (h : FD w N K M fb fd) (hk : ∀ k ∈ fb, w'.heap[k]? = w.heap[k]?) : FD w' N K M fb fd := by
  cases fd with
  | none => exact h
  | some y =>
    obtain ⟨g, h1, h2, h3, h4, h5, h6, h7⟩ := h
    exact ⟨g, h1, h2, h3, h4, h5, h6, row_kept h7 (fun k hk' => hk k (by simp [Value.ownBlock] at hk'; subst hk'; simp [h6]))⟩
theorem FD.low {w : World} {N K : Nat} {M : Mv} {fb : List Nat} {fd : Fd} (h : FD w N K M fb fd) : ∀ k ∈ fb, N ≤ k ∧ k < w.heap.size := by
  cases fd with
  | none => obtain ⟨_, _, _, _, _, h⟩ := h; rw [h]; simp
  | some y =>
    obtain ⟨g, h1, h2, h3, h4, h5, h6, h7⟩ := h
    rw [h6]
    intro k hk
    simp at hk
    subst hk
    exact h7.lt _ rfl
theorem FD.ok {w : World} {N K : Nat} {M : Mv} {fb : List Nat} {fd : Fd} (h : FD w N K M fb fd) : M.fok = fd.isSome := by
  cases fd with
  | none => exact h.1
  | some y => obtain ⟨g, h1, _⟩ := h; exact h1
section
variable {w w' : World} {N b : Nat} {l : List In} {tx : List Int} {M : Mv} {s : Vst} {E : List En} {sF fb : List Nat}
end
end Go.Proofs.YtpckbpimgoljoaaGreat
/- HELPERS: a visit in memory. -/
namespace Go.Proofs.YtpckbpimgoljoaaGreat
open Go.RowKit Go.Lk
set_option linter.unusedVariables false
set_option linter.unusedSimpArgs false
section
variable {K N b : Nat} {l : List In} {tx : List Int} {w w' : World} {M M' : Mv} {s s' : Vst} {E E' : List En} {sF fb sF' fb' : List Nat} {i : Nat} {c : List Int} {cb cp : Nat}
end
end Go.Proofs.YtpckbpimgoljoaaGreat
/- HELPERS: a visit in memory: captures. -/
namespace Go.Proofs.YtpckbpimgoljoaaGreat
open Go.RowKit Go.Lk
set_option linter.unusedVariables false
set_option linter.unusedSimpArgs false
end Go.Proofs.YtpckbpimgoljoaaGreat
/- HELPERS: a visit in memory, by the instruction's operation. -/
namespace Go.Proofs.YtpckbpimgoljoaaGreat
open Go.RowKit Go.Lk
set_option linter.unusedVariables false
set_option linter.unusedSimpArgs false
end Go.Proofs.YtpckbpimgoljoaaGreat
/- HELPERS: all threads of a row visited. -/
namespace Go.Proofs.YtpckbpimgoljoaaGreat
open Go.RowKit Go.Lk
set_option linter.unusedVariables false
set_option linter.unusedSimpArgs false
end Go.Proofs.YtpckbpimgoljoaaGreat
/- HELPERS: the machine from place to place. -/
namespace Go.Proofs.YtpckbpimgoljoaaGreat
open Go.RowKit Go.Lk
set_option linter.unusedVariables false
set_option linter.unusedSimpArgs false
end Go.Proofs.YtpckbpimgoljoaaGreat
/- HELPERS: the machine's run. -/
namespace Go.Proofs.YtpckbpimgoljoaaGreat
open Go.RowKit Go.Lk
set_option linter.unusedVariables false
set_option linter.unusedSimpArgs false
end Go.Proofs.YtpckbpimgoljoaaGreat
/- HELPERS: a new machine; Run. -/
namespace Go.Proofs.YtpckbpimgoljoaaGreat
open Go.RowKit Go.Lk
set_option linter.unusedVariables false
set_option linter.unusedSimpArgs false
theorem ri_row {nb c N : Nat} {W : World} (h : RI nb c c W) (hN : N ≤ nb) (hc : c ≤ 10000) : W.ownsRow N 3 1 (.slice (some ⟨nb, 0, none⟩) c c) c (I64 (List.replicate c (-1))) := by
  obtain ⟨arr, h1, h2, h3⟩ := h
  refine ⟨by simp, .inr ⟨nb, c, arr, rfl, hN, h1, Nat.le_refl _, by unfold maxLen; omega, by omega, ?_⟩⟩
  apply List.ext_getElem?
  intro k
  by_cases hk : k < c
  · rw [List.getElem?_take_of_lt (by omega)]
    have := h3 k hk
    simp only [I64, List.map_replicate, List.getElem?_replicate, hk, if_true]
    simpa using this
  · rw [List.getElem?_eq_none (by simp; omega), List.getElem?_eq_none (by simp; omega)]
def KW (U W : World) : Prop := Below U.heap.size U W
theorem kw0 (U : World) : KW U U := Below.refl _ _
theorem kw_drew {U W : World} (h : KW U W) : KW U W.drew := Below.trans h ((Eqw.drew W).below _)
theorem kw_alloc {U W : World} {o : Obj} (h : KW U W) : KW U (W.alloc o) := Below.trans h (Joins.below_le (Joins.below_alloc1 W o) h.size)
theorem kw_next {U W W' : World} (h : KW U W) (h2 : Below W.heap.size W W') : KW U W' := Below.trans h (Joins.below_le h2 h.size)
/-- what Run answers where it finds what it finds -/
def FR (K : Nat) (r : Fd × Nat) (w : World) (e : Ending) (w' : World) : Prop := Below w.heap.size w w' ∧ match r.1 with
  | none => e = .returned (.tuple #[.agg #[.bool false, .slice none 0 0, .int .i64 0, .int .i64 (r.2 : Int)], .int .i64 0])
  | some y => ∃ g, e = .returned (.tuple #[.agg #[.bool true, .slice (some ⟨g, 0, none⟩) K K, .int .i64 y.1, .int .i64 (r.2 : Int)], .int .i64 0]) ∧ w'.ownsRow w.heap.size 3 1 (.slice (some ⟨g, 0, none⟩) K K) K (I64 y.2)
/-- what Run answers where it is asked wrongly -/
def FE (c : Int) (w : World) (e : Ending) (w' : World) : Prop := Below w.heap.size w w' ∧ e = .returned (.tuple #[.agg #[.bool false, .slice none 0 0, .int .i64 0, .int .i64 0], .int .i64 c])
def errR (l : List In) (s k : Int) (n : Nat) (a : Int) : Int := if 4194304 < n then 2 else if mayB l s k = false then 90 else if a < 0 ∨ (n : Int) < a then 1 else 0
end Go.Proofs.YtpckbpimgoljoaaGreat
/- HELPERS: a new machine; is the map too big? -/
namespace Go.Proofs.YtpckbpimgoljoaaGreat
open Go.RowKit Go.Lk
set_option linter.unusedVariables false
set_option linter.unusedSimpArgs false
set_option maxHeartbeats 2000000 in
theorem tooBig20 (n q : Nat) (w : World) (hn : 0 < n) (hn2 : n ≤ 20000) (hq : q ≤ 5000000) : Calls Tryz.prog 20 #[.int .i64 (n : Int), .int .i64 (q : Int)] w fun e w' => e = .returned (.bool (decide (16777216 < n * q))) ∧ w' = w := by
  have e1 : decide (16777216 < n * q) = decide (16777216 / n < q) := by
    rw [Bool.eq_iff_iff]
    simp only [decide_eq_true_eq]
    rw [Nat.div_lt_iff_lt_mul hn, Nat.mul_comm n q]
  rw [e1]
  obtain ⟨d, hd⟩ : ∃ d, d = 16777216 / n := ⟨_, rfl⟩
  rw [← hd]
  have a1 : Int.tdiv 16777216 (n : Int) = (d : Int) := by rw [hd]; rfl
  have a2 : (16777216 : Int) / (n : Int) = (d : Int) := by rw [hd]; rfl
  have hd2 : d ≤ 16777216 := by rw [hd]; exact Nat.div_le_self _ _
  have n0 : (n : Int) ≠ 0 := by omega
  have n0' : ((n : Int) == 0) = false := by simp; omega
  clear hd e1
  go_enter Tryz.func20, Tryz.ntmps20
  go_wp2
  go_ret
  exact ⟨rfl, rfl⟩
def cst (ad : Option Addr) (n c S K : Nat) (tad : Option Addr) (tn tc ub a : Nat) : Bk := ⟨ad, n, c, S, K, tad, tn, tc, ub, a⟩
def var0 : Bv := ⟨none, 0, 0, none, 0, 0, 0, false, none, 0, 0, 0, 0⟩
set_option maxRecDepth 100000 in
set_option maxHeartbeats 8000000 in
theorem newMachine21 {w : World} {ad tad : Option Addr} {n c S K tn tc a : Nat} {l : List In} {tx : List Int} (hP : PI w w.heap.size ad n l) (hmay : mayB l (S : Int) (K : Int) = true) (hT : TextAt w.heap.size w tad tn tx) :
    Calls Tryz.prog 21 #[pv ad n c (S : Int) (K : Int), .slice tad tn tc, .int .i64 (a : Int)] w fun e w' => ∃ b ub, e = .returned (.pointer (some ⟨b, 0, none⟩)) ∧ BI w' w.heap.size b l tx (cst ad n c S K tad tn tc ub a) var0 [] [] (List.replicate K (-1)) [] ∧ Below w.heap.size w w' := by
  have hm := may_ok hmay
  obtain ⟨B, hB⟩ : ∃ B, B = w.heap.size := ⟨_, rfl⟩
  obtain ⟨U, hU⟩ : ∃ U, U = w.alloc (.cells #[.slice ad n c, .int .i64 (S : Int), .int .i64 (K : Int)] 28) := ⟨_, rfl⟩
  have hbU : Below w.heap.size w U := by rw [hU]; exact Joins.below_alloc1 w _
  have hX : U.heap[w.heap.size]? = some (.cells #[.slice ad n c, .int .i64 (S : Int), .int .i64 (K : Int)] 28 (0, 0)) := by rw [hU]; exact heap_alloc_new w _
  have hUs : w.heap.size < U.heap.size := (Array.getElem?_eq_some_iff.1 hX).1
  rw [← hB] at hbU hX hUs ⊢
  obtain ⟨c0, c1, c2⟩ := three_cells hX
  have HBU := hid hbU
  have HP := hid hP
  have HT := hid hT
  have HBE := hid hB
  have hK1 : 1 ≤ K ∧ K ≤ 1002 := by omega
  have HREP : Hid (∀ (xb : Nat) (W : World), W.cell? ⟨xb, 0, none⟩ = some (.int .i64 (-1)) → xb < W.heap.size → Calls Tryz.prog 32 #[.slice (some ⟨xb, 0, none⟩) 1 1, .int .i64 (K : Int)] W fun e w' => e = .returned (.slice (some ⟨W.heap.size, 0, none⟩) K K) ∧ Below W.heap.size W w' ∧ RI W.heap.size K K w') := fun xb W h1 h2 => repeat51g xb 1 K hK1.1 (by omega) W h1 h2
  clear hbU hX hP hT hm hmay
  go_enter Tryz.func21, Tryz.ntmps21
  go_upto_region 1 with fail
  rw [← hU, ← hB]
  clear hU hB
  have HKEEP : Hid (∀ W, KW U W → W.cell? ⟨B, 0, none⟩ = some (.slice ad n c) ∧ W.cell? ⟨B, 1, none⟩ = some (.int .i64 (S : Int)) ∧ W.cell? ⟨B, 2, none⟩ = some (.int .i64 (K : Int))) := fun W h => ⟨(cell_eq (h.block B hUs) 0).trans c0, (cell_eq (h.block B hUs) 1).trans c1, (cell_eq (h.block B hUs) 2).trans c2⟩
  go_region_held2 (fun w' => w'.cell? ⟨B, 0, none⟩ = some (.slice ad n c) ∧ w'.cell? ⟨B, 1, none⟩ = some (.int .i64 (S : Int)) ∧ w'.cell? ⟨B, 2, none⟩ = some (.int .i64 (K : Int)))
      (first | (refine HKEEP.out _ ?_; repeat (first | with_reducible exact kw0 U | with_reducible refine kw_drew ?_ | with_reducible refine kw_alloc ?_ | with_reducible refine kw_next ?_ HB3.out)))
      (first | (go_at_call 32; (with_reducible refine (HREP.out _ _ (by first | (simp; done)) (by first | (simp; done))).mono ?_); rintro e w3 ⟨rfl, hb3, hri⟩; have HB3 := hid hb3; have HRI := hid hri; clear hb3 hri))
  go_wp2
  go_ret
  have hri : RI (U.heap.size + 1) K K w3 := by have := HRI.out; simpa using this
  have hb3 : Below (U.heap.size + 1) (U.alloc (.cells #[.int .i64 (-1)] 3)).drew w3 := by have := HB3.out; simpa using this
  have hU3 : Below U.heap.size U w3 := (Joins.below_alloc1 U _).trans (((Eqw.drew _).below _).trans (Joins.below_le hb3 (by omega)))
  have hs3 := hU3.size
  have h4 : Below U.heap.size U (w3.alloc (.cells (bcs (cst ad n c S K tad tn tc (U.heap.size + 1) a) var0) 67)) := hU3.trans (Joins.below_le (Joins.below_alloc1 w3 _) hs3)
  have hbw : Below B w (w3.alloc (.cells (bcs (cst ad n c S K tad tn tc (U.heap.size + 1) a) var0) 67)) := HBU.out.trans (Joins.below_le h4 (by omega))
  have hPB := HP.out
  have hTB := HT.out
  rw [← HBE.out] at hPB hTB
  refine ⟨w3.heap.size, U.heap.size + 1, rfl, ⟨heap_alloc_new w3 _, by omega, hPB.kept hbw (Nat.le_refl _), hTB.below hbw, ?_, World.ownsRow_nil _ _ _ _, World.ownsRow_nil _ _ _ _, Bits.nil _ _ _, rfl, rfl, OkP.nil _ _ _, by simp, okCZ.rep _ _, by simp⟩, hbw⟩
  exact (ri_row (N := B) hri (by omega) (by omega)).alloc _
end Go.Proofs.YtpckbpimgoljoaaGreat
/- HELPERS: Run, asked wrongly; Run whole. -/
namespace Go.Proofs.YtpckbpimgoljoaaGreat
open Go.RowKit Go.Lk
set_option linter.unusedVariables false
set_option linter.unusedSimpArgs false
end Go.Proofs.YtpckbpimgoljoaaGreat
/- HELPERS: Run of layer 12. Its faults as in layer 11. -/
namespace Go.Proofs.YtpckbpimgoljoaaGreat
open Go.RowKit Go.Lk
set_option linter.unusedVariables false
set_option linter.unusedSimpArgs false
set_option maxRecDepth 100000 in
set_option maxHeartbeats 8000000 in
theorem run9_long {w : World} {ad tad : Option Addr} {n c tn tc : Nat} {s k a : Int} {anch : Bool} {l : List In} (hP : PI w w.heap.size ad n l) (hl : 4194304 < tn) :
    Calls Tryz.prog 8 #[pv ad n c s k, .slice tad tn tc, .int .i64 a, .bool anch] w (FE 2 w) := by
  obtain ⟨U, hU⟩ : ∃ U, U = (w.alloc (.cells #[.slice ad n c, .int .i64 s, .int .i64 k] 28)).alloc (.cells #[.bool false, .slice none 0 0, .int .i64 0, .int .i64 0] 38) := ⟨_, rfl⟩
  have hb : Below w.heap.size w U := by rw [hU]; exact below_two' w _ _
  have hX : U.heap[w.heap.size]? = some (.cells #[.slice ad n c, .int .i64 s, .int .i64 k] 28 (0, 0)) := by rw [hU]; exact (heap_alloc_old _ _ (by simp)).trans (heap_alloc_new w _)
  have hY : U.heap[w.heap.size + 1]? = some (.cells #[.bool false, .slice none 0 0, .int .i64 0, .int .i64 0] 38 (0, 0)) := by rw [hU]; exact two_new w _ _ _
  obtain ⟨x, hx⟩ : ∃ x, x = w.heap.size := ⟨_, rfl⟩
  obtain ⟨y, hy⟩ : ∃ y, y = w.heap.size + 1 := ⟨_, rfl⟩
  have hyU : w.heap.size + 1 < U.heap.size := (Array.getElem?_eq_some_iff.1 hY).1
  have hPU := hP.kept hb hb.size
  have HCK := check10 (c := c) (s := s) (k := k) hPU
  rw [← hx] at hX hb
  rw [← hy] at hY hyU
  obtain ⟨c0, c1, c2⟩ := three_cells hX
  have HB := hid hb
  have HX := hid hX
  have HY := hid hY
  have HXE := hid hx
  have hxy : x < y := by omega
  have b1 : decide ((4194304 : Int) < (tn : Int)) = true := by simp; omega
  have b1' : decide ((tn : Int) > (4194304 : Int)) = true := by simp; omega
  have s0 := Joins.unfrozen_of_block hY 0
  have s1 := Joins.unfrozen_of_block hY 1
  have s2 := Joins.unfrozen_of_block hY 2
  have s3 := Joins.unfrozen_of_block hY 3
  have y0 := Joins.cell_of_block hY 0
  have y1 := Joins.cell_of_block hY 1
  have y2 := Joins.cell_of_block hY 2
  have y3 := Joins.cell_of_block hY 3
  clear hP hPU hb hX hY
  go_enter Tryz.func8, Tryz.ntmps8
  go_upto_region 1 with fail
  rw [← hU, ← hy, ← hx]
  clear hU hx hy
  go_wp2
  refine bodyPost_ret (results_cell_tmp rfl _ _ y 38 _ (0, 0) _ rfl (Joins.block_setCell (i := 3) (Joins.block_setCell (i := 2) (Joins.block_setCell (i := 1) (Joins.block_setCell (i := 0) HY.out _) _) _) _) Tryz.underlying38 rfl (by kernel_rfl)) rfl ?_
  refine ⟨?_, rfl⟩
  rw [← HXE.out]
  exact (((HB.out.setCell (p := ⟨y, 0, none⟩) (by show x ≤ y; omega) _).setCell (p := ⟨y, 1, none⟩) (by show x ≤ y; omega) _).setCell (p := ⟨y, 2, none⟩) (by show x ≤ y; omega) _).setCell (p := ⟨y, 3, none⟩) (by show x ≤ y; omega) _
set_option maxRecDepth 100000 in
set_option maxHeartbeats 8000000 in
theorem run9_prog {w : World} {ad tad : Option Addr} {n c tn tc : Nat} {s k a : Int} {anch : Bool} {l : List In} (hP : PI w w.heap.size ad n l) (hl : tn ≤ 4194304) (hmay : mayB l s k = false) :
    Calls Tryz.prog 8 #[pv ad n c s k, .slice tad tn tc, .int .i64 a, .bool anch] w (FE 90 w) := by
  obtain ⟨U, hU⟩ : ∃ U, U = (w.alloc (.cells #[.slice ad n c, .int .i64 s, .int .i64 k] 28)).alloc (.cells #[.bool false, .slice none 0 0, .int .i64 0, .int .i64 0] 38) := ⟨_, rfl⟩
  have hb : Below w.heap.size w U := by rw [hU]; exact below_two' w _ _
  have hX : U.heap[w.heap.size]? = some (.cells #[.slice ad n c, .int .i64 s, .int .i64 k] 28 (0, 0)) := by rw [hU]; exact (heap_alloc_old _ _ (by simp)).trans (heap_alloc_new w _)
  have hY : U.heap[w.heap.size + 1]? = some (.cells #[.bool false, .slice none 0 0, .int .i64 0, .int .i64 0] 38 (0, 0)) := by rw [hU]; exact two_new w _ _ _
  obtain ⟨x, hx⟩ : ∃ x, x = w.heap.size := ⟨_, rfl⟩
  obtain ⟨y, hy⟩ : ∃ y, y = w.heap.size + 1 := ⟨_, rfl⟩
  have hyU : w.heap.size + 1 < U.heap.size := (Array.getElem?_eq_some_iff.1 hY).1
  have hPU := hP.kept hb hb.size
  have HCK := check10 (c := c) (s := s) (k := k) hPU
  rw [← hx] at hX hb
  rw [← hy] at hY hyU
  obtain ⟨c0, c1, c2⟩ := three_cells hX
  have HB := hid hb
  have HX := hid hX
  have HY := hid hY
  have HXE := hid hx
  have hxy : x < y := by omega
  have b1 : decide ((4194304 : Int) < (tn : Int)) = false := by simp; omega
  have b1' : decide ((tn : Int) > (4194304 : Int)) = false := by simp; omega
  rw [hmay] at HCK
  clear hmay
  clear hP hPU hb hX hY
  go_enter Tryz.func8, Tryz.ntmps8
  go_upto_region 1 with fail
  rw [← hU, ← hy, ← hx]
  clear hU hx hy
  go_upto_region 5 with (go_at_call 19; (with_reducible refine HCK.mono ?_); rintro e w2 ⟨rfl, hb2⟩; have HB2 := hid hb2; have hY2 := (hb2.block y hyU).trans HY.out; have HY2 := hid hY2; clear hb2 HCK c0 c1 c2 hY2)
  have s0 := Joins.unfrozen_of_block HY2.out 0
  have s1 := Joins.unfrozen_of_block HY2.out 1
  have s2 := Joins.unfrozen_of_block HY2.out 2
  have s3 := Joins.unfrozen_of_block HY2.out 3
  have y0 := Joins.cell_of_block HY2.out 0
  have y1 := Joins.cell_of_block HY2.out 1
  have y2 := Joins.cell_of_block HY2.out 2
  have y3 := Joins.cell_of_block HY2.out 3
  have HBW : Hid (Below x w w2) := HB.out.trans (Joins.below_le HB2.out (by omega))
  go_wp2
  refine bodyPost_ret (results_cell_tmp rfl _ _ y 38 _ (0, 0) _ rfl (Joins.block_setCell (i := 3) (Joins.block_setCell (i := 2) (Joins.block_setCell (i := 1) (Joins.block_setCell (i := 0) HY2.out _) _) _) _) Tryz.underlying38 rfl (by kernel_rfl)) rfl ?_
  refine ⟨?_, rfl⟩
  rw [← HXE.out]
  exact (((HBW.out.setCell (p := ⟨y, 0, none⟩) (by show x ≤ y; omega) _).setCell (p := ⟨y, 1, none⟩) (by show x ≤ y; omega) _).setCell (p := ⟨y, 2, none⟩) (by show x ≤ y; omega) _).setCell (p := ⟨y, 3, none⟩) (by show x ≤ y; omega) _
set_option maxRecDepth 100000 in
set_option maxHeartbeats 8000000 in
theorem run9_neg {w : World} {ad tad : Option Addr} {n c tn tc : Nat} {s k a : Int} {anch : Bool} {l : List In} (hP : PI w w.heap.size ad n l) (hl : tn ≤ 4194304) (hmay : mayB l s k = true) (ha : a < 0) :
    Calls Tryz.prog 8 #[pv ad n c s k, .slice tad tn tc, .int .i64 a, .bool anch] w (FE 1 w) := by
  obtain ⟨U, hU⟩ : ∃ U, U = (w.alloc (.cells #[.slice ad n c, .int .i64 s, .int .i64 k] 28)).alloc (.cells #[.bool false, .slice none 0 0, .int .i64 0, .int .i64 0] 38) := ⟨_, rfl⟩
  have hb : Below w.heap.size w U := by rw [hU]; exact below_two' w _ _
  have hX : U.heap[w.heap.size]? = some (.cells #[.slice ad n c, .int .i64 s, .int .i64 k] 28 (0, 0)) := by rw [hU]; exact (heap_alloc_old _ _ (by simp)).trans (heap_alloc_new w _)
  have hY : U.heap[w.heap.size + 1]? = some (.cells #[.bool false, .slice none 0 0, .int .i64 0, .int .i64 0] 38 (0, 0)) := by rw [hU]; exact two_new w _ _ _
  obtain ⟨x, hx⟩ : ∃ x, x = w.heap.size := ⟨_, rfl⟩
  obtain ⟨y, hy⟩ : ∃ y, y = w.heap.size + 1 := ⟨_, rfl⟩
  have hyU : w.heap.size + 1 < U.heap.size := (Array.getElem?_eq_some_iff.1 hY).1
  have hPU := hP.kept hb hb.size
  have HCK := check10 (c := c) (s := s) (k := k) hPU
  rw [← hx] at hX hb
  rw [← hy] at hY hyU
  obtain ⟨c0, c1, c2⟩ := three_cells hX
  have HB := hid hb
  have HX := hid hX
  have HY := hid hY
  have HXE := hid hx
  have hxy : x < y := by omega
  have b1 : decide ((4194304 : Int) < (tn : Int)) = false := by simp; omega
  have b1' : decide ((tn : Int) > (4194304 : Int)) = false := by simp; omega
  rw [hmay] at HCK
  clear hmay
  have b2 : decide (a < 0) = true := by simp [ha]
  clear hP hPU hb hX hY
  go_enter Tryz.func8, Tryz.ntmps8
  go_upto_region 1 with fail
  rw [← hU, ← hy, ← hx]
  clear hU hx hy
  go_upto_region 7 with (go_at_call 19; (with_reducible refine HCK.mono ?_); rintro e w2 ⟨rfl, hb2⟩; have HB2 := hid hb2; have hY2 := (hb2.block y hyU).trans HY.out; have HY2 := hid hY2; clear hb2 HCK c0 c1 c2 hY2)
  have s0 := Joins.unfrozen_of_block HY2.out 0
  have s1 := Joins.unfrozen_of_block HY2.out 1
  have s2 := Joins.unfrozen_of_block HY2.out 2
  have s3 := Joins.unfrozen_of_block HY2.out 3
  have y0 := Joins.cell_of_block HY2.out 0
  have y1 := Joins.cell_of_block HY2.out 1
  have y2 := Joins.cell_of_block HY2.out 2
  have y3 := Joins.cell_of_block HY2.out 3
  have HBW : Hid (Below x w w2) := HB.out.trans (Joins.below_le HB2.out (by omega))
  go_wp2
  refine bodyPost_ret (results_cell_tmp rfl _ _ y 38 _ (0, 0) _ rfl (Joins.block_setCell (i := 3) (Joins.block_setCell (i := 2) (Joins.block_setCell (i := 1) (Joins.block_setCell (i := 0) HY2.out _) _) _) _) Tryz.underlying38 rfl (by kernel_rfl)) rfl ?_
  refine ⟨?_, rfl⟩
  rw [← HXE.out]
  exact (((HBW.out.setCell (p := ⟨y, 0, none⟩) (by show x ≤ y; omega) _).setCell (p := ⟨y, 1, none⟩) (by show x ≤ y; omega) _).setCell (p := ⟨y, 2, none⟩) (by show x ≤ y; omega) _).setCell (p := ⟨y, 3, none⟩) (by show x ≤ y; omega) _
set_option maxRecDepth 100000 in
set_option maxHeartbeats 8000000 in
theorem run9_far {w : World} {ad tad : Option Addr} {n c tn tc : Nat} {s k a : Int} {anch : Bool} {l : List In} (hP : PI w w.heap.size ad n l) (hl : tn ≤ 4194304) (hmay : mayB l s k = true) (ha0 : ¬ a < 0) (ha : (tn : Int) < a) :
    Calls Tryz.prog 8 #[pv ad n c s k, .slice tad tn tc, .int .i64 a, .bool anch] w (FE 1 w) := by
  obtain ⟨U, hU⟩ : ∃ U, U = (w.alloc (.cells #[.slice ad n c, .int .i64 s, .int .i64 k] 28)).alloc (.cells #[.bool false, .slice none 0 0, .int .i64 0, .int .i64 0] 38) := ⟨_, rfl⟩
  have hb : Below w.heap.size w U := by rw [hU]; exact below_two' w _ _
  have hX : U.heap[w.heap.size]? = some (.cells #[.slice ad n c, .int .i64 s, .int .i64 k] 28 (0, 0)) := by rw [hU]; exact (heap_alloc_old _ _ (by simp)).trans (heap_alloc_new w _)
  have hY : U.heap[w.heap.size + 1]? = some (.cells #[.bool false, .slice none 0 0, .int .i64 0, .int .i64 0] 38 (0, 0)) := by rw [hU]; exact two_new w _ _ _
  obtain ⟨x, hx⟩ : ∃ x, x = w.heap.size := ⟨_, rfl⟩
  obtain ⟨y, hy⟩ : ∃ y, y = w.heap.size + 1 := ⟨_, rfl⟩
  have hyU : w.heap.size + 1 < U.heap.size := (Array.getElem?_eq_some_iff.1 hY).1
  have hPU := hP.kept hb hb.size
  have HCK := check10 (c := c) (s := s) (k := k) hPU
  rw [← hx] at hX hb
  rw [← hy] at hY hyU
  obtain ⟨c0, c1, c2⟩ := three_cells hX
  have HB := hid hb
  have HX := hid hX
  have HY := hid hY
  have HXE := hid hx
  have hxy : x < y := by omega
  have b1 : decide ((4194304 : Int) < (tn : Int)) = false := by simp; omega
  have b1' : decide ((tn : Int) > (4194304 : Int)) = false := by simp; omega
  rw [hmay] at HCK
  clear hmay
  have b2 : decide (a < 0) = false := by simp [ha0]
  have b3 : decide (a > (tn : Int)) = true := by simp; omega
  have b3' : decide ((tn : Int) < a) = true := by simp; omega
  clear hP hPU hb hX hY
  go_enter Tryz.func8, Tryz.ntmps8
  go_upto_region 1 with fail
  rw [← hU, ← hy, ← hx]
  clear hU hx hy
  go_upto_region 7 with (go_at_call 19; (with_reducible refine HCK.mono ?_); rintro e w2 ⟨rfl, hb2⟩; have HB2 := hid hb2; have hY2 := (hb2.block y hyU).trans HY.out; have HY2 := hid hY2; clear hb2 HCK c0 c1 c2 hY2)
  have s0 := Joins.unfrozen_of_block HY2.out 0
  have s1 := Joins.unfrozen_of_block HY2.out 1
  have s2 := Joins.unfrozen_of_block HY2.out 2
  have s3 := Joins.unfrozen_of_block HY2.out 3
  have y0 := Joins.cell_of_block HY2.out 0
  have y1 := Joins.cell_of_block HY2.out 1
  have y2 := Joins.cell_of_block HY2.out 2
  have y3 := Joins.cell_of_block HY2.out 3
  have HBW : Hid (Below x w w2) := HB.out.trans (Joins.below_le HB2.out (by omega))
  go_wp2
  refine bodyPost_ret (results_cell_tmp rfl _ _ y 38 _ (0, 0) _ rfl (Joins.block_setCell (i := 3) (Joins.block_setCell (i := 2) (Joins.block_setCell (i := 1) (Joins.block_setCell (i := 0) HY2.out _) _) _) _) Tryz.underlying38 rfl (by kernel_rfl)) rfl ?_
  refine ⟨?_, rfl⟩
  rw [← HXE.out]
  exact (((HBW.out.setCell (p := ⟨y, 0, none⟩) (by show x ≤ y; omega) _).setCell (p := ⟨y, 1, none⟩) (by show x ≤ y; omega) _).setCell (p := ⟨y, 2, none⟩) (by show x ≤ y; omega) _).setCell (p := ⟨y, 3, none⟩) (by show x ≤ y; omega) _
set_option maxRecDepth 100000 in
set_option maxHeartbeats 8000000 in
theorem run9_big {w : World} {ad tad : Option Addr} {n c tn tc a : Nat} {s k : Int} {anch : Bool} {l : List In} (hP : PI w w.heap.size ad n l) (hl : tn ≤ 4194304) (hmay : mayB l s k = true) (ha : a ≤ tn) (hbig : 16777216 < n * (tn - a + 1)) :
    Calls Tryz.prog 8 #[pv ad n c s k, .slice tad tn tc,   .int .i64 (a : Int), .bool anch] w (FE 3 w) := by
  obtain ⟨U, hU⟩ : ∃ U, U = (w.alloc (.cells #[.slice ad n c, .int .i64 s, .int .i64 k] 28)).alloc (.cells #[.bool false, .slice none 0 0, .int .i64 0, .int .i64 0] 38) := ⟨_, rfl⟩
  have hb : Below w.heap.size w U := by rw [hU]; exact below_two' w _ _
  have hX : U.heap[w.heap.size]? = some (.cells #[.slice ad n c, .int .i64 s, .int .i64 k] 28 (0, 0)) := by rw [hU]; exact (heap_alloc_old _ _ (by simp)).trans (heap_alloc_new w _)
  have hY : U.heap[w.heap.size + 1]? = some (.cells #[.bool false, .slice none 0 0, .int .i64 0, .int .i64 0] 38 (0, 0)) := by rw [hU]; exact two_new w _ _ _
  obtain ⟨x, hx⟩ : ∃ x, x = w.heap.size := ⟨_, rfl⟩
  obtain ⟨y, hy⟩ : ∃ y, y = w.heap.size + 1 := ⟨_, rfl⟩
  have hyU : w.heap.size + 1 < U.heap.size := (Array.getElem?_eq_some_iff.1 hY).1
  have hPU := hP.kept hb hb.size
  have HCK := check10 (c := c) (s := s) (k := k) hPU
  rw [← hx] at hX hb
  rw [← hy] at hY hyU
  obtain ⟨c0, c1, c2⟩ := three_cells hX
  have HB := hid hb
  have HX := hid hX
  have HY := hid hY
  have HXE := hid hx
  have hxy : x < y := by omega
  have b1 : decide ((4194304 : Int) < (tn : Int)) = false := by simp; omega
  have b1' : decide ((tn : Int) > (4194304 : Int)) = false := by simp; omega
  rw [hmay] at HCK
  have hmo := may_ok hmay
  have hln := hP.len
  have hnp : 0 < n := by omega
  have hn2 : n ≤ 20000 := by omega
  clear hmay hmo hln
  have b2 : decide ((a : Int) < 0) = false := by simp
  have b3 : decide ((a : Int) > (tn : Int)) = false := by simp; omega
  have b3' : decide ((tn : Int) < (a : Int)) = false := by simp; omega
  obtain ⟨q, hq⟩ : ∃ q, q = tn - a + 1 := ⟨_, rfl⟩
  have a1 : IntKind.i64.wrap ((tn : Int) - (a : Int)) = ((tn - a : Nat) : Int) := by rw [wrap_ok _ (by omega) (by omega)]; omega
  have a2 : IntKind.i64.wrap (((tn - a : Nat) : Int) + 1) = (q : Int) := by rw [wrap_ok _ (by omega) (by omega)]; omega
  obtain ⟨d, hd⟩ : ∃ d, d = tn - a := ⟨_, rfl⟩
  rw [← hd] at a1 a2
  have HTB : Hid (∀ W, Calls Tryz.prog 20 #[.int .i64 (n : Int), .int .i64 (q : Int)] W fun e w' => e = .returned (.bool true) ∧ w' = W) := fun W => by
    have h1 := tooBig20 n q W hnp hn2 (by omega)
    rw [show decide (16777216 < n * q) = true by simp; rw [hq]; exact hbig] at h1
    exact h1
  clear hd hq
  clear hP hPU hb hX hY
  go_enter Tryz.func8, Tryz.ntmps8
  go_upto_region 1 with fail
  rw [← hU, ← hy, ← hx]
  clear hU hx hy
  go_upto_region 9 with (first | (go_at_call 19; (with_reducible refine HCK.mono ?_); rintro e w2 ⟨rfl, hb2⟩; have HB2 := hid hb2; have hY2 := (hb2.block y hyU).trans HY.out; have HY2 := hid hY2; have hx2 := (hb2.block x (by omega)).trans HX.out; obtain ⟨e0, e1, e2⟩ := three_cells hx2; clear hb2 HCK c0 c1 c2 hY2 hx2) | (go_at_call 20; (with_reducible refine (HTB.out _).mono ?_); rintro e wz ⟨rfl, hwz⟩; have hwz' := hwz.symm; subst hwz'; clear HTB e0 e1 e2 hwz))
  have s0 := Joins.unfrozen_of_block HY2.out 0
  have s1 := Joins.unfrozen_of_block HY2.out 1
  have s2 := Joins.unfrozen_of_block HY2.out 2
  have s3 := Joins.unfrozen_of_block HY2.out 3
  have y0 := Joins.cell_of_block HY2.out 0
  have y1 := Joins.cell_of_block HY2.out 1
  have y2 := Joins.cell_of_block HY2.out 2
  have y3 := Joins.cell_of_block HY2.out 3
  have HBW : Hid (Below x w w2) := HB.out.trans (Joins.below_le HB2.out (by omega))
  go_wp2
  refine bodyPost_ret (results_cell_tmp rfl _ _ y 38 _ (0, 0) _ rfl (Joins.block_setCell (i := 3) (Joins.block_setCell (i := 2) (Joins.block_setCell (i := 1) (Joins.block_setCell (i := 0) HY2.out _) _) _) _) Tryz.underlying38 rfl (by kernel_rfl)) rfl ?_
  refine ⟨?_, rfl⟩
  rw [← HXE.out]
  exact (((HBW.out.setCell (p := ⟨y, 0, none⟩) (by show x ≤ y; omega) _).setCell (p := ⟨y, 1, none⟩) (by show x ≤ y; omega) _).setCell (p := ⟨y, 2, none⟩) (by show x ≤ y; omega) _).setCell (p := ⟨y, 3, none⟩) (by show x ≤ y; omega) _
set_option maxRecDepth 100000 in
set_option maxHeartbeats 8000000 in
theorem run9_ok {w : World} {ad tad : Option Addr} {n c S K tn tc a : Nat} {anch : Bool} {l : List In} {tx : List Int} (hP : PI w w.heap.size ad n l) (hmay : mayB l (S : Int) (K : Int) = true) (hT : TextAt w.heap.size w tad tn tx) (hl : tn ≤ 4194304) (ha : a ≤ tn) (hbig : n * (tn - a + 1) ≤ 16777216) {r : Fd} {m' : List Pt} (hda : Da (act l tx) [] (bgs (prOf l tx S K) a anch none (tn + 1 - a) a) m' r) :
    Calls Tryz.prog 8 #[pv ad n c (S : Int) (K : Int), .slice tad tn tc, .int .i64 (a : Int), .bool anch] w (FR K (r, m'.length) w) := by
  obtain ⟨U, hU⟩ : ∃ U, U = (w.alloc (.cells #[.slice ad n c, .int .i64 (S : Int), .int .i64 (K : Int)] 28)).alloc (.cells #[.bool false, .slice none 0 0, .int .i64 0, .int .i64 0] 38) := ⟨_, rfl⟩
  have hb : Below w.heap.size w U := by rw [hU]; exact below_two' w _ _
  have hX : U.heap[w.heap.size]? = some (.cells #[.slice ad n c, .int .i64 (S : Int), .int .i64 (K : Int)] 28 (0, 0)) := by rw [hU]; exact (heap_alloc_old _ _ (by simp)).trans (heap_alloc_new w _)
  have hY : U.heap[w.heap.size + 1]? = some (.cells #[.bool false, .slice none 0 0, .int .i64 0, .int .i64 0] 38 (0, 0)) := by rw [hU]; exact two_new w _ _ _
  obtain ⟨x, hx⟩ : ∃ x, x = w.heap.size := ⟨_, rfl⟩
  obtain ⟨y, hy⟩ : ∃ y, y = w.heap.size + 1 := ⟨_, rfl⟩
  have hyU : w.heap.size + 1 < U.heap.size := (Array.getElem?_eq_some_iff.1 hY).1
  have hPU := hP.kept hb hb.size
  have hTU : TextAt U.heap.size U tad tn tx := (hT.below hb).mono hb.size
  have HCK := check10 (c := c) (s := (S : Int)) (k := (K : Int)) hPU
  rw [hmay] at HCK
  have htl : tn = tx.length := hT.1
  rw [← hx] at hX hb
  rw [← hy] at hY hyU
  obtain ⟨c0, c1, c2⟩ := three_cells hX
  have HB := hid hb
  have HX := hid hX
  have HY := hid hY
  have HXE := hid hx
  have hxy : x < y := by omega
  have HNM : Hid (∀ W, Below U.heap.size U W → Calls Tryz.prog 21 #[pv ad n c (S : Int) (K : Int), .slice tad tn tc, .int .i64 (a : Int)] W fun e w' => ∃ b ub, e = .returned (.pointer (some ⟨b, 0, none⟩)) ∧ BI w' W.heap.size b l tx (cst ad n c S K tad tn tc ub a) var0 [] [] (List.replicate K (-1)) [] ∧ Below W.heap.size W w') := fun W h => newMachine21 (hPU.kept h h.size) hmay ((hTU.below h).mono h.size)
  have hmo := may_ok hmay
  have hln := hP.len
  have HC : Hid (∀ ub, BC l tx (cst ad n c S K tad tn tc ub a)) := fun ub => ⟨hln, hmay, htl, hl, ha, hbig⟩
  have HDA := hid hda
  obtain ⟨q, hq⟩ : ∃ q, q = tn - a + 1 := ⟨_, rfl⟩
  obtain ⟨d, hd⟩ : ∃ d, d = tn - a := ⟨_, rfl⟩
  have a1 : IntKind.i64.wrap ((tn : Int) - (a : Int)) = (d : Int) := by rw [wrap_ok _ (by omega) (by omega)]; omega
  have a2 : IntKind.i64.wrap ((d : Int) + 1) = (q : Int) := by rw [wrap_ok _ (by omega) (by omega)]; omega
  have HTB : Hid (∀ W, Calls Tryz.prog 20 #[.int .i64 (n : Int), .int .i64 (q : Int)] W fun e w' => e = .returned (.bool false) ∧ w' = W) := fun W => by
    have h1 := tooBig20 n q W (by omega) (by omega) (by omega)
    rw [show decide (16777216 < n * q) = false by simp; rw [hq]; exact hbig] at h1
    exact h1
  clear hq hd hmo hln hda
  have HMAY := hid hmay
  have HTL := hid htl
  have b1 : decide ((4194304 : Int) < (tn : Int)) = false := by simp; omega
  have b1' : decide ((tn : Int) > (4194304 : Int)) = false := by simp; omega
  have b2 : decide ((a : Int) < 0) = false := by simp
  have b3 : decide ((a : Int) > (tn : Int)) = false := by simp; omega
  have b3' : decide ((tn : Int) < (a : Int)) = false := by simp; omega
  clear hP hT hPU hTU hb hX hY hmay htl
  go_enter Tryz.func8, Tryz.ntmps8
  go_upto_region 1 with fail
  rw [← hU, ← hy, ← hx]
  clear hU hx hy
  go_upto_region 12 with (first | (go_at_call 19; (with_reducible refine HCK.mono ?_); rintro e w2 ⟨rfl, hb2⟩; have HB2 := hid hb2; have hx2 := (hb2.block x (by omega)).trans HX.out; obtain ⟨e0, e1, e2⟩ := three_cells hx2; have HNM2 := HNM.out w2 hb2; clear hb2 hx2 HCK c0 c1 c2) | (go_at_call 20; (with_reducible refine (HTB.out _).mono ?_); rintro e wz ⟨rfl, hwz⟩; have hwz' := hwz.symm; subst hwz'; clear HTB hwz) | (go_at_call 21; (with_reducible refine HNM2.mono ?_); rintro e w3 ⟨b, ub, rfl, hg, hb3⟩; have HG := hid hg; have HB3 := hid hb3; have HRUN := run22 (anch := anch) hg (HC.out ub) rfl ⟨rfl, rfl, rfl, rfl, rfl⟩ HDA.out; dsimp only [cst] at HRUN; clear hg hb3 HNM2) | (go_at_call 22; (with_reducible refine HRUN.mono ?_); rintro e w4 ⟨rfl, V', st, cp', W', hm4, hfs4, hf4, hb4⟩; have HM4 := hid hm4; have HF4 := hid hf4; have HFS4 := hid hfs4; have HB4 := hid hb4; clear hm4 hf4 hfs4 hb4 HRUN))
  have hY2 := (HB2.out.block y hyU).trans HY.out
  have hU2 : U.heap.size ≤ w2.heap.size := HB2.out.size
  have hY3 := (HB3.out.block y (by omega)).trans hY2
  have hY4 := (HB4.out.block y (by omega)).trans hY3
  have s0 := Joins.unfrozen_of_block hY4 0
  have s1 := Joins.unfrozen_of_block hY4 1
  have s2 := Joins.unfrozen_of_block hY4 2
  have s3 := Joins.unfrozen_of_block hY4 3
  have y0 := Joins.cell_of_block hY4 0
  have y1 := Joins.cell_of_block hY4 1
  have y2 := Joins.cell_of_block hY4 2
  have y3 := Joins.cell_of_block hY4 3
  have k13 := HM4.out.mb.c 10
  have k14 := HM4.out.mb.c 11
  have k15 := HM4.out.mb.c 12
  have k16 := HM4.out.mb.c 13
  simp at k13 k14 k15 k16
  rw [HFS4.out] at k16
  have HY4 := hid hY4
  clear hY2 hY3 hY4 e0 e1 e2
  have hbw : Below x w w4 := HB.out.trans (Joins.below_le (HB2.out.trans (Joins.below_le (HB3.out.trans HB4.out) hU2)) (by omega))
  have HBW := hid hbw
  clear hbw
  cases hr1 : r with
  | none =>
    have hf := HF4.out
    rw [hr1] at hf
    obtain ⟨-, -, g1, g2, g3, g4, g5⟩ := hf
    rw [g1] at k13
    rw [g2, g3, g4] at k14
    rw [g5] at k15
    clear g1 g2 g3 g4 g5
    have HR1 := hid hr1
    clear hr1
    go_wp2
    refine bodyPost_ret (results_cell_tmp rfl _ _ y 38 _ (0, 0) _ rfl (Joins.block_setCell (i := 3) (Joins.block_setCell (i := 2) (Joins.block_setCell (i := 1) (Joins.block_setCell (i := 0) HY4.out _) _) _) _) Tryz.underlying38 rfl (by kernel_rfl)) rfl ?_
    refine ⟨?_, ?_⟩
    · rw [← HXE.out]
      exact (((HBW.out.setCell (p := ⟨y, 0, none⟩) (by show x ≤ y; omega) _).setCell (p := ⟨y, 1, none⟩) (by show x ≤ y; omega) _).setCell (p := ⟨y, 2, none⟩) (by show x ≤ y; omega) _).setCell (p := ⟨y, 3, none⟩) (by show x ≤ y; omega) _
    · rw [HR1.out]; rfl
  | some v =>
    have hf := HF4.out
    rw [hr1] at hf
    obtain ⟨g1, g2, g3, g4, g5, g6⟩ := hf
    have g7 := HM4.out.cap
    dsimp only [cst] at g2 g3 g4 g7
    obtain ⟨g, hg⟩ : ∃ g, g = ub := ⟨_, rfl⟩
    rw [← hg] at g2 g7
    rw [g6] at g7
    rw [g1] at k13
    rw [g2, g3, g4] at k14
    rw [g5] at k15
    have HROW := hid g7
    clear g1 g2 g3 g4 g5 g6 g7 hg
    have HR1 := hid hr1
    clear hr1
    go_wp2
    refine bodyPost_ret (results_cell_tmp rfl _ _ y 38 _ (0, 0) _ rfl (Joins.block_setCell (i := 3) (Joins.block_setCell (i := 2) (Joins.block_setCell (i := 1) (Joins.block_setCell (i := 0) HY4.out _) _) _) _) Tryz.underlying38 rfl (by kernel_rfl)) rfl ?_
    refine ⟨?_, ?_⟩
    · rw [← HXE.out]
      exact (((HBW.out.setCell (p := ⟨y, 0, none⟩) (by show x ≤ y; omega) _).setCell (p := ⟨y, 1, none⟩) (by show x ≤ y; omega) _).setCell (p := ⟨y, 2, none⟩) (by show x ≤ y; omega) _).setCell (p := ⟨y, 3, none⟩) (by show x ≤ y; omega) _
    · rw [HR1.out]
      have hgy : (Value.slice (some ⟨g, 0, none⟩) K K).ownBlock ≠ some y := own_ne HROW.out HY4.out (by decide)
      refine ⟨g, rfl, ?_⟩
      have t := own_setCell (a := ⟨y, 3, none⟩) (u := .int .i64 (m'.length : Int)) (own_setCell (a := ⟨y, 2, none⟩) (u := .int .i64 v.1) (own_setCell (a := ⟨y, 1, none⟩) (u := .slice (some ⟨g, 0, none⟩) K K) (own_setCell (a := ⟨y, 0, none⟩) (u := .bool true) HROW.out hgy) hgy) hgy) hgy
      exact t.mono (by have := HXE.out; have := HB2.out.size; omega)
end Go.Proofs.YtpckbpimgoljoaaGreat
namespace Go.Proofs.YtpckbpimgoljoaaGreat
open Go.RowKit Go.Lk
set_option linter.unusedVariables false
set_option linter.unusedSimpArgs false
/-- which error it is -/
def errB (l : List In) (s k : Int) (n : Nat) (a : Int) : Int := if errR l s k n a ≠ 0 then errR l s k n a else if 16777216 < l.length * (n - a.toNat + 1) then 3 else 0
/-- what the search of a program from a place on comes to -/
def BitA (l : List In) (tx : List Int) (s k a : Int) (anch : Bool) (r : Fd) (m' : List Pt) : Prop := Da (act l tx) [] (bgs (prOf l tx s.toNat k.toNat) a.toNat anch none (tx.length + 1 - a.toNat) a.toNat) m' r
theorem errR_ok {l : List In} {s k : Int} {n : Nat} {a : Int} (h : errR l s k n a = 0) : n ≤ 4194304 ∧ mayB l s k = true ∧ 0 ≤ a ∧ a ≤ n := by
  unfold errR at h
  split at h
  · cases h
  · split at h
    · cases h
    · split at h
      · cases h
      · rename_i h1 h2 h3
        exact ⟨by omega, by simpa using h2, by omega, by omega⟩
theorem bit_ex {l : List In} {tx : List Int} {s k a : Int} (anch : Bool) (h : errR l s k tx.length a = 0) : ∃ r m', BitA l tx s k a anch r m' ∧ (lockRun (prOf l tx s.toNat k.toNat) tx.length a.toNat anch).1 = r := by
  obtain ⟨h1, h2, h3, h4⟩ := errR_ok h
  have hmo := may_ok h2
  obtain ⟨S, rfl⟩ := Int.eq_ofNat_of_zero_le hmo.2.1
  obtain ⟨K, rfl⟩ := Int.eq_ofNat_of_zero_le (show 0 ≤ k by omega)
  have hP := pr_ok (tx := tx) h2
  have hl : ∀ i x, (prOf l tx S K).A tx.length i ≠ .rune x := fun i x => act_end l tx i x
  obtain ⟨m', r, hd⟩ := da_total (a := a.toNat) hP hl (bgs (prOf l tx S K) a.toNat anch none (tx.length + 1 - a.toNat) a.toNat) [] (fun t ht => by
    obtain ⟨g1, g2, g3, g4⟩ := bgs_from _ _ _ _ _ _ t ht
    exact ⟨by rw [g1]; exact hP.S, g2, by omega, by rw [g4]; simp⟩) (OkP.nil _ _ _)
  refine ⟨r, m', hd, ?_⟩
  refine lock_da hP hl (by omega) (m' := m') ?_
  rw [show tx.length - a.toNat + 1 = tx.length + 1 - a.toNat by omega]
  exact hd
/-- what Run answers -/
def RunC (l : List In) (tx : List Int) (s k a : Int) (r : Fd) (m' : List Pt) (w : World) (e : Ending) (w' : World) : Prop :=
  (errB l s k tx.length a = 0 ∧ FR k.toNat (r, m'.length) w e w') ∨ (errB l s k tx.length a ≠ 0 ∧ FE (errB l s k tx.length a) w e w')
theorem run9 {w : World} {ad tad : Option Addr} {n c tn tc : Nat} {s k a : Int} {anch : Bool} {l : List In} {tx : List Int} {r : Fd} {m' : List Pt} (hP : PI w w.heap.size ad n l) (hT : TextAt w.heap.size w tad tn tx) (hda : errR l s k tx.length a = 0 → BitA l tx s k a anch r m') :
    Calls Tryz.prog 8 #[pv ad n c s k, .slice tad tn tc, .int .i64 a, .bool anch] w (RunC l tx s k a r m' w) := by
  have htl : tn = tx.length := hT.1
  have hln := hP.len
  have hE : ∀ c : Int, errR l s k tx.length a = c → c ≠ 0 → errB l s k tx.length a = c := fun c h h0 => by unfold errB; rw [if_pos (by rw [h]; exact h0)]; exact h
  by_cases h1 : 4194304 < tn
  · have e := hE 2 (by unfold errR; rw [if_pos (by omega)]) (by decide)
    refine (run9_long hP h1).mono fun e' w' h => ?_
    exact .inr (by rw [e]; exact ⟨by decide, h⟩)
  · cases hm : mayB l s k
    · have e := hE 90 (by unfold errR; rw [if_neg (by omega), if_pos hm]) (by decide)
      refine (run9_prog hP (by omega) hm).mono fun e' w' h => ?_
      exact .inr (by rw [e]; exact ⟨by decide, h⟩)
    · by_cases h2 : a < 0
      · have e := hE 1 (by unfold errR; rw [if_neg (by omega), if_neg (by rw [hm]; decide), if_pos (.inl h2)]) (by decide)
        refine (run9_neg hP (by omega) hm h2).mono fun e' w' h => ?_
        exact .inr (by rw [e]; exact ⟨by decide, h⟩)
      · by_cases h3 : (tn : Int) < a
        · have e := hE 1 (by unfold errR; rw [if_neg (by omega), if_neg (by rw [hm]; decide), if_pos (.inr (by omega))]) (by decide)
          refine (run9_far hP (by omega) hm h2 h3).mono fun e' w' h => ?_
          exact .inr (by rw [e]; exact ⟨by decide, h⟩)
        · have e0 : errR l s k tx.length a = 0 := by unfold errR; rw [if_neg (by omega), if_neg (by rw [hm]; decide), if_neg (by omega)]
          have hmo := may_ok hm
          have hd := hda e0
          obtain ⟨S, rfl⟩ := Int.eq_ofNat_of_zero_le hmo.2.1
          obtain ⟨K, rfl⟩ := Int.eq_ofNat_of_zero_le (show 0 ≤ k by omega)
          obtain ⟨A, rfl⟩ := Int.eq_ofNat_of_zero_le (show 0 ≤ a by omega)
          by_cases h4 : 16777216 < l.length * (tx.length - A + 1)
          · have e : errB l (S : Int) (K : Int) tx.length (A : Int) = 3 := by unfold errB; rw [if_neg (by simp [e0]), if_pos (by simpa using h4)]
            refine (run9_big hP (by omega) hm (by omega) (by rw [hln, htl]; exact h4)).mono fun e' w' h => ?_
            exact .inr (by rw [e]; exact ⟨by decide, h⟩)
          · have e : errB l (S : Int) (K : Int) tx.length (A : Int) = 0 := by unfold errB; rw [if_neg (by simp [e0]), if_neg (by simpa using h4)]
            refine (run9_ok hP hm hT (by omega) (by omega) (by rw [hln, htl]; omega) (r := r) (m' := m') (by rw [htl]; exact hd)).mono fun e' w' h => ?_
            exact .inl ⟨e, h⟩
end Go.Proofs.YtpckbpimgoljoaaGreat
