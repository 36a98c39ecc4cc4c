/- HELPERS: a new machine; Run. -/
import Derived.Test.YtodpmmlfdkdemaaQa
import Derived.Deep.RegionHeld2
namespace Go.Proofs.Ytodpmmlfdkdemaa
open Go.RowKit Go.Lk
set_option linter.unusedVariables false
set_option linter.unusedSimpArgs false
theorem SetS.mono {N N' : Nat} {w : World} {g : Nat} {F : List Nat} {n : Nat} {l : List Int} (h : SetS N w g F n l) (hN : N' ≤ N) : SetS N' w g F n l := by
  obtain ⟨b, c, ov, M, h1, h2, hn, h3, h4, h5, h6, rfl⟩ := h
  exact ⟨b, c, ov, M, h1, by omega, hn, h3.mono hN, h4.mono hN, h5, h6, rfl⟩
theorem ri_row {nb c N : Nat} {W : World} (h : RI nb c c W) (hN : N ≤ nb) (hc : c ≤ 10000) : W.ownsRow N 3 1 (.slice (some ⟨nb, 0, none⟩) c c) c (I64 (List.replicate c (-1))) := by
  obtain ⟨arr, h1, h2, h3⟩ := h
  refine ⟨by simp, .inr ⟨nb, c, arr, rfl, hN, h1, Nat.le_refl _, by unfold maxLen; omega, by omega, ?_⟩⟩
  apply List.ext_getElem?
  intro k
  by_cases hk : k < c
  · rw [List.getElem?_take_of_lt (by omega)]
    have := h3 k hk
    simp only [I64, List.map_replicate, List.getElem?_replicate, hk, if_true]
    simpa using this
  · rw [List.getElem?_eq_none (by simp; omega), List.getElem?_eq_none (by simp; omega)]
abbrev cs0 (ad : Option Addr) (n c S K : Nat) (tad : Option Addr) (tn tc sb ub : Nat) (f : Value) : Array Value := #[.slice ad n c, .int .i64 (S : Int), .int .i64 (K : Int), .slice tad tn tc, .int .i64 0, .pointer (some ⟨sb, 0, none⟩), .int .i64 0, .slice none 0 0, .int .i64 0, .slice none 0 0, .int .i64 0, f, .slice (some ⟨ub, 0, none⟩) K K, .bool false, .slice none 0 0, .int .i64 0, .int .i64 0]
def M0 (ad : Option Addr) (n c S K : Nat) (tad : Option Addr) (tn tc sb ub : Nat) : Mv := ⟨ad, n, c, S, K, tad, tn, tc, 0, sb, 0, none, 0, 0, 0, none, 0, 0, 0, ub, K, false, none, 0, 0, 0, 0⟩
def KW (U W : World) : Prop := Below U.heap.size U W
theorem kw0 (U : World) : KW U U := Below.refl _ _
theorem kw_drew {U W : World} (h : KW U W) : KW U W.drew := Below.trans h ((Eqw.drew W).below _)
theorem kw_alloc {U W : World} {o : Obj} (h : KW U W) : KW U (W.alloc o) := Below.trans h (Joins.below_le (Joins.below_alloc1 W o) h.size)
theorem kw_next {U W W' : World} (h : KW U W) (h2 : Below W.heap.size W W') : KW U W' := Below.trans h (Joins.below_le h2 h.size)
/-- what the new machine's block, set and captures are -/
def Asm (B n K : Nat) (U wx : World) (b sb ub : Nat) (sF : List Nat) : Prop := B ≤ b ∧ SetS B wx sb sF n [] ∧ wx.ownsRow B 3 1 (.slice (some ⟨ub, 0, none⟩) K K) K (I64 (List.replicate K (-1))) ∧ Below B U wx ∧ (∀ k ∈ sF, k ≠ b ∧ k ≠ ub)
theorem asm1 {B n K g : Nat} {F : List Nat} {U W1 w2 W2 w3 : World} {o : Obj} (hB : B ≤ U.heap.size) (hK : K ≤ 10000) (k1 : KW U W1) (hs : SetS W1.heap.size w2 g F n []) (hb2 : Below W1.heap.size W1 w2) (h12 : Below w2.heap.size w2 W2) (hri : RI W2.heap.size K K w3) (hb3 : Below W2.heap.size W2 w3) : Asm B n K U (w3.alloc o) w3.heap.size g W2.heap.size F := by
  have s1 := k1.size
  have s2 := hb2.size
  have s3 := h12.size
  have s4 := hb3.size
  have h13 : Below w2.heap.size w2 (w3.alloc o) := h12.trans (Joins.below_le (hb3.trans (Joins.below_le (Joins.below_alloc1 w3 o) s4)) s3)
  refine ⟨by omega, (hs.kept (fun k hk => h13.block k (hs.low k hk).2)).mono (by omega), ?_, ?_, fun k hk => ?_⟩
  · have := ri_row (N := B) hri (by omega) hK
    exact this.alloc _
  · exact Joins.below_le (kw_next (kw_next k1 hb2) h13) hB
  · have := (hs.low k hk).2
    exact ⟨by omega, by omega⟩
theorem asm2 {B n K g : Nat} {F : List Nat} {U W1 w2 W2 w3 : World} {o : Obj} (hB : B ≤ U.heap.size) (hK : K ≤ 10000) (k1 : KW U W1) (hri : RI W1.heap.size K K w3) (hb3 : Below W1.heap.size W1 w3) (h12 : Below w3.heap.size w3 W2) (hs : SetS W2.heap.size w2 g F n []) (hb2 : Below W2.heap.size W2 w2) : Asm B n K U (w2.alloc o) w2.heap.size g W1.heap.size F := by
  have s1 := k1.size
  have s2 := hb3.size
  have s3 := h12.size
  have s4 := hb2.size
  have hul : W1.heap.size < w3.heap.size := by obtain ⟨arr, h1, _⟩ := hri; exact (Array.getElem?_eq_some_iff.1 h1).1
  have h13 : Below w3.heap.size w3 (w2.alloc o) := h12.trans (Joins.below_le (hb2.trans (Joins.below_le (Joins.below_alloc1 w2 o) s4)) s3)
  refine ⟨by omega, (hs.kept (fun k hk => heap_alloc_old w2 o (hs.low k hk).2)).mono (by omega), ?_, ?_, fun k hk => ?_⟩
  · have := ri_row (N := B) hri (by omega) hK
    exact row_kept this (fun k hk => h13.block k (this.lt k hk).2)
  · exact Joins.below_le (kw_next (kw_next k1 hb3) h13) hB
  · have := hs.low k hk
    exact ⟨by omega, by omega⟩
set_option maxRecDepth 100000 in
set_option maxHeartbeats 8000000 in
theorem newMachine22 {w : World} {ad tad : Option Addr} {n c S K tn tc : Nat} {l : List In} {tx : List Int} (hP : PI w w.heap.size ad n l) (hmay : mayB l (S : Int) (K : Int) = true) (hT : TextAt w.heap.size w tad tn tx) :
    Calls Try.prog 24 #[pv ad n c (S : Int) (K : Int), .slice tad tn tc] w fun e w' => ∃ b M sF, e = .returned (.pointer (some ⟨b, 0, none⟩)) ∧ GI w' w.heap.size b K l tx M [] none [] [] sF [] ∧ M.S = S ∧ M.fs = 0 ∧ Below w.heap.size w w' := by
  have hm := may_ok hmay
  have hln := hP.len
  obtain ⟨B, hB⟩ : ∃ B, B = w.heap.size := ⟨_, rfl⟩
  obtain ⟨U, hU⟩ : ∃ U, U = w.alloc (.cells #[.slice ad n c, .int .i64 (S : Int), .int .i64 (K : Int)] 24) := ⟨_, rfl⟩
  have hbU : Below w.heap.size w U := by rw [hU]; exact Joins.below_alloc1 w _
  have hX : U.heap[w.heap.size]? = some (.cells #[.slice ad n c, .int .i64 (S : Int), .int .i64 (K : Int)] 24 (0, 0)) := by rw [hU]; exact heap_alloc_new w _
  have hUs : w.heap.size < U.heap.size := (Array.getElem?_eq_some_iff.1 hX).1
  rw [← hB] at hbU hX hUs ⊢
  obtain ⟨c0, c1, c2⟩ := three_cells hX
  have HBU := hid hbU
  have HX := hid hX
  have HP := hid hP
  have HT := hid hT
  have HM := hid hm
  have HLN := hid hln
  have HBE := hid hB
  have hlim : lim (n : Int) = n := by unfold lim; omega
  have HLIM := hid hlim
  have HNEW : Hid (∀ W, Calls Try.prog 31 #[.int .i64 (n : Int)] W fun e w' => ∃ g F, e = .returned (.pointer (some ⟨g, 0, none⟩)) ∧ SetS W.heap.size w' g F n [] ∧ Below W.heap.size W w') := fun W => by
    have h1 := new8 (n : Int) W
    rw [hlim] at h1
    exact h1
  have hK1 : 1 ≤ K ∧ K ≤ 1002 := by omega
  have HREP : Hid (∀ (xb : Nat) (W : World), W.cell? ⟨xb, 0, none⟩ = some (.int .i64 (-1)) → xb < W.heap.size → Calls Try.prog 29 #[.slice (some ⟨xb, 0, none⟩) 1 1, .int .i64 (K : Int)] W fun e w' => e = .returned (.slice (some ⟨W.heap.size, 0, none⟩) K K) ∧ Below W.heap.size W w' ∧ RI W.heap.size K K w') := fun xb W h1 h2 => repeat51g xb 1 K hK1.1 (by omega) W h1 h2
  clear hbU hX hP hT hm hln hlim hmay
  go_enter Try.func24, Try.ntmps24
  go_upto_region 1 with fail
  rw [← hU, ← hB]
  clear hU hB
  have HKEEP : Hid (∀ W, KW U W → W.cell? ⟨B, 0, none⟩ = some (.slice ad n c) ∧ W.cell? ⟨B, 1, none⟩ = some (.int .i64 (S : Int)) ∧ W.cell? ⟨B, 2, none⟩ = some (.int .i64 (K : Int))) := fun W h => ⟨(cell_eq (h.block B hUs) 0).trans c0, (cell_eq (h.block B hUs) 1).trans c1, (cell_eq (h.block B hUs) 2).trans c2⟩
  go_cut [5] from 6 to 18 (fun v5 wx => ∃ (b sb ub : Nat) (sF : List Nat) (f : Value), v5 = .pointer (some ⟨b, 0, none⟩) ∧ Hid (wx.heap[b]? = some (.cells (cs0 ad n c S K tad tn tc sb ub f) 76 (0, 0))) ∧ Hid (Asm B n K U wx b sb ub sF))
  case first =>
    go_region_held2 (fun w' => w'.cell? ⟨B, 0, none⟩ = some (.slice ad n c) ∧ w'.cell? ⟨B, 1, none⟩ = some (.int .i64 (S : Int)) ∧ w'.cell? ⟨B, 2, none⟩ = some (.int .i64 (K : Int)))
      (first | (refine HKEEP.out _ ?_; repeat (first | with_reducible exact kw0 U | with_reducible refine kw_drew ?_ | with_reducible refine kw_alloc ?_ | with_reducible refine kw_next ?_ HB2.out | with_reducible refine kw_next ?_ HB3.out)))
      (first | (go_at_call 31; (with_reducible refine (HNEW.out _).mono ?_); rintro e w2 ⟨g, F, rfl, hs, hb2⟩; have HSS := hid hs; have HB2 := hid hb2; clear hs hb2) | (go_at_call 29; (with_reducible refine (HREP.out _ _ (by first | (simp; done) | exact (HB2.out.cell (p := ⟨_, 0, none⟩) (by simp)).trans (by simp)) (by first | (simp; done) | (have := HB2.out.size; simp at this; omega))).mono ?_); rintro e w3 ⟨rfl, hb3, hri⟩; have HB3 := hid hb3; have HRI := hid hri; clear hb3 hri))
    all_goals go_wp2_with fail
    all_goals go_meet
    · refine ⟨w3.heap.size, g, w2.heap.size + 1, F, .nilFunc, rfl, heap_alloc_new w3 _, ?_⟩
      have h1 := asm1 (B := B) (o := .cells (cs0 ad n c S K tad tn tc g (w2.heap.size + 1) .nilFunc) 76) (by omega) (by omega) (kw_drew (kw0 U)) HSS.out HB2.out (Joins.below_alloc1 w2 _) HRI.out HB3.out
      rw [show (w2.alloc (.cells #[.int .i64 (-1)] 3)).heap.size = w2.heap.size + 1 by simp] at h1
      exact h1
    · refine ⟨w3.heap.size, g, w2.heap.size, F, .nilFunc, rfl, heap_alloc_new w3 _, ?_⟩
      exact asm1 (B := B) (o := .cells (cs0 ad n c S K tad tn tc g w2.heap.size .nilFunc) 76) (by omega) (by omega) (kw_drew (kw_alloc (kw0 U))) HSS.out HB2.out (Below.refl _ _) HRI.out HB3.out
  case rest =>
    obtain ⟨b, sb, ub, sF, f, rfl, HBK, HAS⟩ := hcut
    have d11 := Joins.cell_of_block HBK.out 11
    have u11 := Joins.unfrozen_of_block HBK.out 11
    simp at d11
    clear c0 c1 c2 HKEEP HNEW HREP
    go_wp2
    go_ret
    obtain ⟨a1, a2, a3, a4, a5⟩ := HAS.out
    have hmb : MB (wc.setCell ⟨b, 11, none⟩ (.func (.func 32) #[.pointer (some ⟨b, 9, none⟩)] #[])) b (M0 ad n c S K tad tn tc sb ub) := Joins.block_setCell (i := 11) HBK.out _
    have hch : Chg wc (wc.setCell ⟨b, 11, none⟩ (.func (.func 32) #[.pointer (some ⟨b, 9, none⟩)] #[])) [b] [b] := (Chg.refl wc [b]).set (a := ⟨b, 11, none⟩) _ (by simp)
    have hne : ∀ k, k ≠ b → (wc.setCell ⟨b, 11, none⟩ (.func (.func 32) #[.pointer (some ⟨b, 9, none⟩)] #[])).heap[k]? = wc.heap[k]? := fun k hk => Below.heap_setCell _ _ _ _ hk
    have hbl : Below B wc (wc.setCell ⟨b, 11, none⟩ (.func (.func 32) #[.pointer (some ⟨b, 9, none⟩)] #[])) := (Below.refl B wc).setCell (p := ⟨b, 11, none⟩) a1 _
    have hbw : Below B w (wc.setCell ⟨b, 11, none⟩ (.func (.func 32) #[.pointer (some ⟨b, 9, none⟩)] #[])) := HBU.out.trans (a4.trans hbl)
    have hub : ub ≠ b := fun e => own_ne a3 HBK.out (by decide) (by rw [e]; rfl)
    have hPB := HP.out
    have hTB := HT.out
    rw [← HBE.out] at hPB hTB
    refine ⟨b, M0 ad n c S K tad tn tc sb ub, sF, rfl, ⟨hmb, a1, ?_, hPB.kept hbw (Nat.le_refl _), hTB.below hbw, Nat.zero_le _, rfl, ⟨[], ?_⟩, ⟨rfl, World.ownsRow_nil _ _ _ _, by simp, by simp⟩, rfl, Nat.zero_le _, Nat.zero_le _, rfl, ⟨rfl, World.ownsRow_nil _ _ _ _, by simp, by simp⟩, Nat.zero_le _, ⟨rfl, rfl, rfl, rfl, rfl, rfl⟩, own_setCell a3 (by simp [Value.ownBlock]; exact hub), fun k hk => ⟨(a5 k hk).1, by simp [RWF, zF, M0, Value.ownBlock], by simp, by simp [RWF, zF, M0, Value.ownBlock], (a5 k hk).2⟩, by simp, by simp [RWF, zF, M0, Value.ownBlock], by simp [RWF, zF, M0, Value.ownBlock]⟩, rfl, rfl, hbw⟩
    · have := hbw.size; rw [HBE.out]; exact this
    · rw [← HLN.out]
      exact a2.kept (fun k hk => hne k (a5 k hk).1)
theorem results_cell_tmp {P : Program} {fn : Func} {p u : Tmp} {ty : TypeId} (h : fn.results = #[.cell p ty, .tmp u]) (tmps : Array Value) (w : World) (g : Nat) (t : TypeId) (cs : Array Value) (fr : Nat × Nat) (d : TypeDesc)
    (hp : tmps.getD p undef = .pointer (some ⟨g, 0, none⟩)) (hg : w.heap[g]? = some (.cells cs t fr))
    (hu : P.underlying ty = some d) (hd : (match d with | .struct _ | .array _ _ => true | _ => false) = true) (hi : (P.info? ty).map (·.size) = some cs.size) :
    (results fn tmps).run P w = .ok (.tuple #[.agg cs, tmps.getD u undef]) w := by
  have hp' : tmps[p]?.getD undef = .pointer (some ⟨g, 0, none⟩) := by simpa using hp
  simp [results, h, hp', asAddr, run_loadVar_row w g t ty cs fr d hg hu hd hi]
/-- what Run answers where it finds what it finds -/
def FR (K : Nat) (r : Fd × Nat) (w : World) (e : Ending) (w' : World) : Prop := Below w.heap.size w w' ∧ match r.1 with
  | none => e = .returned (.tuple #[.agg #[.bool false, .slice none 0 0, .int .i64 0, .int .i64 (r.2 : Int)], .int .i64 0])
  | some y => ∃ g, e = .returned (.tuple #[.agg #[.bool true, .slice (some ⟨g, 0, none⟩) K K, .int .i64 y.1, .int .i64 (r.2 : Int)], .int .i64 0]) ∧ w'.ownsRow w.heap.size 3 1 (.slice (some ⟨g, 0, none⟩) K K) K (I64 y.2)
/-- what Run answers where it is asked wrongly -/
def FE (c : Int) (w : World) (e : Ending) (w' : World) : Prop := Below w.heap.size w w' ∧ e = .returned (.tuple #[.agg #[.bool false, .slice none 0 0, .int .i64 0, .int .i64 0], .int .i64 c])
def errR (l : List In) (s k : Int) (n : Nat) (a : Int) : Int := if 4194304 < n then 2 else if mayB l s k = false then 90 else if a < 0 ∨ (n : Int) < a then 1 else 0
set_option maxRecDepth 100000 in
set_option maxHeartbeats 8000000 in
theorem run10_ok {w : World} {ad tad : Option Addr} {n c S K tn tc a : Nat} {anch : Bool} {l : List In} {tx : List Int} (hP : PI w w.heap.size ad n l) (hmay : mayB l (S : Int) (K : Int) = true) (hT : TextAt w.heap.size w tad tn tx) (hl : tn ≤ 4194304) (ha : a ≤ tn) :
    Calls Try.prog 14 #[pv ad n c (S : Int) (K : Int), .slice tad tn tc, .int .i64 (a : Int), .bool anch] w (FR K (lockRun (prOf l tx S K) tx.length a anch) w) := by
  obtain ⟨U, hU⟩ : ∃ U, U = (w.alloc (.cells #[.slice ad n c, .int .i64 (S : Int), .int .i64 (K : Int)] 24)).alloc (.cells #[.bool false, .slice none 0 0, .int .i64 0, .int .i64 0] 30) := ⟨_, rfl⟩
  have hb : Below w.heap.size w U := by rw [hU]; exact below_two' w _ _
  have hX : U.heap[w.heap.size]? = some (.cells #[.slice ad n c, .int .i64 (S : Int), .int .i64 (K : Int)] 24 (0, 0)) := by rw [hU]; exact (heap_alloc_old _ _ (by simp)).trans (heap_alloc_new w _)
  have hY : U.heap[w.heap.size + 1]? = some (.cells #[.bool false, .slice none 0 0, .int .i64 0, .int .i64 0] 30 (0, 0)) := by rw [hU]; exact two_new w _ _ _
  obtain ⟨x, hx⟩ : ∃ x, x = w.heap.size := ⟨_, rfl⟩
  obtain ⟨y, hy⟩ : ∃ y, y = w.heap.size + 1 := ⟨_, rfl⟩
  have hyU : w.heap.size + 1 < U.heap.size := (Array.getElem?_eq_some_iff.1 hY).1
  have hPU := hP.kept hb hb.size
  have hTU : TextAt U.heap.size U tad tn tx := (hT.below hb).mono hb.size
  have HCK := check10 (c := c) (s := (S : Int)) (k := (K : Int)) hPU
  rw [hmay] at HCK
  have htl : tn = tx.length := hT.1
  rw [← hx] at hX hb
  rw [← hy] at hY hyU
  obtain ⟨c0, c1, c2⟩ := three_cells hX
  have HB := hid hb
  have HX := hid hX
  have HY := hid hY
  have HXE := hid hx
  have hxy : x < y := by omega
  have HNM : Hid (∀ W, Below U.heap.size U W → Calls Try.prog 24 #[pv ad n c (S : Int) (K : Int), .slice tad tn tc] W fun e w' => ∃ b M sF, e = .returned (.pointer (some ⟨b, 0, none⟩)) ∧ GI w' W.heap.size b K l tx M [] none [] [] sF [] ∧ M.S = S ∧ M.fs = 0 ∧ Below W.heap.size W w') := fun W h => newMachine22 (hPU.kept h h.size) hmay ((hTU.below h).mono h.size)
  have HMAY := hid hmay
  have HTL := hid htl
  have b1 : decide ((4194304 : Int) < (tn : Int)) = false := by simp; omega
  have b1' : decide ((tn : Int) > (4194304 : Int)) = false := by simp; omega
  have b2 : decide ((a : Int) < 0) = false := by simp
  have b3 : decide ((a : Int) > (tn : Int)) = false := by simp; omega
  have b3' : decide ((tn : Int) < (a : Int)) = false := by simp; omega
  clear hP hT hPU hTU hb hX hY hmay htl
  generalize hr : lockRun (prOf l tx S K) tx.length a anch = r
  have HR := hid hr
  clear hr
  go_enter Try.func14, Try.ntmps14
  go_upto_region 1 with fail
  rw [← hU, ← hy, ← hx]
  clear hU hx hy
  go_upto_region 10 with (first | (go_at_call 19; (with_reducible refine HCK.mono ?_); rintro e w2 ⟨rfl, hb2⟩; have HB2 := hid hb2; have hx2 := (hb2.block x (by omega)).trans HX.out; obtain ⟨e0, e1, e2⟩ := three_cells hx2; have HNM2 := HNM.out w2 hb2; clear hb2 hx2 HCK c0 c1 c2) | (go_at_call 24; (with_reducible refine HNM2.mono ?_); rintro e w3 ⟨b, M, sF, rfl, hg, hS, hfs, hb3⟩; have HG := hid hg; have HB3 := hid hb3; have HRUN := run23 (a := a) (anch := anch) HMAY.out hg hS (by have := HTL.out; omega) (by have := HTL.out; omega) hfs; rw [HR.out] at HRUN; clear hg hS hfs hb3 HNM2) | (go_at_call 25; (with_reducible refine HRUN.mono ?_); rintro e w4 ⟨rfl, M', fb', hm4, hf4, hfs4, hb4⟩; have HM4 := hid hm4; have HF4 := hid hf4; have HFS4 := hid hfs4; have HB4 := hid hb4; clear hm4 hf4 hfs4 hb4 HRUN))
  have hY2 := (HB2.out.block y hyU).trans HY.out
  have hU2 : U.heap.size ≤ w2.heap.size := HB2.out.size
  have hY3 := (HB3.out.block y (by omega)).trans hY2
  have hY4 := (HB4.out.block y (by omega)).trans hY3
  have s0 := Joins.unfrozen_of_block hY4 0
  have s1 := Joins.unfrozen_of_block hY4 1
  have s2 := Joins.unfrozen_of_block hY4 2
  have s3 := Joins.unfrozen_of_block hY4 3
  have y0 := Joins.cell_of_block hY4 0
  have y1 := Joins.cell_of_block hY4 1
  have y2 := Joins.cell_of_block hY4 2
  have y3 := Joins.cell_of_block hY4 3
  have k13 := HM4.out.c 13
  have k14 := HM4.out.c 14
  have k15 := HM4.out.c 15
  have k16 := HM4.out.c 16
  simp at k13 k14 k15 k16
  rw [HFS4.out] at k16
  have HY4 := hid hY4
  clear hY2 hY3 hY4 e0 e1 e2
  have hbw : Below x w w4 := HB.out.trans (Joins.below_le (HB2.out.trans (Joins.below_le (HB3.out.trans HB4.out) hU2)) (by omega))
  have HBW := hid hbw
  clear hbw
  cases hr1 : r.1 with
  | none =>
    have hf := HF4.out
    rw [hr1] at hf
    obtain ⟨g1, g2, g3, g4, g5, g6⟩ := hf
    rw [g1] at k13
    rw [g2, g3, g4] at k14
    rw [g5] at k15
    clear g1 g2 g3 g4 g5 g6
    have HR1 := hid hr1
    clear hr1
    go_wp2
    refine bodyPost_ret (results_cell_tmp rfl _ _ y 30 _ (0, 0) _ rfl (Joins.block_setCell (i := 3) (Joins.block_setCell (i := 2) (Joins.block_setCell (i := 1) (Joins.block_setCell (i := 0) HY4.out _) _) _) _) Try.underlying30 rfl (by kernel_rfl)) rfl ?_
    refine ⟨?_, ?_⟩
    · rw [← HXE.out]
      exact (((HBW.out.setCell (p := ⟨y, 0, none⟩) (by show x ≤ y; omega) _).setCell (p := ⟨y, 1, none⟩) (by show x ≤ y; omega) _).setCell (p := ⟨y, 2, none⟩) (by show x ≤ y; omega) _).setCell (p := ⟨y, 3, none⟩) (by show x ≤ y; omega) _
    · rw [HR1.out]; rfl
  | some v =>
    have hf := HF4.out
    rw [hr1] at hf
    obtain ⟨g, g1, g2, g3, g4, g5, g6, g7⟩ := hf
    rw [g1] at k13
    rw [g2, g3, g4] at k14
    rw [g5] at k15
    have HROW := hid g7
    clear g1 g2 g3 g4 g5 g6 g7
    have HR1 := hid hr1
    clear hr1
    go_wp2
    refine bodyPost_ret (results_cell_tmp rfl _ _ y 30 _ (0, 0) _ rfl (Joins.block_setCell (i := 3) (Joins.block_setCell (i := 2) (Joins.block_setCell (i := 1) (Joins.block_setCell (i := 0) HY4.out _) _) _) _) Try.underlying30 rfl (by kernel_rfl)) rfl ?_
    refine ⟨?_, ?_⟩
    · rw [← HXE.out]
      exact (((HBW.out.setCell (p := ⟨y, 0, none⟩) (by show x ≤ y; omega) _).setCell (p := ⟨y, 1, none⟩) (by show x ≤ y; omega) _).setCell (p := ⟨y, 2, none⟩) (by show x ≤ y; omega) _).setCell (p := ⟨y, 3, none⟩) (by show x ≤ y; omega) _
    · rw [HR1.out]
      have hgy : (Value.slice (some ⟨g, 0, none⟩) K K).ownBlock ≠ some y := own_ne HROW.out HY4.out (by decide)
      refine ⟨g, rfl, ?_⟩
      have t := own_setCell (a := ⟨y, 3, none⟩) (u := .int .i64 (r.2 : Int)) (own_setCell (a := ⟨y, 2, none⟩) (u := .int .i64 v.1) (own_setCell (a := ⟨y, 1, none⟩) (u := .slice (some ⟨g, 0, none⟩) K K) (own_setCell (a := ⟨y, 0, none⟩) (u := .bool true) HROW.out hgy) hgy) hgy) hgy
      exact t.mono (by have := HXE.out; have := HB2.out.size; omega)
end Go.Proofs.Ytodpmmlfdkdemaa
