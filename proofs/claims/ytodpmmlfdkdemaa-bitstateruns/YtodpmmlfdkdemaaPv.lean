/- HELPERS: a visit in memory. -/
import Derived.Test.YtodpmmlfdkdemaaPh
namespace Go.Proofs.Ytodpmmlfdkdemaa
open Go.RowKit Go.Lk
set_option linter.unusedVariables false
set_option linter.unusedSimpArgs false
/-- what a visit does not turn -/
def Mv.core (M : Mv) : Mv := { M with bits := 0, z2 := none, n2 := 0, c2 := 0, k2 := 0, fok := false, f1 := none, f2 := 0, f3 := 0, fw := 0 }
theorem core_j {M M' : Mv} (h : M'.core = M.core) : M'.j = M.j := by have := congrArg Mv.j h; exact this
theorem core_K {M M' : Mv} (h : M'.core = M.core) : M'.K = M.K := by have := congrArg Mv.K h; exact this
/-- what a visit answers -/
def VP (N b : Nat) (l : List In) (tx : List Int) (w : World) (M : Mv) (E : List En) (sF fb : List Nat) (s' : Vst) (e : Ending) (w' : World) : Prop :=
  e = .returned (.bool (!s'.over)) ∧ ∃ M' E' sF' fb', VI w' N b l tx M' s' E' sF' fb' ∧ M'.core = M.core ∧ Chg w w' (VF b M E sF fb) (VF b M' E' sF' fb')
/-- what a visit asks -/
structure VC (K N b : Nat) (l : List In) (tx : List Int) (w : World) (M : Mv) (s : Vst) (E : List En) (sF fb : List Nat) (i : Nat) (c : List Int) (cb cp : Nat) : Prop where
  vi : VI w N b l tx M s E sF fb
  hK : M.K = K
  ov : s.over = false
  inv : Inv l.length K s
  lt : i < l.length
  cap : w.ownsRow N 3 1 (.slice (some ⟨cb, 0, none⟩) K cp) K (I64 c)
  cn : cb ∉ VF b M E sF fb
def VIH (K N b : Nat) (l : List In) (tx : List Int) (f : Nat) : Prop :=
  ∀ (i : Nat) (c : List Int) (s : Vst) (w : World) (M : Mv) (E : List En) (sF fb : List Nat) (cb cp : Nat), VC K N b l tx w M s E sF fb i c cb cp → l.length < f + s.met.length →
    Calls Try.prog 33 #[.pointer (some ⟨b, 0, none⟩), .int .i64 (i : Int), .slice (some ⟨cb, 0, none⟩) K cp] w (VP N b l tx w M E sF fb (vis (act l tx M.j) M.j f i c s))
theorem inst_at {w : World} {N b : Nat} {l : List In} {tx : List Int} {M : Mv} {s : Vst} {E : List En} {sF fb : List Nat} (h : VI w N b l tx M s E sF fb) {i : Nat} (hi : i < l.length) :
    ∃ pb po r1 r2 r3, M.ad = some ⟨pb, po, none⟩ ∧ M.n = l.length ∧ r2 = l[i].R.length ∧ ∀ W, Below N w W → (W.cell? ⟨pb, po + i * 5, none⟩ = some (.int .i64 l[i].op) ∧ W.cell? ⟨pb, po + i * 5 + 1, none⟩ = some (.int .i64 l[i].x) ∧ W.cell? ⟨pb, po + i * 5 + 2, none⟩ = some (.int .i64 l[i].y) ∧ W.cell? ⟨pb, po + i * 5 + 3, none⟩ = some (.int .i64 l[i].a) ∧ W.cell? ⟨pb, po + i * 5 + 4, none⟩ = some (.slice r1 r2 r3)) ∧ RowAt N W (.slice r1 r2 r3) l[i].R := by
  have hln := h.pi.len
  obtain ⟨pb, po, ND, e, hpb, hcs⟩ := h.pi.mem (by omega)
  obtain ⟨h5, hM⟩ := hcs i hi
  refine ⟨pb, po, (ND i).r1, (ND i).r2, (ND i).r3, e, hln, hM.len, fun W hb => ?_⟩
  obtain ⟨m0, m1, m2, m3, m4⟩ := h5.kept (hb.block pb hpb)
  have hM' := hM.kept hb (Nat.le_refl _)
  rw [hM.op] at m0
  rw [hM.x] at m1
  rw [hM.y] at m2
  rw [hM.a] at m3
  exact ⟨⟨m0, m1, m2, m3, m4⟩, hM'.row⟩
section
variable {K N b : Nat} {l : List In} {tx : List Int} {w w' : World} {M M' : Mv} {s s' : Vst} {E E' : List En} {sF fb sF' fb' : List Nat} {i : Nat} {c : List Int} {cb cp : Nat}
theorem VC.kept (h : VC K N b l tx w M s E sF fb i c cb cp) (hv : VI w' N b l tx M' s' E' sF' fb') (hM : M'.core = M.core) (hc : Chg w w' (VF b M E sF fb) (VF b M' E' sF' fb')) (ho : s'.over = false) (hi : Inv l.length K s') {i' : Nat} (hl : i' < l.length) : VC K N b l tx w' M' s' E' sF' fb' i' c cb cp := by
  have hcl := h.cap.lt cb rfl
  exact ⟨hv, (core_K hM).trans h.hK, ho, hi, hl, row_kept h.cap (fun k hk => by simp [Value.ownBlock] at hk; subst hk; exact hc.block _ hcl.2 h.cn), fun hm => by
    rcases hc.new cb hm with h' | h'
    · exact h.cn h'
    · omega⟩
theorem VP.after (h1 : Chg w w' (VF b M E sF fb) (VF b M' E' sF' fb')) (hM : M'.core = M.core) {s2 : Vst} {e : Ending} {w2 : World} (h : VP N b l tx w' M' E' sF' fb' s2 e w2) : VP N b l tx w M E sF fb s2 e w2 := by
  obtain ⟨he, M2, E2, sF2, fb2, h2, h3, h4⟩ := h
  exact ⟨he, M2, E2, sF2, fb2, h2, h3.trans hM, h1.trans h4⟩
end
theorem vis_step {A : Nat → Ac} {j f i : Nat} {c : List Int} {s : Vst} (ho : s.over = false) (hm : i ∉ s.met) : vis A j (f + 1) i c s = (match A i with
    | .alt x y => vis A j f y c (vis A j f x c (s.mark i))
    | .go x => vis A j f x c (s.mark i)
    | .cap x a => vis A j f x (c.set a (j : Int)) (s.mark i)
    | .rune x => { s.mark i with next := s.next ++ [(x, c)] }
    | .fit a => { s.mark i with found := some (a, c), over := true }
    | .stop => s.mark i) := by
  conv => lhs; unfold vis
  rw [if_neg (by simp [ho, hm])]
  cases A i <;> rfl
set_option maxRecDepth 100000 in
set_option maxHeartbeats 4000000 in
theorem visit_old {K N b : Nat} {l : List In} {tx : List Int} {w : World} {M : Mv} {s : Vst} {E : List En} {sF fb : List Nat} {i : Nat} {c : List Int} {cb cp : Nat} (f : Nat) (h : VC K N b l tx w M s E sF fb i c cb cp) (hm : i ∈ s.met) :
    Calls Try.prog 33 #[.pointer (some ⟨b, 0, none⟩), .int .i64 (i : Int), .slice (some ⟨cb, 0, none⟩) K cp] w (VP N b l tx w M E sF fb (vis (act l tx M.j) M.j (f + 1) i c s)) := by
  have e1 : vis (act l tx M.j) M.j (f + 1) i c s = s := by unfold vis; rw [if_pos (by simp [hm])]
  rw [e1]
  have HA := add10_no N M.sb sF l.length (ints s.met) (i : Int) w h.vi.set (fun hn => hn.2.2 (mem_ints.2 hm))
  have c5 := h.vi.mb.c 5
  simp at c5
  have HH := hid h
  clear h e1
  generalize hsb : M.sb = sb at c5 HA
  have HSB := hid hsb
  clear hsb
  go_enter Try.func33, Try.ntmps33
  go_wp2_with (go_at_call 59; (with_reducible refine HA.mono ?_); rintro e w2 ⟨rfl, hs2, hc2⟩; have HS := hid hs2; have HC := hid hc2; clear hs2 hc2 HA)
  go_ret
  obtain ⟨h1, h2⟩ := HH.out.vi.again (by rw [HSB.out]; exact HS.out) HC.out
  exact ⟨ret_bool (by rw [HH.out.ov]; rfl), M, E, sF, fb, h1, rfl, h2⟩
set_option maxRecDepth 100000 in
set_option maxHeartbeats 4000000 in
theorem visit_nop {K N b : Nat} {l : List In} {tx : List Int} {w : World} {M : Mv} {s : Vst} {E : List En} {sF fb : List Nat} {i : Nat} {c : List Int} {cb cp : Nat} {S : Int} (hmay : mayB l S (K : Int) = true) (f : Nat) (ih : Hid (VIH K N b l tx f)) (h : VC K N b l tx w M s E sF fb i c cb cp) (hf : l.length < f + 1 + s.met.length) (hm : i ∉ s.met) (hlt : i < l.length) (hop : l[i].op = 7) :
    Calls Try.prog 33 #[.pointer (some ⟨b, 0, none⟩), .int .i64 (i : Int), .slice (some ⟨cb, 0, none⟩) K cp] w (VP N b l tx w M E sF fb (vis (act l tx M.j) M.j (f + 1) i c s)) := by
  have hm20 := (may_ok hmay).1
  have hok := (may_ok hmay).2.2.2.2.2 _ (List.getElem_mem hlt)
  have hx := ok_x hok (by rw [hop]; rfl)
  obtain ⟨x, hxe⟩ := Int.eq_ofNat_of_zero_le hx.1
  have e1 : vis (act l tx M.j) M.j (f + 1) i c s = vis (act l tx M.j) M.j f x c (s.mark i) := by
    rw [vis_step h.ov hm]
    have : act l tx M.j i = .go x := by unfold act actI; rw [getD_in' hlt, hop, hxe]; simp
    rw [this]
  rw [e1]
  have HA := add10_yes N M.sb sF l.length (ints s.met) i w h.vi.set hlt (fun hn => hm (mem_ints.1 hn)) (by rw [ints_len]; have := h.inv.small; omega) h.vi.nw
  obtain ⟨pb, po, r1, r2, r3, hpa, hpn, hpr, hcs⟩ := inst_at h.vi hlt
  have c5 := h.vi.mb.c 5
  simp at c5
  have HH := hid h
  have HCS := hid hcs
  have HPA := hid hpa
  have HPN := hid hpn
  have HOP := hid hop
  have HXE := hid hxe
  have hiv := h.inv.mark hlt hm
  have HIV := hid hiv
  have hlen : ((s.mark i).met).length = s.met.length + 1 := by simp [Vst.mark]
  have HLEN := hid hlen
  have b2 : (i : Int) < (l.length : Int) := by omega
  have hxl : x < l.length := by omega
  clear h e1 hcs hpa hpn hop hxe hiv hlen hpr
  generalize hsb : M.sb = sb at c5 HA
  have HSB := hid hsb
  clear hsb
  go_enter Try.func33, Try.ntmps33
  go_wp2_with (first | (go_at_call 59; (with_reducible refine HA.mono ?_); rintro e w2 ⟨rfl, sF2, hs2, hc2⟩; rw [← HSB.out] at hs2; obtain ⟨h1, h2⟩ := HH.out.vi.add hs2 hc2; have hbel := hc2.below HH.out.vi.nw (fun k hk => (HH.out.vi.set.low k hk).1); obtain ⟨⟨m0, m1, m2, m3, m4⟩, hrow⟩ := HCS.out w2 hbel; have d0 := h1.mb.c 0; simp at d0; rw [HPA.out, HPN.out] at d0; rw [HOP.out] at m0; rw [HXE.out] at m1; have HC := hid h2; have HV := hid (HH.out.kept h1 rfl h2 HH.out.ov HIV.out hxl); have HI := ih.out x c (s.mark i) w2 M E sF2 fb cb cp HV.out (by have := HLEN.out; omega); clear hs2 hc2 HA h1 h2 hbel m2 m3 m4 hrow c5) | (go_at_call 33; (with_reducible refine HI.mono ?_); rintro e w3 hvp; have HP := hid hvp; obtain ⟨rfl, _⟩ := hvp))
  go_ret
  exact HP.out.after HC.out rfl
end Go.Proofs.Ytodpmmlfdkdemaa
