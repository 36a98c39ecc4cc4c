/- PROVED: the law LiteralPrefixes of layer 15 answers true for every two programs, whether they may be or not, and they read afterwards as they read before: Prefix answers as the document's does (the row of runes with which every match begins, and whether it is the whole), asked twice, another program between, and again when the program's owner has written other things into its lists; the program that was lent, and the marks behind its lists, stand; what came out is its owner's, and grows without touching what else came out.
   CONDITIONS: none but the form's own (each slice and string at most 2^47 - 4096 bytes). -/
import Derived.Test.YtiggbgmnibndoaaK06
import Derived.Test.YtiggbgmnibndoaaRows
/- HELPERS: the law LiteralPrefixes. Made by tools/gen_litpre.py. -/
namespace Go.Proofs.Ytiggbgmnibndoaa
open Go.RowKit Go.Lk Kmp
set_option linter.unusedVariables false
set_option linter.unusedSimpArgs false
theorem rowF_len (l : List In) : ∀ (k : Nat) (met : List Nat) (i : Nat), (rowF l k met i).1.length ≤ k
  | 0, _, _ => by simp [rowF]
  | k + 1, met, i => by
    have h := rowF_len l k (i :: met) (l.getD i default).x.toNat
    unfold rowF
    split
    · simp
    · split
      · simp
      · split
        · simp only [List.length_cons]; omega
        · split
          · omega
          · simp
theorem pre_len (l : List In) (s k : Int) : (preP l s k).1.length ≤ 20001 := by
  unfold preP
  split
  · rename_i h
    have h1 := (may_ok h).1
    have h2 := rowF_len l (l.length + 1) [] s.toNat
    unfold rowP
    omega
  · simp
theorem OC.mono {w : World} {base base' e n : Nat} {v : Value} {xs : List Value} (h : OC w base e v n xs) (hb : base' ≤ base) : OC w base' e v n xs := by
  refine ⟨h.1, h.2.imp id ?_⟩
  rintro ⟨g, cap, cur, h1, h2, h3⟩
  exact ⟨g, cap, cur, h1, by omega, h3⟩
theorem OC.ne {w : World} {base e n g : Nat} {v : Value} {xs : List Value} {c : Array Value} {t : TypeId} {fr : Nat × Nat} (ho : OC w base e v n xs) (hg : w.heap[g]? = some (.cells c t fr)) (ht : t ≠ e) : v.ownBlock ≠ some g := by
  intro h
  rcases ho.2 with ⟨rfl, _⟩ | ⟨b, cap, cur, rfl, hb, hgg, rest⟩
  · simp [Value.ownBlock] at h
  · simp [Value.ownBlock] at h
    subst h
    rw [hgg] at hg
    simp at hg
    exact ht hg.2.1.symm
theorem OC.chs {W W' : World} {NB M n : Nat} {v : Value} {xs : List Value} (h : OC W M 3 v n xs) (hc : Chs (AT W NB) W W') : OC W' M 3 v n xs := h.kept (fun b hb => by
  rcases h.2 with ⟨e, _⟩ | ⟨g, cap, cur, e, _, hg, _⟩
  · subst e; simp [Value.ownBlock] at hb
  · subst e
    simp [Value.ownBlock] at hb
    subst hb
    exact (BX.chs (cs := cur) hg hc (by decide) (by decide)).trans hg.symm)
theorem sameOC {w : World} {N1 N2 n c1 c2 : Nat} {a1 a2 : Option Addr} {l : List Int} (h1 : OC w N1 3 (.slice a1 n c1) n (I64 l)) (h2 : OC w N2 3 (.slice a2 n c2) n (I64 l)) (hn : n ≤ 20001) : Calls Try.prog 15 #[.slice a1 n c1, .slice a2 n c2] w fun e w' => e = .returned (.bool true) ∧ Below w.heap.size w w' := by
  have hl : l.length = n := by have := h1.1; simpa [I64] using this
  obtain ⟨_, _, e1, t1⟩ := h1.text (by omega)
  obtain ⟨_, _, e2, t2⟩ := h2.text (by omega)
  simp only [Value.slice.injEq] at e1 e2
  obtain ⟨rfl, _, rfl⟩ := e1
  obtain ⟨rfl, _, rfl⟩ := e2
  refine (same14 l l _ _ w (txt_ints t1) (txt_ints t2) (by omega) (by omega)).mono ?_
  rintro e w' ⟨he, q, rfl⟩
  exact ⟨by rw [he]; simp, (Eqw.drewN w q).below _⟩
theorem owned_fourC {W : World} {B N1 T1 N2 T2 N3 T3 N4 g : Nat} {va vb vc vd : Value} {na nb nc nd : Nat} {la lb lc ld : List Int} (hg : BX W g #[va, vb, vc, vd] 29) (hs : B ≤ W.heap.size) (hB : B ≤ N1) (h12 : T1 ≤ N2) (h23 : T2 ≤ N3) (h34 : T3 ≤ N4)
    (la' : ∀ b, va.ownBlock = some b → N1 ≤ b ∧ b < T1) (lb' : ∀ b, vb.ownBlock = some b → N2 ≤ b ∧ b < T2) (lc' : ∀ b, vc.ownBlock = some b → N3 ≤ b ∧ b < T3) (hN1 : N1 ≤ T1) (hN2 : N2 ≤ T2) (hN3 : N3 ≤ T3)
    (ra : OC W N1 3 va na (I64 la)) (rb : OC W N2 3 vb nb (I64 lb)) (rc : OC W N3 3 vc nc (I64 lc)) (rd : OC W N4 3 vd nd (I64 ld)) (hl : na ≤ 20001 ∧ nb ≤ 20001 ∧ nc ≤ 20001 ∧ nd ≤ 20001) :
    Calls Try.prog 17 #[.slice (some ⟨g, 0, none⟩) 4 4] W fun e w' => e = .returned (.bool true) ∧ Below B W w' := by
  have ld' : ∀ b, vd.ownBlock = some b → N4 ≤ b ∧ b < W.heap.size := fun b hb => rd.lt b hb
  have lgt : ∀ v : Value, ∀ N n (l : List Int), OC W N 3 v n (I64 l) → v.ownBlock ≠ some g := fun v N n l h => OC.ne h hg (by decide)
  have lo4 : ∀ j, j < 4 → ∀ b, (rows4 va vb vc vd j).ownBlock = some b → B ≤ b ∧ b < W.heap.size := four_lt (fun b hb => ⟨by have := (la' b hb).1; omega, (ra.lt b hb).2⟩) (fun b hb => ⟨by have := (lb' b hb).1; omega, (rb.lt b hb).2⟩) (fun b hb => ⟨by have := (lc' b hb).1; omega, (rc.lt b hb).2⟩) (fun b hb => ⟨by have := (ld' b hb).1; omega, (ld' b hb).2⟩)
  refine ownedC B g 4 4 (rows4 va vb vc vd) (lens4 na nb nc nd) W (by omega) ⟨hg.lt, hs, ?_, ?_, lo4, fun j => rfl⟩ ?_ ?_ ?_
  · intro i j hi hj hij b hb hb'
    have key : ∀ i, i < 4 → ∀ b, (rows4 va vb vc vd i).ownBlock = some b → lens4 N1 N2 N3 N4 i ≤ b ∧ (i < 3 → b < lens4 N2 N3 N4 0 i) := four_lt (fun b hb => ⟨(la' b hb).1, fun _ => by have := (la' b hb).2; show b < N2; omega⟩) (fun b hb => ⟨(lb' b hb).1, fun _ => by have := (lb' b hb).2; show b < N3; omega⟩) (fun b hb => ⟨(lc' b hb).1, fun _ => by have := (lc' b hb).2; show b < N4; omega⟩) (fun b hb => ⟨(ld' b hb).1, fun h => by omega⟩)
    have mono : ∀ i, i < 4 → ∀ j, j < 4 → i < j → lens4 N2 N3 N4 0 i ≤ lens4 N1 N2 N3 N4 j := by
      intro i hi j hj hlt
      rcases (show i = 0 ∨ i = 1 ∨ i = 2 by omega) with rfl | rfl | rfl
      · rcases (show j = 1 ∨ j = 2 ∨ j = 3 by omega) with rfl | rfl | rfl <;> (simp only [lens4]; omega)
      · rcases (show j = 2 ∨ j = 3 by omega) with rfl | rfl <;> (simp only [lens4]; omega)
      · rcases (show j = 3 by omega) with rfl; simp only [lens4]; omega
    have h1 := key i hi b hb
    have h2 := key j hj b hb'
    rcases Nat.lt_or_gt_of_ne hij with h | h
    · have := mono i hi j hj h
      have := h1.2 (by omega)
      omega
    · have := mono j hj i hi h
      have := h2.2 (by omega)
      omega
  · exact four_lt (lgt _ _ _ _ ra) (lgt _ _ _ _ rb) (lgt _ _ _ _ rc) (lgt _ _ _ _ rd)
  · exact four_lt ⟨_, ra.mono hB⟩ ⟨_, rb.mono (by omega)⟩ ⟨_, rc.mono (by omega)⟩ ⟨_, rd.mono (by omega)⟩
  · exact four_lt (Joins.cell_of_block hg 0) (Joins.cell_of_block hg 1) (Joins.cell_of_block hg 2) (Joins.cell_of_block hg 3)
  · exact four_lt (by show na ≤ _; omega) (by show nb ≤ _; omega) (by show nc ≤ _; omega) (by show nd ≤ _; omega)
set_option maxRecDepth 100000 in
set_option maxHeartbeats 32000000 in
theorem prefixes4 {w : World} {ad ad2 : Option Addr} {n c n2 c2 : Nat} {s k s2 k2 : Int} {l l2 : List In} (hP : PI w w.heap.size ad n l) (hP2 : PI w w.heap.size ad2 n2 l2) (hn : n * 56 ≤ 140737488351232) :
    Calls Try.prog 4 #[pv ad n c s k, pv ad2 n2 c2 s2 k2] w fun e w' => e = .returned (.bool true) ∧ Below w.heap.size w w' := by
  obtain ⟨B, hB⟩ : ∃ B, B = w.heap.size := ⟨_, rfl⟩
  obtain ⟨U, hU⟩ : ∃ U, U = (w.alloc (.cells #[.slice ad n c, .int .i64 s, .int .i64 k] 27)).alloc (.cells #[.slice ad2 n2 c2, .int .i64 s2, .int .i64 k2] 27) := ⟨_, rfl⟩
  have hbU : Below w.heap.size w U := by rw [hU]; exact (Joins.below_alloc1 w _).trans (Joins.below_le (Joins.below_alloc1 _ _) (by simp))
  have q0 : U.heap[w.heap.size]? = some (.cells #[.slice ad n c, .int .i64 s, .int .i64 k] 27 (0, 0)) := by rw [hU]; exact (heap_alloc_old _ _ (by simp)).trans (heap_alloc_new w _)
  have q1 : U.heap[w.heap.size + 1]? = some (.cells #[.slice ad2 n2 c2, .int .i64 s2, .int .i64 k2] 27 (0, 0)) := by have h := heap_alloc_new (w.alloc (.cells #[.slice ad n c, .int .i64 s, .int .i64 k] 27)) (.cells #[.slice ad2 n2 c2, .int .i64 s2, .int .i64 k2] 27); rw [← hU] at h; simpa using h
  obtain ⟨x0, hx0⟩ : ∃ x0, x0 = w.heap.size := ⟨_, rfl⟩
  obtain ⟨x1, hx1⟩ : ∃ x1, x1 = w.heap.size + 1 := ⟨_, rfl⟩
  rw [← hx0] at q0
  rw [← hx1] at q1
  have B0 : Hid (BX U x0 #[.slice ad n c, .int .i64 s, .int .i64 k] 27) := q0
  have B1 : Hid (BX U x1 #[.slice ad2 n2 c2, .int .i64 s2, .int .i64 k2] 27) := q1
  have HP0 : Hid (PI w B ad n l) := by show PI _ _ _ _ _; rw [hB]; exact hP
  have HP2 : Hid (PI w B ad2 n2 l2) := by show PI _ _ _ _ _; rw [hB]; exact hP2
  have HTOT : Hid (Below B w U) := by show Below _ _ _; rw [hB]; exact hbU
  have HBE := hid hB
  have HAW := awake8 U
  clear hP hP2 q0 q1 hbU
  go_enter Try.func4, Try.ntmps4
  go_upto_region 1 with fail
  rw [← hU, ← hx1, ← hx0]
  clear hU hx0 hx1 hB
  go_upto_region 2 with (go_at_call 8; (with_reducible refine HAW.mono ?_); rintro e w1 ⟨rfl, hb⟩; have HB1 := hid hb; clear hb HAW)
  have hsU : B ≤ U.heap.size := by have := HTOT.out.size; have := HBE.out; omega
  replace B0 : Hid (BX w1 x0 #[.slice ad n c, .int .i64 s, .int .i64 k] 27) := BX.kept B0.out HB1.out
  replace B1 : Hid (BX w1 x1 #[.slice ad2 n2 c2, .int .i64 s2, .int .i64 k2] 27) := BX.kept B1.out HB1.out
  replace HTOT : Hid (Below B w w1) := HTOT.out.trans (Joins.below_le HB1.out hsU)
  clear HB1 hsU
  have hsw1 : B ≤ w1.heap.size := by have := HTOT.out.size; have := HBE.out; omega
  have HC := lent9 (c := c) (s := s) (k := k) (HP0.out.kept HTOT.out hsw1) hn
  obtain ⟨NB, hNB⟩ : ∃ NB, NB = w1.heap.size := ⟨_, rfl⟩
  have hNBB : B ≤ NB := by omega
  rw [← hNB] at HC
  have HNB := hid hNB
  clear hNB
  obtain ⟨e0, e1, e2⟩ := three_cells B0.out
  go_upto_region 3 with (go_at_call 10; (with_reducible refine HC.mono ?_); rintro e w5 ⟨gz, MS, rfl, hpl, hb⟩; have PLQ := hid hpl; have HB := hid hb; clear hpl hb HC e0 e1 e2)
  replace HB : Hid (Below w1.heap.size w1 w5) := by show Below _ _ _; rw [← HNB.out]; exact HB.out
  obtain ⟨U5, hU5⟩ : ∃ U5, U5 = w5.alloc (.cells #[.slice (some ⟨gz, 0, none⟩) n (n + 2), .int .i64 s, .int .i64 k] 27) := ⟨_, rfl⟩
  obtain ⟨xq, hxq⟩ : ∃ xq, xq = w5.heap.size := ⟨_, rfl⟩
  rw [← hU5, ← hxq]
  have hbb : Below w5.heap.size w5 U5 := by rw [hU5]; exact Joins.below_alloc1 w5 _
  have BXxq : Hid (BX U5 xq #[.slice (some ⟨gz, 0, none⟩) n (n + 2), .int .i64 s, .int .i64 k] 27) := by show BX _ _ _ _; rw [hU5, hxq]; exact BX.new w5 _ _
  have HBV : Hid (Below w1.heap.size w1 U5) := HB.out.trans (Joins.below_le hbb HB.out.size)
  replace B0 : Hid (BX U5 x0 #[.slice ad n c, .int .i64 s, .int .i64 k] 27) := BX.kept B0.out HBV.out
  replace B1 : Hid (BX U5 x1 #[.slice ad2 n2 c2, .int .i64 s2, .int .i64 k2] 27) := BX.kept B1.out HBV.out
  replace HTOT : Hid (Below B w U5) := HTOT.out.trans (Joins.below_le HBV.out hsw1)
  replace PLQ : Hid (PL U5 NB (some ⟨gz, 0, none⟩) n (n + 2) l MS) := PL.below PLQ.out hbb
  clear hU5 hxq hbb HB HBV hsw1
  have hsU5 : B ≤ U5.heap.size := by have := HTOT.out.size; have := HBE.out; omega
  have HC := prefix11 (c := n + 2) (s := s) (k := k) PLQ.out.pi
  obtain ⟨y1, hy1⟩ : ∃ x, x = (preP l s k).1 := ⟨_, rfl⟩
  obtain ⟨b1, hb1⟩ : ∃ x, x = (preP l s k).2 := ⟨_, rfl⟩
  obtain ⟨m1, hm1⟩ : ∃ x, x = y1.length := ⟨_, rfl⟩
  have len1 : m1 ≤ 20001 := by rw [hm1, hy1]; exact pre_len _ _ _
  have HL1 := hid hy1
  have HB1 := hid hb1
  have HM1 := hid hm1
  clear hy1 hb1 hm1
  rw [← HL1.out, ← HB1.out, ← HM1.out] at HC
  obtain ⟨Na, hNa⟩ : ∃ Na, Na = U5.heap.size := ⟨_, rfl⟩
  rw [← hNa] at HC
  have HNa := hid hNa
  have hlea : B ≤ Na := by omega
  clear hNa
  obtain ⟨g0, g1, g2⟩ := three_cells BXxq.out
  go_upto_region 4 with (go_at_call 11; (with_reducible refine HC.mono ?_); rintro e w6 ⟨va, rfl, hro, hb⟩; obtain ⟨⟨ra, ca, e5⟩, -⟩ := OC.form_head hro; subst e5; have Ra := hid hro; have HB := hid hb; clear hro hb HC g0 g1 g2)
  replace HB : Hid (Below U5.heap.size U5 w6) := by show Below _ _ _; rw [← HNa.out]; exact HB.out
  replace B0 : Hid (BX w6 x0 #[.slice ad n c, .int .i64 s, .int .i64 k] 27) := BX.kept B0.out HB.out
  replace B1 : Hid (BX w6 x1 #[.slice ad2 n2 c2, .int .i64 s2, .int .i64 k2] 27) := BX.kept B1.out HB.out
  replace PLQ : Hid (PL w6 NB (some ⟨gz, 0, none⟩) n (n + 2) l MS) := PL.below PLQ.out HB.out
  replace BXxq : Hid (BX w6 xq #[.slice (some ⟨gz, 0, none⟩) n (n + 2), .int .i64 s, .int .i64 k] 27) := BX.kept BXxq.out HB.out
  replace HTOT : Hid (Below B w w6) := HTOT.out.trans (Joins.below_le HB.out hsU5)
  obtain ⟨Ta, hTa⟩ : ∃ Ta, Ta = w6.heap.size := ⟨_, rfl⟩
  have La : Hid (∀ b, (Value.slice ra m1 ca).ownBlock = some b → Na ≤ b ∧ b < Ta) := fun b hb => by have := Ra.out.lt b hb; rw [hTa]; exact this
  have NTa : Na ≤ Ta := by have := HB.out.size; have := HNa.out; omega
  have SZa : Hid (Ta ≤ w6.heap.size) := by show Ta ≤ _; omega
  clear hTa
  clear HB hsU5
  have HZa := SZa
  have hsw6 : B ≤ w6.heap.size := by have := HTOT.out.size; have := HBE.out; omega
  have HC := prefix11 (c := c2) (s := s2) (k := k2) (HP2.out.kept HTOT.out hsw6)
  obtain ⟨y2, hy2⟩ : ∃ x, x = (preP l2 s2 k2).1 := ⟨_, rfl⟩
  obtain ⟨b2, hb2⟩ : ∃ x, x = (preP l2 s2 k2).2 := ⟨_, rfl⟩
  obtain ⟨m2, hm2⟩ : ∃ x, x = y2.length := ⟨_, rfl⟩
  have len2 : m2 ≤ 20001 := by rw [hm2, hy2]; exact pre_len _ _ _
  have HL2 := hid hy2
  have HB2 := hid hb2
  have HM2 := hid hm2
  clear hy2 hb2 hm2
  rw [← HL2.out, ← HB2.out, ← HM2.out] at HC
  obtain ⟨Nb, hNb⟩ : ∃ Nb, Nb = w6.heap.size := ⟨_, rfl⟩
  rw [← hNb] at HC
  have HNb := hid hNb
  have hleb : B ≤ Nb := by omega
  clear hNb
  obtain ⟨g0, g1, g2⟩ := three_cells B1.out
  go_upto_region 5 with (go_at_call 11; (with_reducible refine HC.mono ?_); rintro e w7 ⟨vb, rfl, hro, hb⟩; obtain ⟨⟨rb, cb, e5⟩, -⟩ := OC.form_head hro; subst e5; have Rb := hid hro; have HB := hid hb; clear hro hb HC g0 g1 g2)
  replace HB : Hid (Below w6.heap.size w6 w7) := by show Below _ _ _; rw [← HNb.out]; exact HB.out
  replace B0 : Hid (BX w7 x0 #[.slice ad n c, .int .i64 s, .int .i64 k] 27) := BX.kept B0.out HB.out
  replace B1 : Hid (BX w7 x1 #[.slice ad2 n2 c2, .int .i64 s2, .int .i64 k2] 27) := BX.kept B1.out HB.out
  replace PLQ : Hid (PL w7 NB (some ⟨gz, 0, none⟩) n (n + 2) l MS) := PL.below PLQ.out HB.out
  replace BXxq : Hid (BX w7 xq #[.slice (some ⟨gz, 0, none⟩) n (n + 2), .int .i64 s, .int .i64 k] 27) := BX.kept BXxq.out HB.out
  replace Ra : Hid (OC w7 Na 3 (.slice ra m1 ca) m1 (I64 y1)) := OC.below Ra.out HB.out
  replace SZa : Hid (Ta ≤ w7.heap.size) := Nat.le_trans SZa.out (HB.out).size
  replace HTOT : Hid (Below B w w7) := HTOT.out.trans (Joins.below_le HB.out hsw6)
  obtain ⟨Tb, hTb⟩ : ∃ Tb, Tb = w7.heap.size := ⟨_, rfl⟩
  have Lb : Hid (∀ b, (Value.slice rb m2 cb).ownBlock = some b → Nb ≤ b ∧ b < Tb) := fun b hb => by have := Rb.out.lt b hb; rw [hTb]; exact this
  have NTb : Nb ≤ Tb := by have := HB.out.size; have := HNb.out; omega
  have SZb : Hid (Tb ≤ w7.heap.size) := by show Tb ≤ _; omega
  clear hTb
  clear HB hsw6
  have h12 : Ta ≤ Nb := by have := HZa.out; have := HNb.out; omega
  have HZb := SZb
  have hsw7 : B ≤ w7.heap.size := by have := HTOT.out.size; have := HBE.out; omega
  have HC := prefix11 (c := n + 2) (s := s) (k := k) PLQ.out.pi
  rw [← HL1.out, ← HB1.out, ← HM1.out] at HC
  obtain ⟨Nc, hNc⟩ : ∃ Nc, Nc = w7.heap.size := ⟨_, rfl⟩
  rw [← hNc] at HC
  have HNc := hid hNc
  have hlec : B ≤ Nc := by omega
  clear hNc
  obtain ⟨g0, g1, g2⟩ := three_cells BXxq.out
  go_upto_region 6 with (go_at_call 11; (with_reducible refine HC.mono ?_); rintro e w8 ⟨vc, rfl, hro, hb⟩; obtain ⟨⟨rc, cc, e5⟩, -⟩ := OC.form_head hro; subst e5; have Rc := hid hro; have HB := hid hb; clear hro hb HC g0 g1 g2)
  replace HB : Hid (Below w7.heap.size w7 w8) := by show Below _ _ _; rw [← HNc.out]; exact HB.out
  replace B0 : Hid (BX w8 x0 #[.slice ad n c, .int .i64 s, .int .i64 k] 27) := BX.kept B0.out HB.out
  replace B1 : Hid (BX w8 x1 #[.slice ad2 n2 c2, .int .i64 s2, .int .i64 k2] 27) := BX.kept B1.out HB.out
  replace PLQ : Hid (PL w8 NB (some ⟨gz, 0, none⟩) n (n + 2) l MS) := PL.below PLQ.out HB.out
  replace BXxq : Hid (BX w8 xq #[.slice (some ⟨gz, 0, none⟩) n (n + 2), .int .i64 s, .int .i64 k] 27) := BX.kept BXxq.out HB.out
  replace Ra : Hid (OC w8 Na 3 (.slice ra m1 ca) m1 (I64 y1)) := OC.below Ra.out HB.out
  replace SZa : Hid (Ta ≤ w8.heap.size) := Nat.le_trans SZa.out (HB.out).size
  replace Rb : Hid (OC w8 Nb 3 (.slice rb m2 cb) m2 (I64 y2)) := OC.below Rb.out HB.out
  replace SZb : Hid (Tb ≤ w8.heap.size) := Nat.le_trans SZb.out (HB.out).size
  replace HTOT : Hid (Below B w w8) := HTOT.out.trans (Joins.below_le HB.out hsw7)
  obtain ⟨Tc, hTc⟩ : ∃ Tc, Tc = w8.heap.size := ⟨_, rfl⟩
  have Lc : Hid (∀ b, (Value.slice rc m1 cc).ownBlock = some b → Nc ≤ b ∧ b < Tc) := fun b hb => by have := Rc.out.lt b hb; rw [hTc]; exact this
  have NTc : Nc ≤ Tc := by have := HB.out.size; have := HNc.out; omega
  have SZc : Hid (Tc ≤ w8.heap.size) := by show Tc ≤ _; omega
  clear hTc
  clear HB hsw7
  have h23 : Tb ≤ Nc := by have := HZb.out; have := HNc.out; omega
  have hsw8 : B ≤ w8.heap.size := by have := HTOT.out.size; have := HBE.out; omega
  have HC := rprefix12 (c := c) (s := s) (k := k) (HP0.out.kept HTOT.out hsw8)
  rw [← HL1.out, ← HB1.out, ← HM1.out] at HC
  obtain ⟨Nw, hNw⟩ : ∃ Nw, Nw = w8.heap.size := ⟨_, rfl⟩
  rw [← hNw] at HC
  have HNw := hid hNw
  have hlew : B ≤ Nw := by omega
  clear hNw
  obtain ⟨g0, g1, g2⟩ := three_cells B0.out
  go_upto_region 7 with (go_at_call 12; (with_reducible refine HC.mono ?_); rintro e w9 ⟨vw, rfl, hro, hb⟩; obtain ⟨⟨rw, cw, e5⟩, -⟩ := OC.form_head (OC.of hro); subst e5; have Rw := hid (OC.of hro); have HB := hid hb; clear hro hb HC g0 g1 g2)
  replace HB : Hid (Below w8.heap.size w8 w9) := by show Below _ _ _; rw [← HNw.out]; exact HB.out
  replace B0 : Hid (BX w9 x0 #[.slice ad n c, .int .i64 s, .int .i64 k] 27) := BX.kept B0.out HB.out
  replace B1 : Hid (BX w9 x1 #[.slice ad2 n2 c2, .int .i64 s2, .int .i64 k2] 27) := BX.kept B1.out HB.out
  replace PLQ : Hid (PL w9 NB (some ⟨gz, 0, none⟩) n (n + 2) l MS) := PL.below PLQ.out HB.out
  replace BXxq : Hid (BX w9 xq #[.slice (some ⟨gz, 0, none⟩) n (n + 2), .int .i64 s, .int .i64 k] 27) := BX.kept BXxq.out HB.out
  replace Ra : Hid (OC w9 Na 3 (.slice ra m1 ca) m1 (I64 y1)) := OC.below Ra.out HB.out
  replace SZa : Hid (Ta ≤ w9.heap.size) := Nat.le_trans SZa.out (HB.out).size
  replace Rb : Hid (OC w9 Nb 3 (.slice rb m2 cb) m2 (I64 y2)) := OC.below Rb.out HB.out
  replace SZb : Hid (Tb ≤ w9.heap.size) := Nat.le_trans SZb.out (HB.out).size
  replace Rc : Hid (OC w9 Nc 3 (.slice rc m1 cc) m1 (I64 y1)) := OC.below Rc.out HB.out
  replace SZc : Hid (Tc ≤ w9.heap.size) := Nat.le_trans SZc.out (HB.out).size
  replace HTOT : Hid (Below B w w9) := HTOT.out.trans (Joins.below_le HB.out hsw8)
  clear HB hsw8
  have hsw9 : B ≤ w9.heap.size := by have := HTOT.out.size; have := HBE.out; omega
  have HC := rprefix12 (c := c2) (s := s2) (k := k2) (HP2.out.kept HTOT.out hsw9)
  rw [← HL2.out, ← HB2.out, ← HM2.out] at HC
  obtain ⟨Ns, hNs⟩ : ∃ Ns, Ns = w9.heap.size := ⟨_, rfl⟩
  rw [← hNs] at HC
  have HNs := hid hNs
  have hles : B ≤ Ns := by omega
  clear hNs
  obtain ⟨g0, g1, g2⟩ := three_cells B1.out
  go_upto_region 8 with (go_at_call 12; (with_reducible refine HC.mono ?_); rintro e wA ⟨vs, rfl, hro, hb⟩; obtain ⟨⟨rs, cs, e5⟩, -⟩ := OC.form_head (OC.of hro); subst e5; have Rs := hid (OC.of hro); have HB := hid hb; clear hro hb HC g0 g1 g2)
  replace HB : Hid (Below w9.heap.size w9 wA) := by show Below _ _ _; rw [← HNs.out]; exact HB.out
  replace B0 : Hid (BX wA x0 #[.slice ad n c, .int .i64 s, .int .i64 k] 27) := BX.kept B0.out HB.out
  replace B1 : Hid (BX wA x1 #[.slice ad2 n2 c2, .int .i64 s2, .int .i64 k2] 27) := BX.kept B1.out HB.out
  replace PLQ : Hid (PL wA NB (some ⟨gz, 0, none⟩) n (n + 2) l MS) := PL.below PLQ.out HB.out
  replace BXxq : Hid (BX wA xq #[.slice (some ⟨gz, 0, none⟩) n (n + 2), .int .i64 s, .int .i64 k] 27) := BX.kept BXxq.out HB.out
  replace Ra : Hid (OC wA Na 3 (.slice ra m1 ca) m1 (I64 y1)) := OC.below Ra.out HB.out
  replace SZa : Hid (Ta ≤ wA.heap.size) := Nat.le_trans SZa.out (HB.out).size
  replace Rb : Hid (OC wA Nb 3 (.slice rb m2 cb) m2 (I64 y2)) := OC.below Rb.out HB.out
  replace SZb : Hid (Tb ≤ wA.heap.size) := Nat.le_trans SZb.out (HB.out).size
  replace Rc : Hid (OC wA Nc 3 (.slice rc m1 cc) m1 (I64 y1)) := OC.below Rc.out HB.out
  replace SZc : Hid (Tc ≤ wA.heap.size) := Nat.le_trans SZc.out (HB.out).size
  replace Rw : Hid (OC wA Nw 3 (.slice rw m1 cw) m1 (I64 y1)) := OC.below Rw.out HB.out
  replace HTOT : Hid (Below B w wA) := HTOT.out.trans (Joins.below_le HB.out hsw9)
  clear HB hsw9
  have hswA : B ≤ wA.heap.size := by have := HTOT.out.size; have := HBE.out; omega
  have HC := kept12 (s := s) (k := k) PLQ.out hn
  obtain ⟨g0, g1, g2⟩ := three_cells BXxq.out
  go_upto_region 9 with (go_at_call 13; (with_reducible refine HC.mono ?_); rintro e wB ⟨rfl, hb⟩; have HB := hid hb; clear hb HC g0 g1 g2)
  replace B0 : Hid (BX wB x0 #[.slice ad n c, .int .i64 s, .int .i64 k] 27) := BX.kept B0.out HB.out
  replace B1 : Hid (BX wB x1 #[.slice ad2 n2 c2, .int .i64 s2, .int .i64 k2] 27) := BX.kept B1.out HB.out
  replace PLQ : Hid (PL wB NB (some ⟨gz, 0, none⟩) n (n + 2) l MS) := PL.below PLQ.out HB.out
  replace BXxq : Hid (BX wB xq #[.slice (some ⟨gz, 0, none⟩) n (n + 2), .int .i64 s, .int .i64 k] 27) := BX.kept BXxq.out HB.out
  replace Ra : Hid (OC wB Na 3 (.slice ra m1 ca) m1 (I64 y1)) := OC.below Ra.out HB.out
  replace SZa : Hid (Ta ≤ wB.heap.size) := Nat.le_trans SZa.out (HB.out).size
  replace Rb : Hid (OC wB Nb 3 (.slice rb m2 cb) m2 (I64 y2)) := OC.below Rb.out HB.out
  replace SZb : Hid (Tb ≤ wB.heap.size) := Nat.le_trans SZb.out (HB.out).size
  replace Rc : Hid (OC wB Nc 3 (.slice rc m1 cc) m1 (I64 y1)) := OC.below Rc.out HB.out
  replace SZc : Hid (Tc ≤ wB.heap.size) := Nat.le_trans SZc.out (HB.out).size
  replace Rw : Hid (OC wB Nw 3 (.slice rw m1 cw) m1 (I64 y1)) := OC.below Rw.out HB.out
  replace Rs : Hid (OC wB Ns 3 (.slice rs m2 cs) m2 (I64 y2)) := OC.below Rs.out HB.out
  replace HTOT : Hid (Below B w wB) := HTOT.out.trans (Joins.below_le HB.out hswA)
  clear HB hswA
  have hswB : B ≤ wB.heap.size := by have := HTOT.out.size; have := HBE.out; omega
  have HC := same11 (c := n + 2) (c' := c) (s := s) (k := k) PLQ.out.pi (HP0.out.kept HTOT.out hswB) (by have := hn; omega)
  obtain ⟨g0, g1, g2⟩ := three_cells BXxq.out
  obtain ⟨e0, e1, e2⟩ := three_cells B0.out
  go_upto_region 10 with (go_at_call 14; (with_reducible refine HC.mono ?_); rintro e wC ⟨rfl, hb⟩; have HB := hid hb; clear hb HC g0 g1 g2 e0 e1 e2)
  replace B0 : Hid (BX wC x0 #[.slice ad n c, .int .i64 s, .int .i64 k] 27) := BX.kept B0.out HB.out
  replace B1 : Hid (BX wC x1 #[.slice ad2 n2 c2, .int .i64 s2, .int .i64 k2] 27) := BX.kept B1.out HB.out
  replace PLQ : Hid (PL wC NB (some ⟨gz, 0, none⟩) n (n + 2) l MS) := PL.below PLQ.out HB.out
  replace BXxq : Hid (BX wC xq #[.slice (some ⟨gz, 0, none⟩) n (n + 2), .int .i64 s, .int .i64 k] 27) := BX.kept BXxq.out HB.out
  replace Ra : Hid (OC wC Na 3 (.slice ra m1 ca) m1 (I64 y1)) := OC.below Ra.out HB.out
  replace SZa : Hid (Ta ≤ wC.heap.size) := Nat.le_trans SZa.out (HB.out).size
  replace Rb : Hid (OC wC Nb 3 (.slice rb m2 cb) m2 (I64 y2)) := OC.below Rb.out HB.out
  replace SZb : Hid (Tb ≤ wC.heap.size) := Nat.le_trans SZb.out (HB.out).size
  replace Rc : Hid (OC wC Nc 3 (.slice rc m1 cc) m1 (I64 y1)) := OC.below Rc.out HB.out
  replace SZc : Hid (Tc ≤ wC.heap.size) := Nat.le_trans SZc.out (HB.out).size
  replace Rw : Hid (OC wC Nw 3 (.slice rw m1 cw) m1 (I64 y1)) := OC.below Rw.out HB.out
  replace Rs : Hid (OC wC Ns 3 (.slice rs m2 cs) m2 (I64 y2)) := OC.below Rs.out HB.out
  replace HTOT : Hid (Below B w wC) := HTOT.out.trans (Joins.below_le HB.out hswB)
  clear HB hswB
  have hswC : B ≤ wC.heap.size := by have := HTOT.out.size; have := HBE.out; omega
  have HC := sameOC Ra.out Rw.out len1
  go_upto_region 11 with (go_at_call 15; (with_reducible refine HC.mono ?_); rintro e wD ⟨rfl, hb⟩; have HB := hid hb; clear hb HC )
  replace B0 : Hid (BX wD x0 #[.slice ad n c, .int .i64 s, .int .i64 k] 27) := BX.kept B0.out HB.out
  replace B1 : Hid (BX wD x1 #[.slice ad2 n2 c2, .int .i64 s2, .int .i64 k2] 27) := BX.kept B1.out HB.out
  replace PLQ : Hid (PL wD NB (some ⟨gz, 0, none⟩) n (n + 2) l MS) := PL.below PLQ.out HB.out
  replace BXxq : Hid (BX wD xq #[.slice (some ⟨gz, 0, none⟩) n (n + 2), .int .i64 s, .int .i64 k] 27) := BX.kept BXxq.out HB.out
  replace Ra : Hid (OC wD Na 3 (.slice ra m1 ca) m1 (I64 y1)) := OC.below Ra.out HB.out
  replace SZa : Hid (Ta ≤ wD.heap.size) := Nat.le_trans SZa.out (HB.out).size
  replace Rb : Hid (OC wD Nb 3 (.slice rb m2 cb) m2 (I64 y2)) := OC.below Rb.out HB.out
  replace SZb : Hid (Tb ≤ wD.heap.size) := Nat.le_trans SZb.out (HB.out).size
  replace Rc : Hid (OC wD Nc 3 (.slice rc m1 cc) m1 (I64 y1)) := OC.below Rc.out HB.out
  replace SZc : Hid (Tc ≤ wD.heap.size) := Nat.le_trans SZc.out (HB.out).size
  replace Rw : Hid (OC wD Nw 3 (.slice rw m1 cw) m1 (I64 y1)) := OC.below Rw.out HB.out
  replace Rs : Hid (OC wD Ns 3 (.slice rs m2 cs) m2 (I64 y2)) := OC.below Rs.out HB.out
  replace HTOT : Hid (Below B w wD) := HTOT.out.trans (Joins.below_le HB.out hswC)
  clear HB hswC
  have hswD : B ≤ wD.heap.size := by have := HTOT.out.size; have := HBE.out; omega
  have HC := sameOC Rb.out Rs.out len2
  go_upto_region 12 with (go_at_call 15; (with_reducible refine HC.mono ?_); rintro e wE ⟨rfl, hb⟩; have HB := hid hb; clear hb HC )
  replace B0 : Hid (BX wE x0 #[.slice ad n c, .int .i64 s, .int .i64 k] 27) := BX.kept B0.out HB.out
  replace B1 : Hid (BX wE x1 #[.slice ad2 n2 c2, .int .i64 s2, .int .i64 k2] 27) := BX.kept B1.out HB.out
  replace PLQ : Hid (PL wE NB (some ⟨gz, 0, none⟩) n (n + 2) l MS) := PL.below PLQ.out HB.out
  replace BXxq : Hid (BX wE xq #[.slice (some ⟨gz, 0, none⟩) n (n + 2), .int .i64 s, .int .i64 k] 27) := BX.kept BXxq.out HB.out
  replace Ra : Hid (OC wE Na 3 (.slice ra m1 ca) m1 (I64 y1)) := OC.below Ra.out HB.out
  replace SZa : Hid (Ta ≤ wE.heap.size) := Nat.le_trans SZa.out (HB.out).size
  replace Rb : Hid (OC wE Nb 3 (.slice rb m2 cb) m2 (I64 y2)) := OC.below Rb.out HB.out
  replace SZb : Hid (Tb ≤ wE.heap.size) := Nat.le_trans SZb.out (HB.out).size
  replace Rc : Hid (OC wE Nc 3 (.slice rc m1 cc) m1 (I64 y1)) := OC.below Rc.out HB.out
  replace SZc : Hid (Tc ≤ wE.heap.size) := Nat.le_trans SZc.out (HB.out).size
  replace Rw : Hid (OC wE Nw 3 (.slice rw m1 cw) m1 (I64 y1)) := OC.below Rw.out HB.out
  replace Rs : Hid (OC wE Ns 3 (.slice rs m2 cs) m2 (I64 y2)) := OC.below Rs.out HB.out
  replace HTOT : Hid (Below B w wE) := HTOT.out.trans (Joins.below_le HB.out hswD)
  clear HB hswD
  have hswE : B ≤ wE.heap.size := by have := HTOT.out.size; have := HBE.out; omega
  have HC := sameOC Rc.out Rw.out len1
  go_upto_region 13 with (go_at_call 15; (with_reducible refine HC.mono ?_); rintro e wF ⟨rfl, hb⟩; have HB := hid hb; clear hb HC )
  replace B0 : Hid (BX wF x0 #[.slice ad n c, .int .i64 s, .int .i64 k] 27) := BX.kept B0.out HB.out
  replace B1 : Hid (BX wF x1 #[.slice ad2 n2 c2, .int .i64 s2, .int .i64 k2] 27) := BX.kept B1.out HB.out
  replace PLQ : Hid (PL wF NB (some ⟨gz, 0, none⟩) n (n + 2) l MS) := PL.below PLQ.out HB.out
  replace BXxq : Hid (BX wF xq #[.slice (some ⟨gz, 0, none⟩) n (n + 2), .int .i64 s, .int .i64 k] 27) := BX.kept BXxq.out HB.out
  replace Ra : Hid (OC wF Na 3 (.slice ra m1 ca) m1 (I64 y1)) := OC.below Ra.out HB.out
  replace SZa : Hid (Ta ≤ wF.heap.size) := Nat.le_trans SZa.out (HB.out).size
  replace Rb : Hid (OC wF Nb 3 (.slice rb m2 cb) m2 (I64 y2)) := OC.below Rb.out HB.out
  replace SZb : Hid (Tb ≤ wF.heap.size) := Nat.le_trans SZb.out (HB.out).size
  replace Rc : Hid (OC wF Nc 3 (.slice rc m1 cc) m1 (I64 y1)) := OC.below Rc.out HB.out
  replace SZc : Hid (Tc ≤ wF.heap.size) := Nat.le_trans SZc.out (HB.out).size
  replace Rw : Hid (OC wF Nw 3 (.slice rw m1 cw) m1 (I64 y1)) := OC.below Rw.out HB.out
  replace Rs : Hid (OC wF Ns 3 (.slice rs m2 cs) m2 (I64 y2)) := OC.below Rs.out HB.out
  replace HTOT : Hid (Below B w wF) := HTOT.out.trans (Joins.below_le HB.out hswE)
  clear HB hswE
  have d1 : (b1 != b1) = false := by simp
  have d2 : (b2 != b2) = false := by simp
  go_upto_region 15 with fail
  clear d1 d2
  have hswF : B ≤ wF.heap.size := by have := HTOT.out.size; have := HBE.out; omega
  obtain ⟨hA, hAB⟩ := PLQ.out.at_
  have HC := turned16 (s := s) (k := k) PLQ.out hn hA hAB
  obtain ⟨g0, g1, g2⟩ := three_cells BXxq.out
  go_upto_region 16 with (go_at_call 16; (with_reducible refine HC.mono ?_); rintro e wH ⟨rfl, ⟨l3, MS3, hpl, -⟩, hch, -⟩; have PLT := hid hpl; have HCH := hid hch; clear hpl hch HC g0 g1 g2 hA hAB)
  replace B0 : Hid (BX wH x0 #[.slice ad n c, .int .i64 s, .int .i64 k] 27) := BX.chs B0.out HCH.out (by decide) (by decide)
  replace B1 : Hid (BX wH x1 #[.slice ad2 n2 c2, .int .i64 s2, .int .i64 k2] 27) := BX.chs B1.out HCH.out (by decide) (by decide)
  replace BXxq : Hid (BX wH xq #[.slice (some ⟨gz, 0, none⟩) n (n + 2), .int .i64 s, .int .i64 k] 27) := BX.chs BXxq.out HCH.out (by decide) (by decide)
  replace Ra : Hid (OC wH Na 3 (.slice ra m1 ca) m1 (I64 y1)) := OC.chs Ra.out HCH.out
  replace SZa : Hid (Ta ≤ wH.heap.size) := Nat.le_trans SZa.out HCH.out.size
  replace Rb : Hid (OC wH Nb 3 (.slice rb m2 cb) m2 (I64 y2)) := OC.chs Rb.out HCH.out
  replace SZb : Hid (Tb ≤ wH.heap.size) := Nat.le_trans SZb.out HCH.out.size
  replace Rc : Hid (OC wH Nc 3 (.slice rc m1 cc) m1 (I64 y1)) := OC.chs Rc.out HCH.out
  replace SZc : Hid (Tc ≤ wH.heap.size) := Nat.le_trans SZc.out HCH.out.size
  replace Rw : Hid (OC wH Nw 3 (.slice rw m1 cw) m1 (I64 y1)) := OC.chs Rw.out HCH.out
  replace Rs : Hid (OC wH Ns 3 (.slice rs m2 cs) m2 (I64 y2)) := OC.chs Rs.out HCH.out
  replace HTOT : Hid (Below B w wH) := HTOT.out.trans (chs_below HCH.out hNBB hswF)
  clear HCH hswF PLQ
  have hswH : B ≤ wH.heap.size := by have := HTOT.out.size; have := HBE.out; omega
  have HC := rprefix12 (c := n + 2) (s := s) (k := k) PLT.out.pi
  obtain ⟨y3, hy3⟩ : ∃ x, x = (preP l3 s k).1 := ⟨_, rfl⟩
  obtain ⟨b3, hb3⟩ : ∃ x, x = (preP l3 s k).2 := ⟨_, rfl⟩
  obtain ⟨m3, hm3⟩ : ∃ x, x = y3.length := ⟨_, rfl⟩
  have len3 : m3 ≤ 20001 := by rw [hm3, hy3]; exact pre_len _ _ _
  have HL3 := hid hy3
  have HB3 := hid hb3
  have HM3 := hid hm3
  clear hy3 hb3 hm3
  rw [← HL3.out, ← HB3.out, ← HM3.out] at HC
  obtain ⟨Nn, hNn⟩ : ∃ Nn, Nn = wH.heap.size := ⟨_, rfl⟩
  rw [← hNn] at HC
  have HNn := hid hNn
  have hlen : B ≤ Nn := by omega
  clear hNn
  obtain ⟨g0, g1, g2⟩ := three_cells BXxq.out
  go_upto_region 17 with (go_at_call 12; (with_reducible refine HC.mono ?_); rintro e wI ⟨vn, rfl, hro, hb⟩; obtain ⟨⟨rn, cn, e5⟩, -⟩ := OC.form_head (OC.of hro); subst e5; have Rn := hid (OC.of hro); have HB := hid hb; clear hro hb HC g0 g1 g2)
  replace HB : Hid (Below wH.heap.size wH wI) := by show Below _ _ _; rw [← HNn.out]; exact HB.out
  replace B0 : Hid (BX wI x0 #[.slice ad n c, .int .i64 s, .int .i64 k] 27) := BX.kept B0.out HB.out
  replace B1 : Hid (BX wI x1 #[.slice ad2 n2 c2, .int .i64 s2, .int .i64 k2] 27) := BX.kept B1.out HB.out
  replace BXxq : Hid (BX wI xq #[.slice (some ⟨gz, 0, none⟩) n (n + 2), .int .i64 s, .int .i64 k] 27) := BX.kept BXxq.out HB.out
  replace Ra : Hid (OC wI Na 3 (.slice ra m1 ca) m1 (I64 y1)) := OC.below Ra.out HB.out
  replace SZa : Hid (Ta ≤ wI.heap.size) := Nat.le_trans SZa.out (HB.out).size
  replace Rb : Hid (OC wI Nb 3 (.slice rb m2 cb) m2 (I64 y2)) := OC.below Rb.out HB.out
  replace SZb : Hid (Tb ≤ wI.heap.size) := Nat.le_trans SZb.out (HB.out).size
  replace Rc : Hid (OC wI Nc 3 (.slice rc m1 cc) m1 (I64 y1)) := OC.below Rc.out HB.out
  replace SZc : Hid (Tc ≤ wI.heap.size) := Nat.le_trans SZc.out (HB.out).size
  replace Rw : Hid (OC wI Nw 3 (.slice rw m1 cw) m1 (I64 y1)) := OC.below Rw.out HB.out
  replace Rs : Hid (OC wI Ns 3 (.slice rs m2 cs) m2 (I64 y2)) := OC.below Rs.out HB.out
  replace PLT : Hid (PL wI NB (some ⟨gz, 0, none⟩) n (n + 2) l3 MS3) := PL.below PLT.out HB.out
  replace HTOT : Hid (Below B w wI) := HTOT.out.trans (Joins.below_le HB.out hswH)
  clear HB hswH
  have HZc := SZc
  have hswI : B ≤ wI.heap.size := by have := HTOT.out.size; have := HBE.out; omega
  have HC := prefix11 (c := n + 2) (s := s) (k := k) PLT.out.pi
  rw [← HL3.out, ← HB3.out, ← HM3.out] at HC
  obtain ⟨Nd, hNd⟩ : ∃ Nd, Nd = wI.heap.size := ⟨_, rfl⟩
  rw [← hNd] at HC
  have HNd := hid hNd
  have hled : B ≤ Nd := by omega
  clear hNd
  obtain ⟨g0, g1, g2⟩ := three_cells BXxq.out
  go_upto_region 18 with (go_at_call 11; (with_reducible refine HC.mono ?_); rintro e wJ ⟨vd, rfl, hro, hb⟩; obtain ⟨⟨rd, cd, e5⟩, -⟩ := OC.form_head hro; subst e5; have Rd := hid hro; have HB := hid hb; clear hro hb HC g0 g1 g2)
  replace HB : Hid (Below wI.heap.size wI wJ) := by show Below _ _ _; rw [← HNd.out]; exact HB.out
  replace B0 : Hid (BX wJ x0 #[.slice ad n c, .int .i64 s, .int .i64 k] 27) := BX.kept B0.out HB.out
  replace B1 : Hid (BX wJ x1 #[.slice ad2 n2 c2, .int .i64 s2, .int .i64 k2] 27) := BX.kept B1.out HB.out
  replace BXxq : Hid (BX wJ xq #[.slice (some ⟨gz, 0, none⟩) n (n + 2), .int .i64 s, .int .i64 k] 27) := BX.kept BXxq.out HB.out
  replace Ra : Hid (OC wJ Na 3 (.slice ra m1 ca) m1 (I64 y1)) := OC.below Ra.out HB.out
  replace SZa : Hid (Ta ≤ wJ.heap.size) := Nat.le_trans SZa.out (HB.out).size
  replace Rb : Hid (OC wJ Nb 3 (.slice rb m2 cb) m2 (I64 y2)) := OC.below Rb.out HB.out
  replace SZb : Hid (Tb ≤ wJ.heap.size) := Nat.le_trans SZb.out (HB.out).size
  replace Rc : Hid (OC wJ Nc 3 (.slice rc m1 cc) m1 (I64 y1)) := OC.below Rc.out HB.out
  replace SZc : Hid (Tc ≤ wJ.heap.size) := Nat.le_trans SZc.out (HB.out).size
  replace Rw : Hid (OC wJ Nw 3 (.slice rw m1 cw) m1 (I64 y1)) := OC.below Rw.out HB.out
  replace Rs : Hid (OC wJ Ns 3 (.slice rs m2 cs) m2 (I64 y2)) := OC.below Rs.out HB.out
  replace PLT : Hid (PL wJ NB (some ⟨gz, 0, none⟩) n (n + 2) l3 MS3) := PL.below PLT.out HB.out
  replace Rn : Hid (OC wJ Nn 3 (.slice rn m3 cn) m3 (I64 y3)) := OC.below Rn.out HB.out
  replace HTOT : Hid (Below B w wJ) := HTOT.out.trans (Joins.below_le HB.out hswI)
  clear HB hswI
  have h34 : Tc ≤ Nd := by have := HZc.out; have := HNd.out; omega
  have hswJ : B ≤ wJ.heap.size := by have := HTOT.out.size; have := HBE.out; omega
  have HC := sameOC Rd.out Rn.out len3
  go_upto_region 19 with (go_at_call 15; (with_reducible refine HC.mono ?_); rintro e wK ⟨rfl, hb⟩; have HB := hid hb; clear hb HC )
  replace B0 : Hid (BX wK x0 #[.slice ad n c, .int .i64 s, .int .i64 k] 27) := BX.kept B0.out HB.out
  replace B1 : Hid (BX wK x1 #[.slice ad2 n2 c2, .int .i64 s2, .int .i64 k2] 27) := BX.kept B1.out HB.out
  replace BXxq : Hid (BX wK xq #[.slice (some ⟨gz, 0, none⟩) n (n + 2), .int .i64 s, .int .i64 k] 27) := BX.kept BXxq.out HB.out
  replace Ra : Hid (OC wK Na 3 (.slice ra m1 ca) m1 (I64 y1)) := OC.below Ra.out HB.out
  replace SZa : Hid (Ta ≤ wK.heap.size) := Nat.le_trans SZa.out (HB.out).size
  replace Rb : Hid (OC wK Nb 3 (.slice rb m2 cb) m2 (I64 y2)) := OC.below Rb.out HB.out
  replace SZb : Hid (Tb ≤ wK.heap.size) := Nat.le_trans SZb.out (HB.out).size
  replace Rc : Hid (OC wK Nc 3 (.slice rc m1 cc) m1 (I64 y1)) := OC.below Rc.out HB.out
  replace SZc : Hid (Tc ≤ wK.heap.size) := Nat.le_trans SZc.out (HB.out).size
  replace Rw : Hid (OC wK Nw 3 (.slice rw m1 cw) m1 (I64 y1)) := OC.below Rw.out HB.out
  replace Rs : Hid (OC wK Ns 3 (.slice rs m2 cs) m2 (I64 y2)) := OC.below Rs.out HB.out
  replace PLT : Hid (PL wK NB (some ⟨gz, 0, none⟩) n (n + 2) l3 MS3) := PL.below PLT.out HB.out
  replace Rn : Hid (OC wK Nn 3 (.slice rn m3 cn) m3 (I64 y3)) := OC.below Rn.out HB.out
  replace Rd : Hid (OC wK Nd 3 (.slice rd m3 cd) m3 (I64 y3)) := OC.below Rd.out HB.out
  replace HTOT : Hid (Below B w wK) := HTOT.out.trans (Joins.below_le HB.out hswJ)
  clear HB hswJ
  have hswK : B ≤ wK.heap.size := by have := HTOT.out.size; have := HBE.out; omega
  obtain ⟨UL, hUL⟩ : ∃ UL, UL = wK.alloc (.cells #[.slice ra m1 ca, .slice rb m2 cb, .slice rc m1 cc, .slice rd m3 cd] 29) := ⟨_, rfl⟩
  have hbb : Below wK.heap.size wK UL := by rw [hUL]; exact Joins.below_alloc1 wK _
  obtain ⟨g, hg⟩ : ∃ g, g = wK.heap.size := ⟨_, rfl⟩
  have hgx : BX UL g #[.slice ra m1 ca, .slice rb m2 cb, .slice rc m1 cc, .slice rd m3 cd] 29 := by rw [hUL, hg]; exact BX.new wK _ _
  have HC := owned_fourC hgx (Nat.le_trans hswK hbb.size) hlea h12 h23 h34 La.out Lb.out Lc.out NTa NTb NTc (OC.below Ra.out hbb) (OC.below Rb.out hbb) (OC.below Rc.out hbb) (OC.below Rd.out hbb) ⟨len1, len2, len1, len3⟩
  have HTK := hid (HTOT.out.trans (Joins.below_le hbb hswK))
  have HUL := hid hUL
  have HGE := hid hg
  have HCC := hid HC
  clear hUL hg hbb hgx HC
  have d3 : (b3 == b3) = true := by simp
  have HC2 : Calls Try.prog 17 #[.slice (some ⟨wK.heap.size, 0, none⟩) 4 4] (wK.alloc (.cells #[.slice ra m1 ca, .slice rb m2 cb, .slice rc m1 cc, .slice rd m3 cd] 29)) fun e w' => e = .returned (.bool true) ∧ Below B (wK.alloc (.cells #[.slice ra m1 ca, .slice rb m2 cb, .slice rc m1 cc, .slice rd m3 cd] 29)) w' := by rw [← HUL.out, ← HGE.out]; exact HCC.out
  go_wp2_with (go_at_call 17; (with_reducible refine HC2.mono ?_); rintro e wZ ⟨rfl, hb⟩; have HBZ := hid hb; clear hb HC2)
  all_goals go_ret
  all_goals refine ⟨rfl, ?_⟩
  all_goals rw [← HBE.out]
  all_goals refine HTK.out.trans ?_
  all_goals rw [HUL.out]
  all_goals exact HBZ.out
end Go.Proofs.Ytiggbgmnibndoaa
namespace Go.Proofs.Ytiggbgmnibndoaa
open Go.ChangeShapes Go.WideShapes Go.ChangeAt Go.RowKit
set_option linter.unusedVariables false
set_option linter.unusedSimpArgs false
set_option maxRecDepth 100000 in
theorem prefixesLifted (os : Os) (started : os.Started) (H : Type) (enc : TypeId × Value → H) :
    ReturnsInHanded {} Try.checked os 4 .any (Rows.literalPrefixesSpec.pre6 enc Try.prog Try.f4 Rows.literalPrefixesRow.domain false) (Rows.literalPrefixesSpec.post enc Try.prog Try.f4 false true false false) := by
  refine returnsInHanded_of_change_sized (C := Try.checked) ownB started (by kernel_rfl) Try.func4
    (ChangeSpec.witness6 (enc := enc) (C := Try.checked) false ⟨#[], #[.agg #[.slice none 0 0, .int .i64 0, .int .i64 0], .agg #[.slice none 0 0, .int .i64 0, .int .i64 0]], []⟩ 8 (by kernel_rfl) (by kernel_rfl) (by kernel_rfl) (by kernel_rfl)) ?_
  intro W base args ds gs before hval0 hW hcnd0 hsz0 hholds
  have hval : ∀ (j : Nat) t v, Try.f4.params[j]? = some t → args[j]? = some v → Value.okWide Try.prog W .any base t v := hval0
  have hW' := hW
  obtain ⟨p, q, hA0, hV, rfl, hfz, hnd⟩ := hW
  have hA : DataW.TrodAll enc Try.prog W 0 (fun _ => true) true Try.f4.params.toList args.toList ds p := hA0
  have hsz : ∀ n ∈ DataW.weightsEach Try.prog (Try.f4.params.toList ++ Rows.literalPrefixesSpec.plain.varTypes Try.prog) (ds ++ gs), n ≤ reachBytes := fun n hn => by simpa using List.all_eq_true.1 hsz0 n hn
  rw [Try.params4] at hA hval hsz
  obtain ⟨v0, vs0, d0, ds0, p0, q0, hargs, rfl, rfl, h0, r0⟩ := trodAll_cons hA
  obtain ⟨v1, vs1, d1, ds1, p1, q1, rfl, rfl, rfl, h1, r1⟩ := trodAll_cons r0
  obtain ⟨rfl, rfl, rfl⟩ := trodAll_nil r1
  obtain rfl : args = #[v0, v1] := by cases args; simp_all
  obtain ⟨rfl, rfl⟩ := trodVars_none hV
  have hlt0 : ∀ x ∈ p0, x.block < W.heap.size := fun x hx => by have := hW'.lt x (by simp [hx]); simpa using this
  have hlt1 : ∀ x ∈ p1, x.block < W.heap.size := fun x hx => by have := hW'.lt x (by simp [hx]); simpa using this
  obtain ⟨ad, n, c, s, k, l, rfl, _, _, hn, hP⟩ := prog_arg (hval 0 27 v0 rfl rfl) h0 (fun n hn => hsz n (DataW.weights_mem_each (j := 0) (by simp) (by simp) n hn))
  obtain ⟨ad2, n2, c2, s2, k2, l2, rfl, _, _, _, hP2⟩ := prog_arg (hval 1 27 v1 rfl rfl) h1 (fun n hn => hsz n (DataW.weights_mem_each (j := 1) (by simp) (by simp) n hn))
  clear hA0 hval0
  refine (prefixes4 hP hP2 hn).mono fun e W' ⟨he, hb⟩ => ?_
  subst he
  exact ⟨_, rfl, _, _, _, [], p0 ++ (p1 ++ []), [], hW', trodAll_cons_mk (shut_bool Try.underlying4 _) trodAll_mk0, trodAll_cons_mk (Below.trod laidOut (by kernel_rfl) (of_decide_eq_true (by kernel_rfl)) h0 hb hlt0) (trodAll_cons_mk (Below.trod laidOut (by kernel_rfl) (of_decide_eq_true (by kernel_rfl)) h1 hb hlt1) trodAll_mk0), rfl, hb.frame _, fun h => by cases h⟩
theorem literalPrefixes_holds : Rows.LiteralPrefixesSaid :=
  OpenClaim.holds_of_wide 4 Try.f4 rfl rfl rfl rfl rfl rfl rfl ⟨rfl, rfl, rfl, rfl, rfl⟩ rfl rfl rfl rfl rfl (by kernel_rfl) Try.func4 (by kernel_rfl)
    (of_decide_eq_true (by kernel_rfl)) (by unfold Func.isWrapper; first | (rw [if_pos (by decide +kernel)]; kernel_rfl) | (rw [if_neg (by decide +kernel)]; exact ⟨rfl, rfl⟩))
    (fun os started H enc _ => prefixesLifted os started H enc)
end Go.Proofs.Ytiggbgmnibndoaa
