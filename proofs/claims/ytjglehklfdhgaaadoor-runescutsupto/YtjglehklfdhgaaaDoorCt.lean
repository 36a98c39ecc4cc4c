/- HELPERS: the walk of RunesCuts. -/
import Derived.Test.YtjglehklfdhgaaaDoorCtL
namespace Go.Proofs.YtjglehklfdhgaaaDoor
open Go.RowKit Go.Mx
set_option linter.unusedVariables false
set_option linter.unusedSimpArgs false
theorem own_drw {w : World} {B e m : Nat} {v : Value} {X : List Value} (h : w.ownsRow B e 1 v m X) (q : Nat) : (w.drewN q).ownsRow B e 1 v m X :=
  own_kept h (fun b hb' => (below_drewN (Below.refl w.heap.size w) q).block b (h.lt b hb').2)
def pick4 {α : Type} (a b c d : α) (p : Nat) : α := if p = 0 then a else if p = 1 then b else if p = 2 then c else d
set_option maxHeartbeats 8000000 in
set_option maxRecDepth 1000000 in
theorem cuts4 (l o : List Int) (ad ad2 : Option Addr) (n cap n2 cap2 : Nat) (w : World) (hn : Hid (l.length = n)) (hn2 : Hid (o.length = n2)) (hl : Hid (BytesAt w.heap.size w (.slice ad n cap) l)) (ho : Hid (BytesAt w.heap.size w (.slice ad2 n2 cap2) o))
    (hL : Hid (ByteL l)) (hO : Hid (ByteL o)) (hT : Hid (Tabs w)) (h2 : 2 ≤ w.heap.size) (hm : n ≤ 10000000) (hm2 : n2 ≤ 10000000) :
    Calls Tryd.prog 4 #[.slice ad n cap, .slice ad2 n2 cap2] w fun e w' => e = .returned (.bool true) ∧ Below w.heap.size w w' := by
  have haw := awake9 w hT h2
  go_enter Tryd.func4, Tryd.ntmps4
  go_wp2_with (go_at_call 9; refine haw.mono ?_; rintro e w0 ⟨rfl, hb0⟩)
  clear haw
  have hs0 := hb0.size
  refine (lent11 l ad n cap w0 hn (hl.out.below hb0 (Nat.le_refl _) hs0) (by omega)).mono ?_
  rintro e w1 ⟨rfl, hR1, hb1⟩
  have hgw1 := hR1.lt
  have hB1 : Below w.heap.size w w1 := hb0.trans (hb1.mono hs0)
  generalize hg : w0.heap.size = g at *
  have HR1 : Hid (RowB w1 g (l ++ List.replicate 5 201)) := hR1
  have HB1 : Hid (Below w.heap.size w w1) := hB1
  clear hR1 hB1 hb1 hb0 hg
  go_wp2_with fail
  refine (dec12 l (some ⟨g, 0, none⟩) n (n + 5) w1 hn.out.symm (by omega) (hT.out.below HB1.out h2) (HR1.out.bytes hn.out.symm (by simp) (by omega)) hL.out).mono ?_
  rintro e w2 ⟨rfl, hb2⟩
  have HR2 : Hid (RowB w2 g (l ++ List.replicate 5 201)) := HR1.out.below hb2 hgw1
  have HB2 : Hid (Below w.heap.size w w2) := HB1.out.trans (hb2.mono HB1.out.size)
  have hs2 := hb2.size
  clear HR1 HB1 hb2
  generalize hd1 : (dec l).1 = r1
  generalize hd2 : (dec l).2 = r2
  have HD1 : Hid ((dec l).1 = r1) := hd1
  have HD2 : Hid ((dec l).2 = r2) := hd2
  clear hd1 hd2
  go_wp2_with fail
  refine (cut_two l (some ⟨g, 0, none⟩) n (n + 5) w2 hn.out.symm (by omega) (hT.out.below HB2.out h2) (by omega) (HR2.out.bytes hn.out.symm (by simp) (by omega)) hL.out).mono ?_
  rintro e w3 ⟨ada, ma, capa, adb, mb, capb, rfl, ta, hb3⟩
  have TA : Hid (Two w2.heap.size w3.heap.size (.slice ada ma capa) (.slice adb mb capb) ma mb l w3) := ta
  have HR3 : Hid (RowB w3 g (l ++ List.replicate 5 201)) := HR2.out.below hb3 (by omega)
  have HB3 : Hid (Below w.heap.size w w3) := HB2.out.trans (hb3.mono HB2.out.size)
  have hs3 := hb3.size
  clear HR2 HB2 hb3 ta
  go_wp2_with fail
  refine (cut_two o ad2 n2 cap2 w3 hn2.out.symm (by omega) (hT.out.below HB3.out h2) (by omega) (ho.out.below HB3.out (Nat.le_refl _) HB3.out.size) hO.out).mono ?_
  rintro e w4 ⟨adc, mc, capc, add, md, capd, rfl, tb, hb4⟩
  have TB : Hid (Two w3.heap.size w4.heap.size (.slice adc mc capc) (.slice add md capd) mc md o w4) := tb
  have TA4 : Hid (Two w2.heap.size w3.heap.size (.slice ada ma capa) (.slice adb mb capb) ma mb l w4) := TA.out.next hb4
  have HR4 : Hid (RowB w4 g (l ++ List.replicate 5 201)) := HR3.out.below hb4 (by omega)
  have HB4 : Hid (Below w.heap.size w w4) := HB3.out.trans (hb4.mono HB3.out.size)
  have hs4 := hb4.size
  clear HR3 HB3 hb4 tb TA
  go_wp2_with fail
  refine (cut_two l (some ⟨g, 0, none⟩) n (n + 5) w4 hn.out.symm (by omega) (hT.out.below HB4.out h2) (by omega) (HR4.out.bytes hn.out.symm (by simp) (by omega)) hL.out).mono ?_
  rintro e w5 ⟨ade, me, cape, adf, mf, capf, rfl, tc, hb5⟩
  have TC : Hid (Two w4.heap.size w5.heap.size (.slice ade me cape) (.slice adf mf capf) me mf l w5) := tc
  have TA5 : Hid (Two w2.heap.size w3.heap.size (.slice ada ma capa) (.slice adb mb capb) ma mb l w5) := TA4.out.next hb5
  have TB5 : Hid (Two w3.heap.size w4.heap.size (.slice adc mc capc) (.slice add md capd) mc md o w5) := TB.out.next hb5
  have HR5 : Hid (RowB w5 g (l ++ List.replicate 5 201)) := HR4.out.below hb5 (by omega)
  have HB5 : Hid (Below w.heap.size w w5) := HB4.out.trans (hb5.mono HB4.out.size)
  have hs5 := hb5.size
  clear HR4 HB4 hb5 tc TA4 TB
  go_wp2_with fail
  refine (back14 l ad n cap g w.heap.size w5 hn (hl.out.below HB5.out (Nat.le_refl _) (Nat.le_refl _)) hL HR5 hs0 (by omega)).mono ?_
  rintro e w6 ⟨rfl, ⟨l2, hR6, hl2, hB6⟩, hk6, hb6⟩
  have hs6 := hb6.size
  have hz6 : w5.heap.size ≤ w6.heap.size := hs6
  have TA6 : Hid (Two w2.heap.size w3.heap.size (.slice ada ma capa) (.slice adb mb capb) ma mb l w6) := TA5.out.kept (fun b _ h => hk6 b (by omega))
  have TB6 : Hid (Two w3.heap.size w4.heap.size (.slice adc mc capc) (.slice add md capd) mc md o w6) := TB5.out.kept (fun b _ h => hk6 b (by omega))
  have TC6 : Hid (Two w4.heap.size w5.heap.size (.slice ade me cape) (.slice adf mf capf) me mf l w6) := TC.out.kept (fun b _ h => hk6 b (by omega))
  have HB6 : Hid (Below w.heap.size w w6) := HB5.out.trans (hb6.mono hs0)
  have e' : l2 = l2.take n ++ l2.drop n := (List.take_append_drop n l2).symm
  have hta : (l2.take n).length = n := by rw [List.length_take]; omega
  have htb : (l2.drop n).length = 5 := by rw [List.length_drop]; omega
  have hLi := hB6.take n
  rw [e'] at hR6
  generalize l2.take n = li at *
  generalize l2.drop n = lj at *
  have HR6 : Hid (RowB w6 g (li ++ lj)) := hR6
  have HLI : Hid (li.length = n) := hta
  have HLJ : Hid (lj.length = 5) := htb
  have HBL : Hid (ByteL li) := hLi
  clear HR5 HB5 hb6 hk6 TA5 TB5 TC hR6 hta htb hLi e' hB6 hl2
  go_wp2_with fail
  refine (cut_two li (some ⟨g, 0, none⟩) n (n + 5) w6 HLI.out.symm (by omega) (hT.out.below HB6.out h2) (by omega) (HR6.out.bytes HLI.out.symm HLJ.out (by omega)) HBL.out).mono ?_
  rintro e w7 ⟨adg, mg, capg, adh, mh, caph, rfl, td, hb7⟩
  have TD7 : Hid (Two w6.heap.size w7.heap.size (.slice adg mg capg) (.slice adh mh caph) mg mh li w7) := td
  have TA7 : Hid (Two w2.heap.size w3.heap.size (.slice ada ma capa) (.slice adb mb capb) ma mb l w7) := TA6.out.next hb7
  have TB7 : Hid (Two w3.heap.size w4.heap.size (.slice adc mc capc) (.slice add md capd) mc md o w7) := TB6.out.next hb7
  have TC7 : Hid (Two w4.heap.size w5.heap.size (.slice ade me cape) (.slice adf mf capf) me mf l w7) := TC6.out.next hb7
  have HR7 : Hid (RowB w7 g (li ++ lj)) := HR6.out.below hb7 (by omega)
  have HB7 : Hid (Below w.heap.size w w7) := HB6.out.trans (hb7.mono HB6.out.size)
  have hs7 := hb7.size
  clear HR6 HB6 hb7 td TA6 TB6 TC6
  go_wp2_with fail
  refine (rdec15 l ad n cap w7 hn.out.symm (by omega) (hl.out.below HB7.out (Nat.le_refl _) HB7.out.size) hL.out).mono ?_
  rw [HD1.out, HD2.out]
  rintro e w8 ⟨rfl, hb8⟩
  have TA8 : Hid (Two w2.heap.size w3.heap.size (.slice ada ma capa) (.slice adb mb capb) ma mb l w8) := TA7.out.next hb8
  have TB8 : Hid (Two w3.heap.size w4.heap.size (.slice adc mc capc) (.slice add md capd) mc md o w8) := TB7.out.next hb8
  have TC8 : Hid (Two w4.heap.size w5.heap.size (.slice ade me cape) (.slice adf mf capf) me mf l w8) := TC7.out.next hb8
  have TD8 : Hid (Two w6.heap.size w7.heap.size (.slice adg mg capg) (.slice adh mh caph) mg mh li w8) := TD7.out.next hb8
  have HR8 : Hid (RowB w8 g (li ++ lj)) := HR7.out.below hb8 (by omega)
  have HB8 : Hid (Below w.heap.size w w8) := HB7.out.trans (hb8.mono HB7.out.size)
  have hs8 := hb8.size
  clear HR7 HB7 hb8 TA7 TB7 TC7 TD7 HD1 HD2
  go_wp2_with fail
  refine (doc_two l ad n cap w8 hn.out.symm (by omega) (hl.out.below HB8.out (Nat.le_refl _) HB8.out.size) hL.out).mono ?_
  rintro e w9 ⟨v1, v2, rfl, da, hb9⟩
  have DA9 : Hid (Doc w8.heap.size v1 v2 l w9) := da
  have TA9 : Hid (Two w2.heap.size w3.heap.size (.slice ada ma capa) (.slice adb mb capb) ma mb l w9) := TA8.out.next hb9
  have TB9 : Hid (Two w3.heap.size w4.heap.size (.slice adc mc capc) (.slice add md capd) mc md o w9) := TB8.out.next hb9
  have TC9 : Hid (Two w4.heap.size w5.heap.size (.slice ade me cape) (.slice adf mf capf) me mf l w9) := TC8.out.next hb9
  have TD9 : Hid (Two w6.heap.size w7.heap.size (.slice adg mg capg) (.slice adh mh caph) mg mh li w9) := TD8.out.next hb9
  have HR9 : Hid (RowB w9 g (li ++ lj)) := HR8.out.below hb9 (by omega)
  have HB9 : Hid (Below w.heap.size w w9) := HB8.out.trans (hb9.mono HB8.out.size)
  have hs9 := hb9.size
  clear HR8 HB8 hb9 TA8 TB8 TC8 TD8 da
  go_wp2_with fail
  refine (doc_two o ad2 n2 cap2 w9 hn2.out.symm (by omega) (ho.out.below HB9.out (Nat.le_refl _) HB9.out.size) hO.out).mono ?_
  rintro e w10 ⟨v3, v4, rfl, db, hb10⟩
  have DB10 : Hid (Doc w9.heap.size v3 v4 o w10) := db
  have TA10 : Hid (Two w2.heap.size w3.heap.size (.slice ada ma capa) (.slice adb mb capb) ma mb l w10) := TA9.out.next hb10
  have TB10 : Hid (Two w3.heap.size w4.heap.size (.slice adc mc capc) (.slice add md capd) mc md o w10) := TB9.out.next hb10
  have TC10 : Hid (Two w4.heap.size w5.heap.size (.slice ade me cape) (.slice adf mf capf) me mf l w10) := TC9.out.next hb10
  have TD10 : Hid (Two w6.heap.size w7.heap.size (.slice adg mg capg) (.slice adh mh caph) mg mh li w10) := TD9.out.next hb10
  have DA10 : Hid (Doc w8.heap.size v1 v2 l w10) := DA9.out.next hb10
  have HR10 : Hid (RowB w10 g (li ++ lj)) := HR9.out.below hb10 (by omega)
  have HB10 : Hid (Below w.heap.size w w10) := HB9.out.trans (hb10.mono HB9.out.size)
  have hs10 := hb10.size
  clear HR9 HB9 hb10 TA9 TB9 TC9 TD9 db DA9
  go_wp2_with fail
  refine (doc_two li (some ⟨g, 0, none⟩) n (n + 5) w10 HLI.out.symm (by omega) (HR10.out.bytes HLI.out.symm HLJ.out (by omega)) HBL.out).mono ?_
  rintro e w11 ⟨v5, v6, rfl, dc, hb11⟩
  have DC11 : Hid (Doc w10.heap.size v5 v6 li w11) := dc
  have TA11 : Hid (Two w2.heap.size w3.heap.size (.slice ada ma capa) (.slice adb mb capb) ma mb l w11) := TA10.out.next hb11
  have TB11 : Hid (Two w3.heap.size w4.heap.size (.slice adc mc capc) (.slice add md capd) mc md o w11) := TB10.out.next hb11
  have TC11 : Hid (Two w4.heap.size w5.heap.size (.slice ade me cape) (.slice adf mf capf) me mf l w11) := TC10.out.next hb11
  have TD11 : Hid (Two w6.heap.size w7.heap.size (.slice adg mg capg) (.slice adh mh caph) mg mh li w11) := TD10.out.next hb11
  have DA11 : Hid (Doc w8.heap.size v1 v2 l w11) := DA10.out.next hb11
  have DB11 : Hid (Doc w9.heap.size v3 v4 o w11) := DB10.out.next hb11
  have HB11 : Hid (Below w.heap.size w w11) := HB10.out.trans (hb11.mono HB10.out.size)
  have hs11 := hb11.size
  clear HR10 HB10 hb11 TA10 TB10 TC10 TD10 dc DA10 DB10
  have hcl := cutF_len l l.length 0
  have hcl : (cut l).length ≤ n := by rw [← hn.out]; exact cutF_len l _ _
  have hco : (cut o).length ≤ n2 := by rw [← hn2.out]; exact cutF_len o _ _
  have hci : (cut li).length ≤ n := by rw [← HLI.out]; exact cutF_len li _ _
  have HOW := fun q => own_eight w.heap.size (pick4 w2.heap.size w3.heap.size w4.heap.size w6.heap.size) (pick4 w3.heap.size w4.heap.size w5.heap.size w7.heap.size)
    (pick4 (.slice ada ma capa) (.slice adc mc capc) (.slice ade me cape) (.slice adg mg capg)) (pick4 (.slice adb mb capb) (.slice add md capd) (.slice adf mf capf) (.slice adh mh caph))
    (pick4 ma mc me mg) (pick4 mb md mf mh) (w11.drewN q) (by
      intro p hp
      have : p = 0 ∨ p = 1 ∨ p = 2 ∨ p = 3 := by omega
      rcases this with rfl | rfl | rfl | rfl
      · exact ⟨⟨_, own_drw (TA11.out.oa.mono (by omega)) q⟩, ⟨_, own_drw (TA11.out.ob.mono (by omega)) q⟩⟩
      · exact ⟨⟨_, own_drw (TB11.out.oa.mono (by omega)) q⟩, ⟨_, own_drw (TB11.out.ob.mono (by omega)) q⟩⟩
      · exact ⟨⟨_, own_drw (TC11.out.oa.mono (by omega)) q⟩, ⟨_, own_drw (TC11.out.ob.mono (by omega)) q⟩⟩
      · exact ⟨⟨_, own_drw (TD11.out.oa.mono (by omega)) q⟩, ⟨_, own_drw (TD11.out.ob.mono (by omega)) q⟩⟩) (by
      intro p hp b hb
      have : p = 0 ∨ p = 1 ∨ p = 2 ∨ p = 3 := by omega
      rcases this with rfl | rfl | rfl | rfl
      · rcases hb with hb | hb
        · have h1 := TA11.out.oa.lt b hb; have h2 := TA11.out.ha b hb; exact ⟨by omega, h1.1, h2, h1.2⟩
        · have h1 := TA11.out.ob.lt b hb; have h2 := TA11.out.hb b hb; exact ⟨by omega, h1.1, h2, h1.2⟩
      · rcases hb with hb | hb
        · have h1 := TB11.out.oa.lt b hb; have h2 := TB11.out.ha b hb; exact ⟨by omega, h1.1, h2, h1.2⟩
        · have h1 := TB11.out.ob.lt b hb; have h2 := TB11.out.hb b hb; exact ⟨by omega, h1.1, h2, h1.2⟩
      · rcases hb with hb | hb
        · have h1 := TC11.out.oa.lt b hb; have h2 := TC11.out.ha b hb; exact ⟨by omega, h1.1, h2, h1.2⟩
        · have h1 := TC11.out.ob.lt b hb; have h2 := TC11.out.hb b hb; exact ⟨by omega, h1.1, h2, h1.2⟩
      · rcases hb with hb | hb
        · have h1 := TD11.out.oa.lt b hb; have h2 := TD11.out.ha b hb; exact ⟨by omega, h1.1, h2, h1.2⟩
        · have h1 := TD11.out.ob.lt b hb; have h2 := TD11.out.hb b hb; exact ⟨by omega, h1.1, h2, h1.2⟩) (by
      intro p q' hpq hq
      have : (p = 0 ∧ q' = 1) ∨ (p = 0 ∧ q' = 2) ∨ (p = 0 ∧ q' = 3) ∨ (p = 1 ∧ q' = 2) ∨ (p = 1 ∧ q' = 3) ∨ (p = 2 ∧ q' = 3) := by omega
      rcases this with ⟨rfl, rfl⟩ | ⟨rfl, rfl⟩ | ⟨rfl, rfl⟩ | ⟨rfl, rfl⟩ | ⟨rfl, rfl⟩ | ⟨rfl, rfl⟩
      · show w3.heap.size ≤ w3.heap.size; omega
      · show w3.heap.size ≤ w4.heap.size; omega
      · show w3.heap.size ≤ w6.heap.size; omega
      · show w4.heap.size ≤ w4.heap.size; omega
      · show w4.heap.size ≤ w6.heap.size; omega
      · show w5.heap.size ≤ w6.heap.size; omega) (by
      intro p hp
      have : p = 0 ∨ p = 1 ∨ p = 2 ∨ p = 3 := by omega
      rcases this with rfl | rfl | rfl | rfl
      · exact TA11.out.dj
      · exact TB11.out.dj
      · exact TC11.out.dj
      · exact TD11.out.dj) (by show w.heap.size ≤ w11.heap.size; omega) (by
      intro p hp
      have : p = 0 ∨ p = 1 ∨ p = 2 ∨ p = 3 := by omega
      rcases this with rfl | rfl | rfl | rfl
      · show ma ≤ 100000000 ∧ mb ≤ 100000000
        rw [TA11.out.la, TA11.out.lb]; omega
      · show mc ≤ 100000000 ∧ md ≤ 100000000
        rw [TB11.out.la, TB11.out.lb]; omega
      · show me ≤ 100000000 ∧ mf ≤ 100000000
        rw [TC11.out.la, TC11.out.lb]; omega
      · show mg ≤ 100000000 ∧ mh ≤ 100000000
        rw [TD11.out.la, TD11.out.lb]; omega)
  have hsm : ∀ (x y : Value) (L : List Int), IntsC w11 x L → IntsC w11 y L → L.length ≤ 140737488351232 → ∀ q, Calls Tryd.prog 17 #[x, y] (w11.drewN q) fun e w' => e = .returned (.bool true) ∧ ∃ q', w' = w11.drewN q' := by
    intro x y L hx hy hL q
    have := same17 L L x y (w11.drewN q) (hx.drewN q) (hy.drewN q) hL hL
    rw [show decide (L = L) = true by simp] at this
    exact this.mono fun e w' h => ⟨h.1, by obtain ⟨q2, rfl⟩ := h.2; exact ⟨_, by simp; rfl⟩⟩
  have lr : ∀ z : List Int, (runesOf (cut z)).length = (cut z).length := fun z => by simp [runesOf]
  have lp : ∀ z : List Int, (placesOf (cut z) ++ [(z.length : Int)]).length = (cut z).length + 1 := fun z => by simp [placesOf]
  have s1 := hsm _ _ _ TA11.out.intsA DA11.out.intsA (by rw [lr]; omega)
  have s2 := hsm _ _ _ TA11.out.intsB DA11.out.intsB (by rw [lp]; omega)
  have s3 := hsm _ _ _ TB11.out.intsA DB11.out.intsA (by rw [lr]; omega)
  have s4 := hsm _ _ _ TB11.out.intsB DB11.out.intsB (by rw [lp]; omega)
  have s5 := hsm _ _ _ TC11.out.intsA DA11.out.intsA (by rw [lr]; omega)
  have s6 := hsm _ _ _ TC11.out.intsB DA11.out.intsB (by rw [lp]; omega)
  have s7 := hsm _ _ _ TD11.out.intsA DC11.out.intsA (by rw [lr]; omega)
  have s8 := hsm _ _ _ TD11.out.intsB DC11.out.intsB (by rw [lp]; omega)
  clear hsm lr lp TA11 TB11 TC11 TD11 DA11 DB11 DC11 hcl hco hci
  go_wp2_with fail
  refine (s1 0).mono ?_
  rintro e w' ⟨rfl, q1, rfl⟩
  go_wp2_with fail
  refine (s2 q1).mono ?_
  rintro e w' ⟨rfl, q2, rfl⟩
  go_wp2_with fail
  refine (s3 q2).mono ?_
  rintro e w' ⟨rfl, q3, rfl⟩
  go_wp2_with fail
  refine (s4 q3).mono ?_
  rintro e w' ⟨rfl, q4, rfl⟩
  go_wp2_with fail
  refine (s5 q4).mono ?_
  rintro e w' ⟨rfl, q5, rfl⟩
  go_wp2_with fail
  refine (s6 q5).mono ?_
  rintro e w' ⟨rfl, q6, rfl⟩
  go_wp2_with fail
  refine (s7 q6).mono ?_
  rintro e w' ⟨rfl, q7, rfl⟩
  go_wp2_with fail
  refine (s8 q7).mono ?_
  rintro e w' ⟨rfl, q8, rfl⟩
  have HW := HOW q8
  have HBQ : Hid (Below w.heap.size w (w11.drewN q8)) := below_drewN HB11.out q8
  clear HOW s1 s2 s3 s4 s5 s6 s7 s8
  go_wp2_with fail
  refine HW.mono ?_
  rintro e w12 ⟨rfl, hb12⟩
  go_wp2
  go_ret
  exact ⟨rfl, (HBQ.out.alloc (by show w.heap.size ≤ w11.heap.size; omega) _).trans hb12⟩
end Go.Proofs.YtjglehklfdhgaaaDoor
