/- HELPERS: can a match be come to: the search walked. -/
import Derived.Test.YtaoagcnbdfklnaaRc
import Derived.OwnWalk
namespace Go.Proofs.Ytaoagcnbdfklnaa
open Go.RowKit Go.Lk
set_option linter.unusedVariables false
set_option linter.unusedSimpArgs false
def lenOf : Value → Nat
  | .slice _ n _ => n
  | _ => 0
theorem div_idx {i j q1 : Nat} (hj : j < q1) : ((i * q1 + j : Nat) : Int) / (q1 : Int) = (i : Int) ∧ ((i * q1 + j : Nat) : Int) % (q1 : Int) = (j : Int) := by
  have h1 : (i * q1 + j) / q1 = i := by rw [Nat.mul_comm, Nat.mul_add_div (by omega), Nat.div_eq_of_lt hj]; omega
  have h2 : (i * q1 + j) % q1 = j := by rw [Nat.mul_comm, Nat.mul_add_mod, Nat.mod_eq_of_lt hj]
  exact ⟨by rw [← Int.natCast_ediv, h1], by rw [← Int.natCast_emod, h2]⟩
theorem inst_pi {w : World} {B n : Nat} {ad : Option Addr} {l : List In} (h : PI w B ad n l) {i : Nat} (hi : i < l.length) :
    ∃ pb po r1 r2 r3, ad = some ⟨pb, po, none⟩ ∧ r2 = l[i].R.length ∧ ∀ W, Below B w W → (W.cell? ⟨pb, po + i * 5, none⟩ = some (.int .i64 l[i].op) ∧ W.cell? ⟨pb, po + i * 5 + 1, none⟩ = some (.int .i64 l[i].x) ∧ W.cell? ⟨pb, po + i * 5 + 2, none⟩ = some (.int .i64 l[i].y) ∧ W.cell? ⟨pb, po + i * 5 + 3, none⟩ = some (.int .i64 l[i].a) ∧ W.cell? ⟨pb, po + i * 5 + 4, none⟩ = some (.slice r1 r2 r3)) ∧ RowAt B W (.slice r1 r2 r3) l[i].R := by
  have hln := h.len
  obtain ⟨pb, po, ND, e, hpb, hcs⟩ := h.mem (by omega)
  obtain ⟨h5, hM⟩ := hcs i hi
  refine ⟨pb, po, (ND i).r1, (ND i).r2, (ND i).r3, e, hM.len, fun W hb => ?_⟩
  obtain ⟨m0, m1, m2, m3, m4⟩ := h5.kept (hb.block pb hpb)
  have hM' := hM.kept hb (Nat.le_refl _)
  rw [hM.op] at m0
  rw [hM.x] at m1
  rw [hM.y] at m2
  rw [hM.a] at m3
  exact ⟨⟨m0, m1, m2, m3, m4⟩, hM'.row⟩
theorem row_some {B : Nat} {w : World} {r1 : Option Addr} {r2 r3 : Nat} {R : List (Int × Int)} (h : RowAt B w (.slice r1 r2 r3) R) : r2 = R.length := by
  obtain ⟨_, _, e, _⟩ := h
  simp at e
  exact e.2.1
set_option maxRecDepth 100000 in
set_option maxHeartbeats 32000000 in
theorem reach19 {w : World} {ad tad : Option Addr} {n c tn tc S K a : Nat} {l : List In} {tx : List Int} (hP : PI w w.heap.size ad n l) (hmay : mayB l (S : Int) (K : Int) = true) (hT : TextAt w.heap.size w tad tn tx) (hl : tn ≤ 200) (ha : a ≤ tn) :
    Calls Try.prog 19 #[pv ad n c (S : Int) (K : Int), .slice tad tn tc, .int .i64 (a : Int)] w fun e w' => ∃ bb, e = .returned (.bool bb) ∧ (bb = true ↔ Rch (act l tx) S a) ∧ Below w.heap.size w w' := by
  have hln := hP.len
  have hm := may_ok hmay
  have htl : tn = tx.length := hT.1
  obtain ⟨i3, hi3, hz30, hz31, hz32⟩ := info_parts info3
  obtain ⟨q1, hq1⟩ : ∃ q1, q1 = tn + 1 := ⟨_, rfl⟩
  obtain ⟨B0, hB0⟩ : ∃ B0, B0 = w.heap.size := ⟨_, rfl⟩
  obtain ⟨x, hx⟩ : ∃ x, x = w.heap.size := ⟨_, rfl⟩
  obtain ⟨U, hU⟩ : ∃ U, U = w.alloc (.cells #[.slice ad n c, .int .i64 (S : Int), .int .i64 (K : Int)] 27) := ⟨_, rfl⟩
  have hM : n * q1 ≤ 20000 * 201 := Nat.mul_le_mul (by omega) (by omega)
  obtain ⟨M, hMe⟩ : ∃ M, M = n * q1 := ⟨_, rfl⟩
  have hM2 : M ≤ 4020000 := by omega
  have hSq : S * q1 + a < M := by rw [hMe]; exact idx_lt (by omega) (by omega)
  have hmk := makeB M (by omega) U
  obtain ⟨U1, hU1⟩ : ∃ U1, U1 = U.alloc (.cells (madeCells #[.bool false] M) 4) := ⟨_, rfl⟩
  rw [← hU1] at hmk
  obtain ⟨gm, hgm⟩ : ∃ gm, gm = U.heap.size := ⟨_, rfl⟩
  rw [← hgm] at hmk
  obtain ⟨U2, hU2⟩ : ∃ U2, U2 = U1.alloc (.cells #[.int .i64 ((S * q1 + a : Nat) : Int)] 3) := ⟨_, rfl⟩
  have hbU : Below w.heap.size w U := by rw [hU]; exact Joins.below_alloc1 w _
  have hbU1 : Below U.heap.size U U1 := by rw [hU1]; exact Joins.below_alloc1 U _
  have hbU2 : Below U1.heap.size U1 U2 := by rw [hU2]; exact Joins.below_alloc1 U1 _
  have hX : U.heap[x]? = some (.cells #[.slice ad n c, .int .i64 (S : Int), .int .i64 (K : Int)] 27 (0, 0)) := by rw [hU, hx]; exact heap_alloc_new w _
  have hxU : x < U.heap.size := (Array.getElem?_eq_some_iff.1 hX).1
  have hGM : U1.heap[gm]? = some (.cells (madeCells #[.bool false] M) 4 (0, 0)) := by rw [hU1, hgm]; exact heap_alloc_new U _
  have hgmU : gm < U1.heap.size := (Array.getElem?_eq_some_iff.1 hGM).1
  have hRS : RS w U2 B0 gm x n q1 c ad (S : Int) (K : Int) (some ⟨U1.heap.size, 0, none⟩) 1 [(S, a)] (fun _ _ => false) := by
    refine ⟨?_, ⟨_, (hbU2.block gm hgmU).trans hGM, by rw [size_madeCells, hMe], fun i p hi hp => ?_⟩, ((hbU2.block x (by have := hbU1.size; omega)).trans ((hbU1.block x hxU).trans hX)), ?_, fun t ht => by simp at ht; subst ht; exact ⟨by omega, by omega⟩, ?_⟩
    · rw [hU2]
      exact World.ownsRow_lit (base := B0) (e := 3) (size := 1) U1 #[.int .i64 ((S * q1 + a : Nat) : Int)] 1 (by have := hbU1.size; have := hbU.size; omega) (by unfold maxLen; omega) rfl
    · have : i * q1 + p < M := by rw [hMe]; exact idx_lt hi hp
      simp [madeCells, this, Nat.mod_one]
    · rw [hB0]; exact hbU.trans (Joins.below_le (hbU1.trans (Joins.below_le hbU2 hbU1.size)) hbU.size)
    · have := hbU.size; have := hbU1.size; have := hbU2.size; omega
  have hcW : cW U2 gm M ≤ M := by
    obtain ⟨arr, h1, _⟩ := hRS.met
    rw [cW_of h1]
    unfold cA
    have := List.countP_le_length (p := fun k => isF arr[k]?) (l := List.range M)
    simpa using this
  have a1 : IntKind.i64.wrap ((tn : Int) + 1) = (q1 : Int) := by rw [wrap_ok _ (by omega) (by omega)]; omega
  have a2 : IntKind.i64.wrap ((n : Int) * (q1 : Int)) = (M : Int) := by
    have e : (n : Int) * (q1 : Int) = (M : Int) := by rw [hMe]; push_cast; rfl
    rw [e]; exact wrap_ok _ (by omega) (by omega)
  have hSq2 : S * q1 ≤ S * q1 + a := by omega
  have hmulN : ∀ X j : Nat, (X : Int) * (q1 : Int) + (j : Int) = ((X * q1 + j : Nat) : Int) := fun X j => by push_cast; rfl
  have hmulI : ∀ X : Nat, (X : Int) * (q1 : Int) = ((X * q1 : Nat) : Int) := fun X => by push_cast; rfl
  have a3 : IntKind.i64.wrap ((S : Int) * (q1 : Int)) = (S : Int) * (q1 : Int) := by rw [hmulI S]; exact wrap_ok _ (by omega) (by omega)
  have a4 : IntKind.i64.wrap ((S : Int) * (q1 : Int) + (a : Int)) = ((S * q1 + a : Nat) : Int) := by rw [hmulN S a]; exact wrap_ok _ (by omega) (by omega)
  have HMN := hid hmulN
  have HMI := hid hmulI
  obtain ⟨c0, c1, c2⟩ := three_cells hX
  have cc1 : U1.cell? ⟨x, 1, none⟩ = some (.int .i64 (S : Int)) := (cell_eq (hbU1.block x hxU) _).trans c1
  have HRS := hid hRS
  have HRK := hid (RK.init (act l tx) (S, a))
  have HP := hid hP
  have HT := hid hT
  have HM := hid hm
  have HMY := hid hmay
  have HLN := hid hln
  have HTL := hid htl
  have HB0 := hid hB0
  have HME := hid hMe
  have HCW := hid hcW
  have HQ1 := hid hq1
  have hq1p : q1 ≤ 201 ∧ 0 < q1 := by omega
  have hn2 : n ≤ 20000 := by omega
  obtain ⟨zb, hzb⟩ : ∃ zb, zb = U1.heap.size := ⟨_, rfl⟩
  rw [← hzb] at HRS
  generalize hsq : S * q1 + a = sq at *
  clear hRS hP hT hm hln htl hbU hbU1 hbU2 hX hGM hcW hmay hM hSq2 hsq hmulN hmulI
  go_enter Try.func19, Try.ntmps19
  go_upto_region 1 with fail
  rw [← hU, ← hx]
  clear hU hU1 hgm hx hB0 hMe hq1
  go_wp2_with fail
  rw [← hU2, ← hzb]
  clear hU2 hzb c0 c1 c2 cc1 hmk a1 a2 a3 a4
  go_loopw [9] (fun u wq => ∃ (L : Nat) (z : Option Addr) (cz : Nat) (st : List (Nat × Nat)) (m : Met), u = .slice z L cz ∧ Hid (L = st.length) ∧ Hid (RS w wq B0 gm x n q1 c ad (S : Int) (K : Int) z cz st m) ∧ Hid (RK (act l tx) (S, a) st m) ∧ 6000 * cW wq gm M + L ≤ 6000 * M + 1) (fun u wq => 6000 * cW wq gm M + lenOf u)
  case atStart => exact ⟨1, some ⟨zb, 0, none⟩, 1, [(S, a)], fun _ _ => false, rfl, rfl, HRS.out, HRK.out, by have := HCW.out; omega⟩
  case round =>
    clear HRS HRK HCW
    obtain ⟨L, z, cz, st, m, rfl, HL, HRS, HRK, hms⟩ := hrel
    cases st with
    | nil =>
      obtain rfl : L = 0 := HL.out
      have b1 : decide ((0 : Int) < 0) = false := by decide
      go_wp2
      all_goals go_ret
      all_goals exact ⟨false, rfl, ⟨fun h => absurd h (by simp), fun h => absurd h HRK.out.no⟩, by rw [← HB0.out]; exact HRS.out.bl⟩
    | cons t st =>
      obtain ⟨i, j⟩ := t
      obtain ⟨L', rfl⟩ : ∃ L', L = L' + 1 := ⟨st.length, HL.out⟩
      have hL' : L' = st.length := by have := HL.out; simp at this; exact this
      obtain ⟨zb, hzb⟩ : ∃ zb, z = some ⟨zb, 0, none⟩ := by
        rcases HRS.out.row.2 with ⟨_, e⟩ | ⟨g, cap, cur, e, _⟩
        · simp at e
        · simp only [Value.slice.injEq] at e; exact ⟨g, e.1⟩
      subst hzb
      have hcz : L' + 1 ≤ cz := by
        obtain ⟨_, _, e, h1, _⟩ := row_shape HRS.out.row
        simp only [Value.slice.injEq] at e
        obtain ⟨_, _, rfl⟩ := e
        simp at h1
        omega
      obtain ⟨hi, hj⟩ := HRS.out.ok (i, j) List.mem_cons_self
      have hi' : i < n := hi
      have hj' : j < q1 := hj
      have htop : wr.cell? ⟨zb, L', none⟩ = some (.int .i64 ((i * q1 + j : Nat) : Int)) := by
        have h1 := HRS.out.row.cellAt L' (by simp; omega)
        rw [h1, stq, I64, List.map_append, List.getElem?_append_right (by simp [stq_len]; omega)]
        simp [stq_len, hL']
      have hidx : i * q1 + j < M := by rw [HME.out]; exact idx_lt hi' hj'
      obtain ⟨mt, mf⟩ := HRS.out.metAt hi' hj'
      obtain ⟨dv, md⟩ := div_idx (i := i) hj'
      generalize hix : i * q1 + j = ix at htop hidx mt mf dv md
      have HIX := hid hix
      have b1 : decide ((0 : Int) < (L' : Int) + 1) = true := by first | (simp; done) | (simp; omega)
      have b1' : decide (((L' + 1 : Nat) : Int) > 0) = true := by first | (simp; done) | (simp; omega)
      have a3 : IntKind.i64.wrap ((L' : Int) + 1 - 1) = (L' : Int) := by rw [wrap_ok _ (by omega) (by omega)]; omega
      have a4 : IntKind.i64.wrap (((L' + 1 : Nat) : Int) - 1) = (L' : Int) := by rw [wrap_ok _ (by omega) (by omega)]; omega
      have u1 : (L' : Int) < (L' : Int) + 1 := by omega
      have u2 : (L' : Int) < ((L' + 1 : Nat) : Int) := by omega
      have u3 : (0 : Int) ≤ (L' : Int) := by omega
      have u4 : (L' : Int) ≤ (cz : Int) := by omega
      have u5 : (ix : Int) < (M : Int) := by omega
      have HPOP := hid HRS.out.pop
      have HL2 := hid hL'
      clear hL' HL hi hj hix
      cases hmet : m i j
      · rw [hmet] at mt
        have HMT := hid hmet
        clear hmet
        obtain ⟨hRS1, hcw1⟩ := HPOP.out.mark hi' hj' HMT.out
        rw [HIX.out] at hRS1 hcw1
        rw [← HME.out] at hcw1
        have hil : i < l.length := by have := HLN.out; omega
        obtain ⟨pb, po, r1, r2, r3, hpa, hpr, hcs⟩ := inst_pi HP.out hil
        subst hpa
        obtain ⟨W1, hW1⟩ : ∃ W1, W1 = wr.setCell ⟨gm, ix, none⟩ (.bool true) := ⟨_, rfl⟩
        rw [← hW1] at hRS1 hcw1
        have hbl1 : Below w.heap.size w W1 := by have := hRS1.bl; rw [HB0.out] at this; exact this
        obtain ⟨⟨m0, m1, m2, m3, m4⟩, _⟩ := hcs W1 hbl1
        obtain ⟨x0, x1, x2⟩ := three_cells hRS1.bx
        have hRSV := fun (o : Obj) => hRS1.kept (w' := W1.alloc o) (Joins.below_alloc1 W1 o)
        have HRSV := hid hRSV
        have HR1 := hid hRS1
        have HCS := hid hcs
        have HPR := hid hpr
        have hok := HM.out.2.2.2.2.2 l[i] (List.getElem_mem hil)
        have HOK := hid hok
        have HW1 := hid hW1
        have u6 : (i : Int) < (n : Int) := by omega
        have hxW : x < W1.heap.size := lt_of_cell x0
        have hpW : pb < W1.heap.size := lt_of_cell m0
        have hq0 : ¬ q1 = 0 := by omega
        have wi : IntKind.i64.wrap (i : Int) = (i : Int) := wrap_ok _ (by omega) (by omega)
        have wj : IntKind.i64.wrap (j : Int) = (j : Int) := wrap_ok _ (by omega) (by omega)
        clear hRS1 hcs hpr hok hW1 hbl1 hRSV
        go_upto_region 9 with fail
        rw [← HW1.out]
        clear HW1 mt mf htop b1 b1' a3 a4 u1 u2 u3 u4 u5
        go_region
        obtain ⟨V, hV⟩ : ∃ V, V = (W1.alloc (.cells #[.int .i64 l[i].op, .int .i64 l[i].x, .int .i64 l[i].y, .int .i64 l[i].a, .slice r1 r2 r3] 49)).drew := ⟨_, rfl⟩
        rw [← hV]
        have hbV : Below W1.heap.size W1 V := by rw [hV]; exact (Joins.below_alloc1 W1 _).drew
        have hRV : RS w V B0 gm x n q1 c (some ⟨pb, po, none⟩) (S : Int) (K : Int) (some ⟨zb, 0, none⟩) cz st (mark m i j) := HR1.out.kept hbV
        have hY : V.heap[W1.heap.size]? = some (.cells #[.int .i64 l[i].op, .int .i64 l[i].x, .int .i64 l[i].y, .int .i64 l[i].a, .slice r1 r2 r3] 49 (0, 0)) := by rw [hV]; exact heap_alloc_new W1 _
        obtain ⟨y, hy⟩ : ∃ y, y = W1.heap.size := ⟨_, rfl⟩
        rw [← hy] at hY ⊢
        have hyV : y < V.heap.size := (Array.getElem?_eq_some_iff.1 hY).1
        obtain ⟨v0, v1, v2, v3, v4⟩ := five hY
        have hcwV : cW V gm M = cW W1 gm M := by
          obtain ⟨arr, h1, _⟩ := HR1.out.met
          exact cW_same (hbV.block gm (Array.getElem?_eq_some_iff.1 h1).1)
        have hcw2 : cW V gm M < cW wr gm M := by omega
        have HCV := hid hcw2
        have HRV := hid hRV
        have HBV := hid hbV
        have HY := hid hY
        have hvs : B0 ≤ V.heap.size := hRV.lo.2
        have hXn : hasXB l[i].op = true → ∃ X : Nat, l[i].x = (X : Int) ∧ X < n := fun h => by
          have h1 := ok_x HOK.out h
          obtain ⟨X, hX⟩ := Int.eq_ofNat_of_zero_le h1.1
          exact ⟨X, hX, by have := HLN.out; omega⟩
        have hYn : hasYB l[i].op = true → ∃ X : Nat, l[i].y = (X : Int) ∧ X < n := fun h => by
          have h1 := ok_y HOK.out h
          obtain ⟨X, hX⟩ := Int.eq_ofNat_of_zero_le h1.1
          exact ⟨X, hX, by have := HLN.out; omega⟩
        have HXN := hid hXn
        have HYN := hid hYn
        have hact : act l tx j i = actI tx l[i] j := by unfold act; rw [getD_in' hil]
        have HACT := hid hact
        have hMid : ∀ X jj : Nat, X < n → jj < q1 → IntKind.i64.wrap ((X : Int) * (q1 : Int)) = (X : Int) * (q1 : Int) ∧ IntKind.i64.wrap ((X : Int) * (q1 : Int) + (jj : Int)) = ((X * q1 + jj : Nat) : Int) ∧ X * q1 + jj < M := fun X jj h1 h2 => by
          have h3 : X * q1 + jj < M := by rw [HME.out]; exact idx_lt h1 h2
          refine ⟨?_, ?_, h3⟩
          · rw [HMI.out X]; exact wrap_ok _ (by omega) (by omega)
          · rw [HMN.out X jj]; exact wrap_ok _ (by omega) (by omega)
        have HMID := hid hMid
        have hLs : 6000 * cW wr gm M + L' ≤ 6000 * M := by omega
        clear hV hbV hRV hY hy hcwV hcw2 hXn hYn hact hMid m0 m1 m2 m3 m4 x0 x1 x2 hxW hpW HRSV dv wi hcw1
        rcases ok_op HOK.out with ho | ho | ho | ho | ho | ho | ho
        · rw [ho] at v0
          have HO := hid ho
          clear ho
          have hright : rightB l[i].R = true := ok_R HOK.out HO.out
          have hr5 : r2 ≤ 5000 := by rw [HPR.out]; unfold rightB at hright; simp at hright; exact hright.1
          obtain ⟨X, hX, hXl⟩ := HXN.out (by rw [HO.out]; rfl)
          rw [hX] at v1
          have HXE2 := hid hX
          clear hX
          by_cases hjt : j < tn
          · have HTV : Hid (∀ W, Below B0 w W → ∃ tb tof, tad = some ⟨tb, tof, none⟩ ∧ W.cell? ⟨tb, tof + j, none⟩ = some (.int .i64 (tx.getD j 0))) := fun W h => by
              obtain ⟨_, _, h0 | ⟨tb, tof, h1, h2, h3⟩⟩ := HT.out
              · omega
              · exact ⟨tb, tof, h1, (cell_eq (h.block tb (by have := HB0.out; omega)) _).trans (h3 j hjt)⟩
            have g1 : decide ((j : Int) < (tn : Int)) = true := by simp; omega
            have g1' : (j : Int) < (tn : Int) := by omega
            obtain ⟨tb, tof, htad, _⟩ := HTV.out V HRV.out.bl
            subst htad
            have HTV2 : Hid (∀ W, Below B0 w W → W.cell? ⟨tb, tof + j, none⟩ = some (.int .i64 (tx.getD j 0))) := fun W h => by
              obtain ⟨tb', tof', e, h1⟩ := HTV.out W h
              simp only [Option.some.injEq, Addr.mk.injEq] at e
              obtain ⟨rfl, rfl, _⟩ := e
              exact h1
            generalize hr : tx.getD j 0 = r at HTV2
            have HRE := hid hr
            clear hr HTV
            have hj1 : j + 1 < q1 := by have := HQ1.out; omega
            obtain ⟨e1, e2, e3⟩ := HMID.out X j hXl hj'
            have e3' : X * q1 + (j + 1) < M := (HMID.out X (j + 1) hXl hj1).2.2
            generalize hxi : X * q1 + j = xi at e2 e3
            have HXI := hid hxi
            have hxi1 : X * q1 + (j + 1) = xi + 1 := by omega
            have HXI1 := hid hxi1
            have e4 : IntKind.i64.wrap ((xi : Int) + 1) = ((xi + 1 : Nat) : Int) := by rw [wrap_ok _ (by omega) (by omega)]; omega
            clear hxi hxi1 e3'
            go_wp2_with fail
            rw [md]
            go_loopw [9, 13] (fun v9 v wq => ∃ (q cnt : Nat) (z2 : Option Addr) (c2 : Nat), v9 = .slice z2 (L' + cnt) c2 ∧ v = .int .i64 (q : Int) ∧ q ≤ r2 ∧ cnt ≤ q ∧ Hid (RS w wq B0 gm x n q1 c (some ⟨pb, po, none⟩) (S : Int) (K : Int) z2 c2 (List.replicate cnt (X, j + 1) ++ st) (mark m i j)) ∧ Hid (cW wq gm M = cW V gm M) ∧ Hid (wq.heap[y]? = some (.cells #[.int .i64 l[i].op, .int .i64 l[i].x, .int .i64 l[i].y, .int .i64 l[i].a, .slice r1 r2 r3] 49 (0, 0))) ∧ Hid (0 < cnt ↔ ∃ p, p < q ∧ (l[i].R.getD p (0, 0)).1 ≤ r ∧ r ≤ (l[i].R.getD p (0, 0)).2)) (fun _ v _ => r2 - (intOf v).toNat)
            case atStart => exact ⟨0, 0, some ⟨zb, 0, none⟩, cz, rfl, rfl, Nat.zero_le _, Nat.le_refl _, HRV.out, rfl, HY.out, ⟨fun h => by omega, fun ⟨p, h, _⟩ => by omega⟩⟩
            case round =>
              obtain ⟨q, cnt, z2, c2', rfl, rfl, hq, hcnt, HR2, HC2, HY2, HI2⟩ := hrel
              clear v0 v1 v2 v3 v4
              obtain ⟨v0, v1, v2, v3, v4⟩ := five HY2.out
              rw [HXE2.out] at v1
              by_cases hqr : q < r2
              · have g2 : decide ((q : Int) < (r2 : Int)) = true := by simp; omega
                have g2' : (q : Int) < (r2 : Int) := by omega
                have a5 : IntKind.i64.wrap ((q : Int) + 1) = (q : Int) + 1 := by rw [wrap_ok _ (by omega) (by omega)]
                have ht := HTV2.out _ HR2.out.bl
                obtain ⟨_, hrow⟩ := HCS.out _ (by have := HR2.out.bl; rw [HB0.out] at this; exact this)
                obtain ⟨ad', cap', he, h0 | ⟨lb, lof, hr1, hlb, hc0, hc1⟩⟩ := hrow
                · have := HPR.out; omega
                simp only [Value.slice.injEq] at he
                obtain ⟨hr1', -, rfl⟩ := he
                rw [← hr1'] at hr1
                clear hr1'
                subst hr1
                have t0 := hc0 q (by have := HPR.out; omega)
                have t1 := hc1 q (by have := HPR.out; omega)
                have HI3 : Hid (∀ b : Bool, (decide ((l[i].R.getD q (0, 0)).1 ≤ r) && decide (r ≤ (l[i].R.getD q (0, 0)).2)) = b → (0 < (if b then cnt + 1 else cnt) ↔ ∃ p, p < q + 1 ∧ (l[i].R.getD p (0, 0)).1 ≤ r ∧ r ≤ (l[i].R.getD p (0, 0)).2)) := fun b hb => by
                  have h3 := HI2.out
                  cases b
                  · simp only [Bool.false_eq_true, if_false]
                    rw [h3]
                    constructor
                    · rintro ⟨p, h1, h2⟩; exact ⟨p, by omega, h2⟩
                    · rintro ⟨p, h1, h2, h4⟩
                      by_cases e : p = q
                      · exfalso; subst e; rw [decide_eq_true h2, decide_eq_true h4] at hb; cases hb
                      · exact ⟨p, by omega, h2, h4⟩
                  · simp only [if_true]
                    simp only [Bool.and_eq_true, decide_eq_true_eq] at hb
                    exact ⟨fun _ => ⟨q, by omega, hb.1, hb.2⟩, fun _ => by omega⟩
                generalize hlo : (l[i].R.getD q (0, 0)).1 = lo at t0 HI3
                generalize hhi : (l[i].R.getD q (0, 0)).2 = hi2 at t1 HI3
                clear hlo hhi hc0 hc1 hlb
                go_upto_region 26 with fail
                have k1 : (q : Int) < (r2 : Int) := by omega
                have k2 : (j : Int) < (tn : Int) := by omega
                have k3 : (0 : Int) ≤ (q : Int) := by omega
                have k4 : (0 : Int) ≤ (j : Int) := by omega
                have k5 : ¬ r2 ≤ q := by omega
                have k6 : ¬ tn ≤ j := by omega
                have k7 : (q : Int).toNat = q := by omega
                by_cases hlo : lo ≤ r
                · have d1 : decide (lo ≤ r) = true := by simp [hlo]
                  by_cases hhi : r ≤ hi2
                  · have d2 : decide (r ≤ hi2) = true := by simp [hhi]
                    go_quiet (fail)
                    obtain ⟨V2, hV2⟩ : ∃ V2, V2 = wr.drewN nq := ⟨_, rfl⟩
                    rw [← hV2]
                    have hE2 : Eqw wr V2 := by rw [hV2]; exact Eqw.drewN wr nq
                    have HRV2 := hid (HR2.out.kept (hE2.below _))
                    have HCV2 : Hid (cW V2 gm M = cW V gm M) := by show _ = _; rw [cW_same (hE2.blk gm)]; exact HC2.out
                    have HYV2 := hid ((hE2.blk y).trans HY2.out)
                    have v1' := (cell_eq (hE2.blk y) 1).trans v1
                    have hvs2 : B0 ≤ V2.heap.size := HRV2.out.lo.2
                    have hL3 : L' + cnt = (List.replicate cnt (X, j + 1) ++ st).length := by have := HL2.out; simp; omega
                    have HL3 := hid hL3
                    clear hV2 hE2 v0 v1 v2 v3 v4 hL3
                    have HRO : Hid ((V2.alloc (.cells #[.int .i64 ((xi + 1 : Nat) : Int)] 3)).ownsRow B0 3 1 (.slice z2 (L' + cnt) c2') (L' + cnt) (I64 (stq q1 (List.replicate cnt (X, j + 1) ++ st)))) := by have := HRV2.out.row; rw [← HL3.out] at this; exact this.alloc _
                    have HSR : Hid ((V2.alloc (.cells #[.int .i64 ((xi + 1 : Nat) : Int)] 3)).ownsRow 0 3 1 (.slice (some ⟨V2.heap.size, 0, none⟩) 1 1) 1 [.int .i64 ((xi + 1 : Nat) : Int)]) := World.ownsRow_lit (base := 0) (e := 3) (size := 1) V2 #[.int .i64 ((xi + 1 : Nat) : Int)] 1 (Nat.zero_le _) (by unfold maxLen; omega) rfl
                    go_wp2_with (at_builtin; refine wpList_append_row rfl (.tmp 151) (.tmp 159) 28 rfl B0 3 i3 (.int .i64 0) 1 8 Try.underlying28 hi3 hz30 hz31 hz32 rfl (by decide) (.slice z2 (L' + cnt) c2') (L' + cnt) (I64 (stq q1 (List.replicate cnt (X, j + 1) ++ st))) rfl HRO.out (.slice (some ⟨V2.heap.size, 0, none⟩) 1 1) 1 0 [.int .i64 ((xi + 1 : Nat) : Int)] rfl HSR.out (fun h => by omega) (by simp [Value.oneCell']) (by unfold maxLen; omega) (by omega) (by (try simp) <;> omega) ?_; intro v7 w7 ho7 hf7 _; obtain ⟨y1, y3, rfl, _⟩ := row_shape ho7.out)
                    obtain ⟨hp1, hp2⟩ := HRV2.out.push (ts := [(X, j + 1)]) (w7 := w7) (y1 := y1) (y3 := y3) (Joins.below_alloc1 V2 _) (by rw [← HL3.out]; exact hf7.out) (by rw [← HL3.out]; have := ho7.out; rw [← HXI1.out] at this; exact this) (fun t ht => by simp at ht; subst ht; exact ⟨hXl, hj1⟩)
                    rw [← HME.out] at hp2
                    have hy7 : w7.heap[y]? = V2.heap[y]? := (hf7.out.block y (by have := (Array.getElem?_eq_some_iff.1 HYV2.out).1; (try simp); omega) (own_ne HRV2.out.row HYV2.out (by decide) ∘ (fun h => by rw [← HL3.out]; exact h))).trans (heap_alloc_old _ _ (Array.getElem?_eq_some_iff.1 HYV2.out).1)
                    refine ⟨⟨q + 1, cnt + 1, y1, y3, rfl, by push_cast; rfl, by omega, by omega, by show RS _ _ _ _ _ _ _ _ _ _ _ _ _ _ _; rw [List.replicate_succ]; exact hp1, by show _ = _; rw [hp2]; exact HCV2.out, hy7.trans HYV2.out, by have := HI3.out true (by simp [hlo, hhi]); exact this⟩, by simp [intOf]; omega⟩
                  · have d2 : decide (r ≤ hi2) = false := by simp [hhi]
                    go_quiet (fail)
                    obtain ⟨V2, hV2⟩ : ∃ V2, V2 = wr.drewN nq := ⟨_, rfl⟩
                    rw [← hV2]
                    have hE2 : Eqw wr V2 := by rw [hV2]; exact Eqw.drewN wr nq
                    have HE2 := hid hE2
                    clear hV2 hE2
                    go_wp2
                    refine ⟨⟨q + 1, cnt, z2, c2', rfl, by push_cast; rfl, by omega, by omega, HR2.out.kept (HE2.out.below _), by show _ = _; rw [cW_same (HE2.out.blk gm)]; exact HC2.out, (HE2.out.blk y).trans HY2.out, by have := HI3.out false (by simp [hlo, hhi]); exact this⟩, by simp [intOf]; omega⟩
                · have d1 : decide (lo ≤ r) = false := by simp [hlo]
                  go_quiet (fail)
                  obtain ⟨V2, hV2⟩ : ∃ V2, V2 = wr.drewN nq := ⟨_, rfl⟩
                  rw [← hV2]
                  have hE2 : Eqw wr V2 := by rw [hV2]; exact Eqw.drewN wr nq
                  have HE2 := hid hE2
                  clear hV2 hE2
                  go_wp2
                  refine ⟨⟨q + 1, cnt, z2, c2', rfl, by push_cast; rfl, by omega, by omega, HR2.out.kept (HE2.out.below _), by show _ = _; rw [cW_same (HE2.out.blk gm)]; exact HC2.out, (HE2.out.blk y).trans HY2.out, by have := HI3.out false (by simp [hlo]); exact this⟩, by simp [intOf]; omega⟩
              · have g2 : decide ((q : Int) < (r2 : Int)) = false := by simp; omega
                have hqe : q = r2 := by omega
                have hin : (0 < cnt ↔ inB l[i].R r = true) := by
                  rw [HI2.out]
                  unfold inB
                  rw [List.any_eq_true]
                  constructor
                  · rintro ⟨p, h1, h2, h3⟩
                    have hp : p < l[i].R.length := by have := HPR.out; omega
                    refine ⟨l[i].R[p], List.getElem_mem hp, ?_⟩
                    have e : l[i].R.getD p (0, 0) = l[i].R[p] := by simp [List.getD_eq_getElem?_getD, List.getElem?_eq_getElem hp]
                    rw [e] at h2 h3
                    simp [h2, h3]
                  · rintro ⟨g, hg, h1⟩
                    obtain ⟨p, hp, rfl⟩ := List.getElem_of_mem hg
                    have e : l[i].R.getD p (0, 0) = l[i].R[p] := by simp [List.getD_eq_getElem?_getD, List.getElem?_eq_getElem hp]
                    simp only [Bool.and_eq_true, decide_eq_true_eq] at h1
                    exact ⟨p, by have := HPR.out; omega, by rw [e]; exact h1.1, by rw [e]; exact h1.2⟩
                have HSUC : Hid (isFit (act l tx) (i, j) = false ∧ ∀ u, u ∈ List.replicate cnt (X, j + 1) ↔ u ∈ succs (act l tx) (i, j)) := by
                  have hdj : decide (j < tx.length) = true := by have := HTL.out; simp; omega
                  have hhs : hsB l[i].R r = inB l[i].R r := by unfold hsB; rw [hright]; rfl
                  cases hb : inB l[i].R r
                  · have hA : act l tx j i = .stop := by rw [HACT.out]; unfold actI; rw [HO.out, HRE.out, hdj, hhs, hb]; rfl
                    have hc0 : cnt = 0 := by rw [hb] at hin; have := hin.1; simp at this; omega
                    subst hc0
                    exact ⟨by unfold isFit; simp only [hA], fun u => by unfold succs; simp only [hA]; simp⟩
                  · have hA : act l tx j i = .rune X := by rw [HACT.out]; unfold actI; rw [HO.out, HRE.out, hdj, hhs, hb, HXE2.out]; rfl
                    have hc0 : 0 < cnt := hin.2 hb
                    exact ⟨by unfold isFit; simp only [hA], fun u => by unfold succs; simp only [hA]; simp; intro _; omega⟩
                clear hin
                go_wp2
                refine ⟨⟨L' + cnt, z2, c2', List.replicate cnt (X, j + 1) ++ st, mark m i j, rfl, by show _ = _; simp [HL2.out]; omega, HR2.out, HRK.out.new HSUC.out.1 HSUC.out.2, by have := HCV.out; rw [HC2.out]; omega⟩, by have := HCV.out; rw [HC2.out]; simp [lenOf]; omega⟩
          · have g1 : decide ((j : Int) < (tn : Int)) = false := by simp; omega
            have HA6 : Hid (act l tx j i = .stop) := by show _ = _; rw [HACT.out]; unfold actI; rw [HO.out, show decide (j < tx.length) = false by have := HTL.out; simp; omega]; rfl
            go_wp2_with fail
            rw [md]
            go_loopw [9, 13] (fun v9 v wq => v9 = .slice (some ⟨zb, 0, none⟩) L' cz ∧ v = .int .i64 0 ∧ wq = V) (fun _ _ _ => 0)
            case atStart => exact ⟨rfl, rfl, rfl⟩
            case round =>
              obtain ⟨rfl, rfl, hwq⟩ := hrel
              have hwq' := hwq.symm
              clear hwq
              subst hwq'
              by_cases hr0 : 0 < r2
              · have g2 : decide ((0 : Int) < (r2 : Int)) = true := by simp; omega
                go_wp2
                refine ⟨⟨L', some ⟨zb, 0, none⟩, cz, st, mark m i j, rfl, HL2.out, HRV.out, HRK.out.new (P := []) (by unfold isFit; simp only [HA6.out]) (fun u => by unfold succs; simp only [HA6.out]), by have := HCV.out; omega⟩, by have := HCV.out; simp [lenOf]; omega⟩
              · have g2 : decide ((0 : Int) < (r2 : Int)) = false := by simp; omega
                go_wp2
                refine ⟨⟨L', some ⟨zb, 0, none⟩, cz, st, mark m i j, rfl, HL2.out, HRV.out, HRK.out.new (P := []) (by unfold isFit; simp only [HA6.out]) (fun u => by unfold succs; simp only [HA6.out]), by have := HCV.out; omega⟩, by have := HCV.out; simp [lenOf]; omega⟩
        · rw [ho] at v0
          have HO := hid ho
          clear ho
          obtain ⟨X, hX, hXl⟩ := HXN.out (by rw [HO.out]; rfl)
          obtain ⟨Y, hYe, hYl⟩ := HYN.out (by rw [HO.out]; rfl)
          rw [hX] at v1
          rw [hYe] at v2
          have HA6 : Hid (act l tx j i = .alt X Y) := by show _ = _; rw [HACT.out]; unfold actI; rw [HO.out, hX, hYe]; rfl
          obtain ⟨e1, e2, e3⟩ := HMID.out X j hXl hj'
          obtain ⟨g1, g2, g3⟩ := HMID.out Y j hYl hj'
          clear hX hYe
          generalize hxi : X * q1 + j = xi at e2 e3
          generalize hyi : Y * q1 + j = yi at g2 g3
          have HXI := hid hxi
          have HYI := hid hyi
          clear hxi hyi
          have HRO : Hid ((V.alloc (.cells #[.int .i64 (xi : Int), .int .i64 (yi : Int)] 3)).ownsRow B0 3 1 (.slice (some ⟨zb, 0, none⟩) L' cz) L' (I64 (stq q1 st))) := by have := HRV.out.row; rw [← HL2.out] at this; exact this.alloc _
          have HSR : Hid ((V.alloc (.cells #[.int .i64 (xi : Int), .int .i64 (yi : Int)] 3)).ownsRow 0 3 1 (.slice (some ⟨V.heap.size, 0, none⟩) 2 2) 2 [.int .i64 (xi : Int), .int .i64 (yi : Int)]) := World.ownsRow_lit (base := 0) (e := 3) (size := 1) V #[.int .i64 (xi : Int), .int .i64 (yi : Int)] 2 (Nat.zero_le _) (by unfold maxLen; omega) rfl
          go_wp2_with (at_builtin; refine wpList_append_row rfl (.tmp 67) (.tmp 80) 28 rfl B0 3 i3 (.int .i64 0) 1 8 Try.underlying28 hi3 hz30 hz31 hz32 rfl (by decide) (.slice (some ⟨zb, 0, none⟩) L' cz) L' (I64 (stq q1 st)) rfl HRO.out (.slice (some ⟨V.heap.size, 0, none⟩) 2 2) 2 0 [.int .i64 (xi : Int), .int .i64 (yi : Int)] rfl HSR.out (fun h => by omega) (by simp [Value.oneCell']) (by unfold maxLen; omega) (by omega) (by (try simp) <;> omega) ?_; intro v7 w7 ho7 hf7 _; obtain ⟨y1, y3, rfl, _⟩ := row_shape ho7.out)
          obtain ⟨hp1, hp2⟩ := HRV.out.push (ts := [(Y, j), (X, j)]) (w7 := w7) (y1 := y1) (y3 := y3) (Joins.below_alloc1 V _) (by rw [← HL2.out]; exact hf7.out) (by rw [← HL2.out]; have := ho7.out; rw [← HXI.out, ← HYI.out] at this; exact this) (fun t ht => by simp at ht; rcases ht with rfl | rfl; exact ⟨hYl, hj'⟩; exact ⟨hXl, hj'⟩)
          rw [← HME.out] at hp2
          refine ⟨⟨L' + 2, y1, y3, [(Y, j), (X, j)] ++ st, mark m i j, rfl, by show _ = _; simp [HL2.out], hp1, HRK.out.new (P := [(Y, j), (X, j)]) (by unfold isFit; simp only [HA6.out]) (fun u => by unfold succs; simp only [HA6.out]; simp; exact Or.comm), by have := HCV.out; rw [hp2]; omega⟩, by have := HCV.out; rw [hp2]; simp [lenOf]; omega⟩
        · rw [ho] at v0
          have HO := hid ho
          clear ho
          obtain ⟨X, hX, hXl⟩ := HXN.out (by rw [HO.out]; rfl)
          rw [hX] at v1
          have HA6 : Hid (act l tx j i = .cap X l[i].a.toNat) := by show _ = _; rw [HACT.out]; unfold actI; rw [HO.out, hX]; rfl
          obtain ⟨e1, e2, e3⟩ := HMID.out X j hXl hj'
          clear hX
          generalize hxi : X * q1 + j = xi at e2 e3
          have HXI := hid hxi
          clear hxi
          have HRO : Hid ((V.alloc (.cells #[.int .i64 (xi : Int)] 3)).ownsRow B0 3 1 (.slice (some ⟨zb, 0, none⟩) L' cz) L' (I64 (stq q1 st))) := by have := HRV.out.row; rw [← HL2.out] at this; exact this.alloc _
          have HSR : Hid ((V.alloc (.cells #[.int .i64 (xi : Int)] 3)).ownsRow 0 3 1 (.slice (some ⟨V.heap.size, 0, none⟩) 1 1) 1 [.int .i64 (xi : Int)]) := World.ownsRow_lit (base := 0) (e := 3) (size := 1) V #[.int .i64 (xi : Int)] 1 (Nat.zero_le _) (by unfold maxLen; omega) rfl
          go_wp2_with (at_builtin; refine wpList_append_row rfl (.tmp 85) (.tmp 92) 28 rfl B0 3 i3 (.int .i64 0) 1 8 Try.underlying28 hi3 hz30 hz31 hz32 rfl (by decide) (.slice (some ⟨zb, 0, none⟩) L' cz) L' (I64 (stq q1 st)) rfl HRO.out (.slice (some ⟨V.heap.size, 0, none⟩) 1 1) 1 0 [.int .i64 (xi : Int)] rfl HSR.out (fun h => by omega) (by simp [Value.oneCell']) (by unfold maxLen; omega) (by omega) (by (try simp) <;> omega) ?_; intro v7 w7 ho7 hf7 _; obtain ⟨y1, y3, rfl, _⟩ := row_shape ho7.out)
          obtain ⟨hp1, hp2⟩ := HRV.out.push (ts := [(X, j)]) (w7 := w7) (y1 := y1) (y3 := y3) (Joins.below_alloc1 V _) (by rw [← HL2.out]; exact hf7.out) (by rw [← HL2.out]; have := ho7.out; rw [← HXI.out] at this; exact this) (fun t ht => by simp at ht; subst ht; exact ⟨hXl, hj'⟩)
          rw [← HME.out] at hp2
          refine ⟨⟨L' + 1, y1, y3, [(X, j)] ++ st, mark m i j, rfl, by show _ = _; simp [HL2.out], hp1, HRK.out.new (P := [(X, j)]) (by unfold isFit; simp only [HA6.out]) (fun u => by unfold succs; simp only [HA6.out]), by have := HCV.out; rw [hp2]; omega⟩, by have := HCV.out; rw [hp2]; simp [lenOf]; omega⟩
        · rw [ho] at v0
          have HO := hid ho
          clear ho
          have has : assertB l[i].a = true := by
            have := HOK.out
            simp only [In.okB, Bool.and_eq_true, isArgB, HO.out] at this
            simpa using this.1.2
          have hab := assert_and l[i].a has tx j
          have HAT : Hid (∀ W, Eqw V W → Calls Try.prog 26 #[.slice tad tn tc, .int .i64 (j : Int)] W fun e w' => e = .returned (.int .i64 (atP tx j)) ∧ w' = W) := fun W e => by
            refine ref_in tx tad tn tc j W W.heap.size ?_ (by have := HQ1.out; omega)
            have hbW : Below w.heap.size w W := by have h1 := HRV.out.bl; rw [HB0.out] at h1; exact h1.trans (e.below _)
            exact (HT.out.below hbW).mono hbW.size
          generalize hat : atP tx j = at0 at HAT hab
          generalize haa : l[i].a = aa at v3 hab
          have HATE := hid hat
          have HAAE := hid haa
          clear hat haa has
          cases hh : holdsB aa at0
          · rw [hh] at hab
            have hab' : decide ((0 : Int) < bits .and .i64 at0 aa) = false := hab
            have HA6 : Hid (act l tx j i = .stop) := by show _ = _; rw [HACT.out]; unfold actI; rw [HO.out, HATE.out, HAAE.out, hh]; rfl
            clear hh
            go_upto_region 20 with fail
            go_quiet (first | (go_at_call 26; with_reducible refine Calls.quiet_of_same (HAT.out _ (by exact ⟨rfl, rfl, rfl, rfl⟩))))
            obtain ⟨V2, hV2⟩ : ∃ V2, V2 = V.drewN nq := ⟨_, rfl⟩
            rw [← hV2]
            have hE2 : Eqw V V2 := by rw [hV2]; exact Eqw.drewN V nq
            have HRV2 := hid (HRV.out.kept (hE2.below _))
            have HCV2 : Hid (cW V2 gm M < cW wr gm M) := by show _ < _; rw [cW_same (hE2.blk gm)]; exact HCV.out
            have v1' := (cell_eq (hE2.blk y) 1).trans v1
            have hvs2 : B0 ≤ V2.heap.size := HRV2.out.lo.2
            clear hV2 hE2 v0 v1 v2 v3 v4 HAT hab hab'
            go_wp2
            refine ⟨⟨L', some ⟨zb, 0, none⟩, cz, st, mark m i j, rfl, HL2.out, HRV2.out, HRK.out.new (P := []) (by unfold isFit; simp only [HA6.out]) (fun u => by unfold succs; simp only [HA6.out]), by have := HCV2.out; omega⟩, by have := HCV2.out; simp [lenOf]; omega⟩
          · rw [hh] at hab
            have hab' : decide ((0 : Int) < bits .and .i64 at0 aa) = true := hab
            obtain ⟨X, hX, hXl⟩ := HXN.out (by rw [HO.out]; rfl)
            rw [hX] at v1
            have HA6 : Hid (act l tx j i = .go X) := by show _ = _; rw [HACT.out]; unfold actI; rw [HO.out, HATE.out, HAAE.out, hh, hX]; rfl
            clear hh
            obtain ⟨e1, e2, e3⟩ := HMID.out X j hXl hj'
            clear hX
            generalize hxi : X * q1 + j = xi at e2 e3
            have HXI := hid hxi
            clear hxi
            go_upto_region 20 with fail
            go_quiet (first | (go_at_call 26; with_reducible refine Calls.quiet_of_same (HAT.out _ (by exact ⟨rfl, rfl, rfl, rfl⟩))))
            obtain ⟨V2, hV2⟩ : ∃ V2, V2 = V.drewN nq := ⟨_, rfl⟩
            rw [← hV2]
            have hE2 : Eqw V V2 := by rw [hV2]; exact Eqw.drewN V nq
            have HRV2 := hid (HRV.out.kept (hE2.below _))
            have HCV2 : Hid (cW V2 gm M < cW wr gm M) := by show _ < _; rw [cW_same (hE2.blk gm)]; exact HCV.out
            have v1' := (cell_eq (hE2.blk y) 1).trans v1
            have hvs2 : B0 ≤ V2.heap.size := HRV2.out.lo.2
            clear hV2 hE2 v0 v1 v2 v3 v4 HAT hab hab'
            have HRO : Hid ((V2.alloc (.cells #[.int .i64 (xi : Int)] 3)).ownsRow B0 3 1 (.slice (some ⟨zb, 0, none⟩) L' cz) L' (I64 (stq q1 st))) := by have := HRV2.out.row; rw [← HL2.out] at this; exact this.alloc _
            have HSR : Hid ((V2.alloc (.cells #[.int .i64 (xi : Int)] 3)).ownsRow 0 3 1 (.slice (some ⟨V2.heap.size, 0, none⟩) 1 1) 1 [.int .i64 (xi : Int)]) := World.ownsRow_lit (base := 0) (e := 3) (size := 1) V2 #[.int .i64 (xi : Int)] 1 (Nat.zero_le _) (by unfold maxLen; omega) rfl
            go_wp2_with (at_builtin; refine wpList_append_row rfl (.tmp 103) (.tmp 110) 28 rfl B0 3 i3 (.int .i64 0) 1 8 Try.underlying28 hi3 hz30 hz31 hz32 rfl (by decide) (.slice (some ⟨zb, 0, none⟩) L' cz) L' (I64 (stq q1 st)) rfl HRO.out (.slice (some ⟨V2.heap.size, 0, none⟩) 1 1) 1 0 [.int .i64 (xi : Int)] rfl HSR.out (fun h => by omega) (by simp [Value.oneCell']) (by unfold maxLen; omega) (by omega) (by (try simp) <;> omega) ?_; intro v7 w7 ho7 hf7 _; obtain ⟨y1, y3, rfl, _⟩ := row_shape ho7.out)
            obtain ⟨hp1, hp2⟩ := HRV2.out.push (ts := [(X, j)]) (w7 := w7) (y1 := y1) (y3 := y3) (Joins.below_alloc1 V2 _) (by rw [← HL2.out]; exact hf7.out) (by rw [← HL2.out]; have := ho7.out; rw [← HXI.out] at this; exact this) (fun t ht => by simp at ht; subst ht; exact ⟨hXl, hj'⟩)
            rw [← HME.out] at hp2
            refine ⟨⟨L' + 1, y1, y3, [(X, j)] ++ st, mark m i j, rfl, by show _ = _; simp [HL2.out], hp1, HRK.out.new (P := [(X, j)]) (by unfold isFit; simp only [HA6.out]) (fun u => by unfold succs; simp only [HA6.out]), by have := HCV2.out; rw [hp2]; omega⟩, by have := HCV2.out; rw [hp2]; simp [lenOf]; omega⟩
        · rw [ho] at v0
          have HFIT : Hid (isFit (act l tx) (i, j) = true) := by show isFit (act l tx) (i, j) = true; unfold isFit; simp only [HACT.out, actI, ho]; rfl
          clear ho
          go_wp2
          all_goals go_ret
          all_goals exact ⟨true, rfl, ⟨fun _ => HRK.out.yes HFIT.out, fun _ => rfl⟩, by rw [← HB0.out]; exact HRV.out.bl⟩
        · rw [ho] at v0
          have HA6 : Hid (act l tx j i = .stop) := by show _ = _; rw [HACT.out]; unfold actI; rw [ho]; rfl
          clear ho
          go_wp2
          refine ⟨⟨L', some ⟨zb, 0, none⟩, cz, st, mark m i j, rfl, HL2.out, HRV.out, HRK.out.new (P := []) (by unfold isFit; simp only [HA6.out]) (fun u => by unfold succs; simp only [HA6.out]), by have := HCV.out; omega⟩, by have := HCV.out; simp [lenOf]; omega⟩
        · rw [ho] at v0
          have HO := hid ho
          clear ho
          obtain ⟨X, hX, hXl⟩ := HXN.out (by rw [HO.out]; rfl)
          rw [hX] at v1
          have HA6 : Hid (act l tx j i = .go X) := by show _ = _; rw [HACT.out]; unfold actI; rw [HO.out, hX]; rfl
          obtain ⟨e1, e2, e3⟩ := HMID.out X j hXl hj'
          clear hX
          generalize hxi : X * q1 + j = xi at e2 e3
          have HXI := hid hxi
          clear hxi
          have HRO : Hid ((V.alloc (.cells #[.int .i64 (xi : Int)] 3)).ownsRow B0 3 1 (.slice (some ⟨zb, 0, none⟩) L' cz) L' (I64 (stq q1 st))) := by have := HRV.out.row; rw [← HL2.out] at this; exact this.alloc _
          have HSR : Hid ((V.alloc (.cells #[.int .i64 (xi : Int)] 3)).ownsRow 0 3 1 (.slice (some ⟨V.heap.size, 0, none⟩) 1 1) 1 [.int .i64 (xi : Int)]) := World.ownsRow_lit (base := 0) (e := 3) (size := 1) V #[.int .i64 (xi : Int)] 1 (Nat.zero_le _) (by unfold maxLen; omega) rfl
          go_wp2_with (at_builtin; refine wpList_append_row rfl (.tmp 85) (.tmp 92) 28 rfl B0 3 i3 (.int .i64 0) 1 8 Try.underlying28 hi3 hz30 hz31 hz32 rfl (by decide) (.slice (some ⟨zb, 0, none⟩) L' cz) L' (I64 (stq q1 st)) rfl HRO.out (.slice (some ⟨V.heap.size, 0, none⟩) 1 1) 1 0 [.int .i64 (xi : Int)] rfl HSR.out (fun h => by omega) (by simp [Value.oneCell']) (by unfold maxLen; omega) (by omega) (by (try simp) <;> omega) ?_; intro v7 w7 ho7 hf7 _; obtain ⟨y1, y3, rfl, _⟩ := row_shape ho7.out)
          obtain ⟨hp1, hp2⟩ := HRV.out.push (ts := [(X, j)]) (w7 := w7) (y1 := y1) (y3 := y3) (Joins.below_alloc1 V _) (by rw [← HL2.out]; exact hf7.out) (by rw [← HL2.out]; have := ho7.out; rw [← HXI.out] at this; exact this) (fun t ht => by simp at ht; subst ht; exact ⟨hXl, hj'⟩)
          rw [← HME.out] at hp2
          refine ⟨⟨L' + 1, y1, y3, [(X, j)] ++ st, mark m i j, rfl, by show _ = _; simp [HL2.out], hp1, HRK.out.new (P := [(X, j)]) (by unfold isFit; simp only [HA6.out]) (fun u => by unfold succs; simp only [HA6.out]), by have := HCV.out; rw [hp2]; omega⟩, by have := HCV.out; rw [hp2]; simp [lenOf]; omega⟩
      · rw [hmet] at mt
        have HMT := hid hmet
        clear hmet
        go_wp2
        refine ⟨⟨L', some ⟨zb, 0, none⟩, cz, st, m, rfl, HL2.out, HPOP.out, HRK.out.old HMT.out, by omega⟩, by simp [lenOf]⟩
end Go.Proofs.Ytaoagcnbdfklnaa
