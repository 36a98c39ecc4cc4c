/- PROVED: the law SimplifyMeans of layer 7 answers true for every tree, text and place, and they read afterwards as they read before: where both are told, the parses of a tree and of its simple form are the same: the same ends in the same order, the same captures as far as they go, and none beyond.
   CONDITIONS: none but the form's own (each slice and string at most 2^47 - 4096 bytes). -/
import Derived.Test.YtdidopgenhpakaaZS10
import Derived.Test.YtdidopgenhpakaaZS09
import Derived.Lib.MinMax
import Derived.Test.YtdidopgenhpakaaHd
import Derived.Test.YtdidopgenhpakaaZS11
import Derived.Test.YtdidopgenhpakaaAr
import Derived.Test.YtdidopgenhpakaaZS01
import Derived.Test.YtdidopgenhpakaaHa
namespace Go.Proofs.Ytdidopgenhpakaa
open Go.RowKit Go.Deep Go.ChangeShapes Go.WideShapes
set_option linter.unusedVariables false
set_option linter.unusedSimpArgs false
theorem smallL_of : ∀ {ts : List Tn}, (∀ t ∈ ts, t.small = true) → smallL ts = true
  | [], _ => rfl
  | t :: ts, h => by simp only [smallL, Bool.and_eq_true]; exact ⟨h t (by simp), smallL_of fun u hu => h u (by simp [hu])⟩
theorem weightsAll_mem {H : Type} {P : Program} {e : TypeId} : ∀ {l : List (DataW H)} {d : DataW H}, d ∈ l → ∀ n ∈ d.weights P e, n ∈ DataW.weightsAll P e l
  | x :: l, d, hd, n, hn => by
    simp only [DataW.weightsAll, List.mem_append]
    rcases List.mem_cons.1 hd with rfl | h
    · exact .inl hn
    · exact .inr (weightsAll_mem h n hn)
section
variable {H : Type} {enc : TypeId × Value → H} {P : Program} {w : World} {base : Nat} {spare : Nat → Bool} {held : Bool} {tn ts tr te ti tb tg : TypeId} {f : Nat → Field} {g0 g1 : Field}
theorem ranges_small (S : NodeTy P tn ts tr te ti tb tg f g0 g1) (hby : P.bytesOf te = 16) {fuel : Nat} {cs : List Value} {x : DataW H × List MemPlace} (h : DataW.trod enc P w base spare held fuel tr cs = some x) (hw : ∀ n ∈ x.1.weights P tr, n ≤ reachBytes) {ad : Option Addr} {n c : Nat} (hc : cs = [.slice ad n c]) : n * 16 ≤ 140737488351232 := by
  rcases DataW.trod_slice S.hr h with ⟨e, _⟩ | ⟨a, len, cap, elems, rest, n', _, e, hx, _, _, _, hel, _⟩
  · rw [hc] at e
    simp at e
    omega
  · rw [hc] at e
    simp at e
    have := hw ((elems.length + rest.length) * P.bytesOf te) (by rw [hx]; simp [DataW.weights, S.hr])
    rw [hby] at this
    have hr : reachBytes = 140737488351232 := by decide
    omega
theorem open_nodeS (S : NodeTy P tn ts tr te ti tb tg f g0 g1) (hby : P.bytesOf te = 16) : ∀ (fuel : Nat) (cs : List Value) (x : DataW H × List MemPlace), DataW.trod enc P w base spare held fuel tn cs = some x → (∀ n ∈ x.1.weights P tn, n ≤ reachBytes) → ∃ N t, cs = Nv.cs N ∧ TI w w.heap.size N t ∧ t.small = true := by
  intro fuel
  induction fuel using Nat.strongRecOn with
  | _ fuel ih =>
  intro cs x h hwt
  obtain ⟨xs, n, hf, rfl, hl, hxl, hfs⟩ := DataW.trod_struct S.hn h
  rw [S.cn] at hl
  simp only [List.size_toArray, List.length_cons, List.length_nil] at hxl
  obtain ⟨t0, t1, t2, t3, t4, t5, t6, t7, t8⟩ := S.ty
  match xs, hxl, cs, hl with
  | [y0, y1, y2, y3, y4, y5, y6, y7, y8], _, [v0, v1, v2, v3, v4, v5, v6, v7, v8], _ =>
  have g0 := hfs 0 (f 0) rfl
  have g1 := hfs 1 (f 1) rfl
  have g2 := hfs 2 (f 2) rfl
  have g3 := hfs 3 (f 3) rfl
  have g4 := hfs 4 (f 4) rfl
  have g5 := hfs 5 (f 5) rfl
  have g6 := hfs 6 (f 6) rfl
  have g7 := hfs 7 (f 7) rfl
  have g8 := hfs 8 (f 8) rfl
  simp [t0, S.of, S.ci] at g0
  simp [t1, S.of, S.cr] at g1
  simp [t2, S.of, S.ci] at g2
  simp [t3, S.of, S.cs] at g3
  simp [t4, S.of, S.ci] at g4
  simp [t5, S.of, S.ci] at g5
  simp [t6, S.of, S.cb] at g6
  simp [t7, S.of, S.ci] at g7
  simp [t8, S.of, S.cg] at g8
  have hw1 : ∀ n ∈ y1.1.weights P tr, n ≤ reachBytes := fun n hn => hwt n (by
    simp only [DataW.weights, S.hn]
    exact DataW.weights_mem_each (j := 1) (by simp [t1]) (by simp) n hn)
  have hw3 : ∀ n ∈ y3.1.weights P ts, n ≤ reachBytes := fun n hn => hwt n (by
    simp only [DataW.weights, S.hn]
    exact DataW.weights_mem_each (j := 3) (by simp [t3]) (by simp) n hn)
  obtain ⟨k, e0, _, w0⟩ := DataW.trod_int S.hi g0
  obtain ⟨a2, e2, _, w2⟩ := DataW.trod_int S.hi g2
  obtain ⟨a4, e4, _, w4⟩ := DataW.trod_int S.hi g4
  obtain ⟨a5, e5, _, w5⟩ := DataW.trod_int S.hi g5
  obtain ⟨a7, e7, _, w7⟩ := DataW.trod_int S.hi g7
  obtain ⟨a6, e6, _⟩ := DataW.trod_bool S.hb g6
  obtain ⟨a8, e8, _, w8⟩ := DataW.trod_string S.hg g8
  obtain ⟨r1, r2, r3, R, e1, hr, hrc, hrm, hR, hRk⟩ := open_ranges S g1
  have hsr : R.length * 16 ≤ 140737488351232 := by rw [← hr]; exact ranges_small S hby g1 hw1 e1
  simp only [List.cons.injEq, and_true] at e0 e1 e2 e4 e5 e6 e7 e8
  subst e0 e1 e2 e4 e5 e6 e7 e8
  rcases DataW.trod_slice S.hs g3 with ⟨e3, _⟩ | ⟨a, len, cap, elems, rest, n', hn', e3, hy3, hb, hlc, hcm, hel, hx, _, _⟩
  · simp only [List.cons.injEq, and_true] at e3
    subst e3
    exact ⟨⟨k, r1, r2, r3, a2, none, 0, 0, a4, a5, a6, a7, a8⟩, _, rfl, .mk (ts := []) (ND := fun _ => default) ⟨i64ok w0, i64ok w2, i64ok w4, i64ok w5, i64ok w7, w8, ⟨hrc, hrm⟩, ⟨Nat.le_refl _, by simp [maxLen]⟩⟩ hr hR hRk rfl (fun hp => absurd hp (by simp)) (fun i hi => absurd hi (by simp)), by simp only [Tn.small, smallL, Bool.and_true, decide_eq_true_eq]; exact hsr⟩
  · simp only [List.cons.injEq, and_true] at e3
    subst e3
    rw [S.cn] at hx
    have each : ∀ i, i < len → ∃ q : Nv × Tn, (∀ j, j < 9 → w.cell? (a.add (i * 9 + j)) = (Nv.cs q.1)[j]?) ∧ TI w w.heap.size q.1 q.2 ∧ q.2.small = true := fun i hi => by
      have h1 := hx i hi
      rw [List.getElem?_eq_getElem (by omega)] at h1
      obtain ⟨cs', h2, h3⟩ := Option.bind_eq_some_iff.1 h1
      obtain ⟨N, t, rfl, ht, hts⟩ := ih n' (by omega) cs' _ h3 (fun n hn => hw3 n (by rw [hy3]; simp only [DataW.weights, S.hs]; exact List.mem_cons_of_mem _ (List.mem_append_left _ (weightsAll_mem (List.mem_map.2 ⟨_, List.getElem_mem _, rfl⟩) n hn))))
      obtain ⟨_, _, hc⟩ := World.cells?_some h2
      exact ⟨(N, t), fun j hj => by have := hc j hj; rwa [add_add] at this, ht, hts⟩
    obtain ⟨q, hq⟩ := choose_lt each
    refine ⟨⟨k, r1, r2, r3, a2, some a, len, cap, a4, a5, a6, a7, a8⟩, _, rfl, .mk (ts := (List.range len).map fun i => (q i).2) (ND := fun i => (q i).1) ⟨i64ok w0, i64ok w2, i64ok w4, i64ok w5, i64ok w7, w8, ⟨hrc, hrm⟩, ⟨hlc, hcm⟩⟩ hr hR hRk (by simp) (fun hp => ?_) (fun i hi => ?_), ?_⟩
    · simp only [List.length_map, List.length_range] at hp ⊢
      have hc0 := (hq 0 hp).1 0 (by omega)
      simp only [Nv.cs, List.getElem?_cons_zero] at hc0
      have hsp : a.spot = none := by simpa [Addr.add] using World.cell?_spot hc0
      obtain ⟨b, o, sp⟩ := a
      simp only at hsp
      subst hsp
      refine ⟨b, o, rfl, World.block_lt_of_cell? _ _ hc0, fun i hi => ?_⟩
      have h1 := (hq i hi).1
      simp only [add_plain, ← Nat.add_assoc] at h1
      exact ⟨by simpa using h1 0 (by omega), by simpa using h1 1 (by omega), by simpa using h1 2 (by omega), by simpa using h1 3 (by omega), by simpa using h1 4 (by omega), by simpa using h1 5 (by omega), by simpa using h1 6 (by omega), by simpa using h1 7 (by omega), by simpa using h1 8 (by omega)⟩
    · simp only [List.length_map, List.length_range] at hi
      simpa using (hq i hi).2.1
    · simp only [Tn.small, Bool.and_eq_true, decide_eq_true_eq]
      refine ⟨hsr, smallL_of fun t ht => ?_⟩
      obtain ⟨i, hi, rfl⟩ := List.mem_map.1 ht
      exact (hq i (List.mem_range.1 hi)).2.2
end
set_option maxRecDepth 100000
section
variable {H : Type} {enc : TypeId × Value → H} {W : World} {base : Nat} {v : Value} {d : DataW H} {p : List MemPlace}
/-- a tree that came in, with its sizes -/
theorem node_argS (hok : Value.okWide Try.prog W .any base 25 v) (h0 : DataW.Trod enc Try.prog W 0 (fun _ => true) true 25 v d p) (hsz : ∀ n ∈ d.weights Try.prog 25, n ≤ reachBytes) : ∃ N t, v = Nv.v N ∧ TI W W.heap.size N t ∧ t.small = true := by
  obtain ⟨cs, rfl, hs⟩ := okWide_struct Try.underlying25 hok
  obtain ⟨fuel, hf⟩ := h0
  obtain ⟨N, t, h1, h2, h3⟩ := open_nodeS nodeTy (by kernel_rfl) fuel _ _ hf hsz
  have h1' : cs.toList = Nv.cs N := h1
  refine ⟨N, t, ?_, h2, h3⟩
  have : cs = (Nv.cs N).toArray := by rw [← h1']
  rw [this]
end
end Go.Proofs.Ytdidopgenhpakaa
/- HELPERS: two lists of parses that hold the same, as far as they go. -/
namespace Go.Proofs.Ytdidopgenhpakaa
open Go.RowKit
set_option linter.unusedVariables false
set_option linter.unusedSimpArgs false
set_option maxRecDepth 100000 in
set_option maxHeartbeats 8000000 in
theorem same25 {N1 N2 : Nat} (l m : List (Int × List Int)) (K K' : Nat) (v1 v2 : Value) (w : World) (h1 : Parsed N1 w v1 l) (h2 : Parsed N2 w v2 m) (hl : l.length ≤ 65) (hK : 2 ≤ K ∧ K ≤ K' ∧ K' ≤ 1002) (hlm : m.length = l.length)
    (hall : ∀ i (h : i < l.length) (h' : i < m.length), m[i].1 = l[i].1 ∧ l[i].2.length = K' ∧ m[i].2.length = K ∧ (∀ k, k < K → m[i].2.getD k 0 = l[i].2.getD k 0) ∧ ∀ k, K ≤ k → k < K' → l[i].2.getD k 0 = -1) :
    Calls Try.prog 25 #[v1, v2] w fun e w' => e = .returned (.bool true) ∧ Below w.heap.size w w' := by
  obtain ⟨la, lc, rfl⟩ := h1.form
  obtain ⟨ma, mc, rfl⟩ := h2.form
  obtain ⟨ln, hln0⟩ : ∃ ln, ln = l.length := ⟨_, rfl⟩
  have HLL : Hid (l.length = ln) := hln0.symm
  have HLM : Hid (m.length = ln) := hlm.trans hln0.symm
  rw [hlm] at h2 ⊢
  rw [← hln0] at h1 h2 hl ⊢
  have e1 : ((ln : Int) != (ln : Int)) = false := by simp
  have HALL := hid hall
  have HPl0 := hid h1
  have HPm0 := hid h2
  have hKle : K ≤ K' := hK.2.1
  have hK2 : 2 ≤ K := hK.1
  have hKb : K' ≤ 1002 := hK.2.2
  have hmx : max (K' : Int) (K : Int) = (K' : Int) := by omega
  clear h1 h2 hlm hall hln0 hK
  go_enter Try.func25, Try.ntmps25
  go_wp2_with fail
  go_loopw [5] (fun x wq => ∃ i : Nat, x = .int .i64 (i : Int) ∧ i ≤ ln ∧ Hid (Below w.heap.size w wq)) (fun x _ => ln - (intOf x).toNat)
  case atStart => exact ⟨0, rfl, by omega, hid (Below.refl _ _)⟩
  case round =>
    obtain ⟨i, rfl, hi, HB⟩ := hrel
    by_cases hlt : i < ln
    · have b1 : decide ((i : Int) < (ln : Int)) = true := by simp; omega
      have b2 : (i : Int) < (ln : Int) := by omega
      have ad1 : IntKind.i64.wrap ((i : Int) + 1) = (i : Int) + 1 := by simp [IntKind.wrap, IntKind.bits, IntKind.signed]; omega
      have hil : i < l.length := by rw [HLL.out]; exact hlt
      have him : i < m.length := by rw [HLM.out]; exact hlt
      have HPl := hid (HPl0.out.kept HB.out)
      have HPm := hid (HPm0.out.kept HB.out)
      obtain ⟨r1, r2, r3, r4, r5⟩ := HALL.out i hil him
      obtain ⟨bl, cl, hla⟩ : ∃ b cap, Value.slice la ln lc = .slice (some ⟨b, 0, none⟩) ln cap := by
        rcases HPl.out.ends with ⟨_, h0⟩ | ⟨b, cap, e, _⟩
        · rw [h0] at hil; simp at hil
        · rw [HLL.out] at e; exact ⟨b, cap, e⟩
      obtain ⟨bm, cm, hma⟩ : ∃ b cap, Value.slice ma ln mc = .slice (some ⟨b, 0, none⟩) ln cap := by
        rcases HPm.out.ends with ⟨_, h0⟩ | ⟨b, cap, e, _⟩
        · rw [h0] at him; simp at him
        · rw [HLM.out] at e; exact ⟨b, cap, e⟩
      simp only [Value.slice.injEq] at hla hma
      obtain ⟨rfl, _, rfl⟩ := hla
      obtain ⟨rfl, _, rfl⟩ := hma
      obtain ⟨cb, cc, v1, v2⟩ := HPl.out.caps i hil (by omega)
      obtain ⟨db, dc, u1, u2⟩ := HPm.out.caps i him (by omega)
      have v0 : wr.cell? ⟨bl, i * 2, none⟩ = some (.int .i64 l[i].1) := by
        rcases HPl.out.ends with ⟨h0, _⟩ | ⟨b', cap', e, _, _, hcc⟩
        · cases h0
        · simp only [Value.slice.injEq, Option.some.injEq, Addr.mk.injEq] at e
          obtain ⟨⟨rfl, _⟩, _⟩ := e
          exact hcc i hil
      have u0 : wr.cell? ⟨bm, i * 2, none⟩ = some (.int .i64 m[i].1) := by
        rcases HPm.out.ends with ⟨h0, _⟩ | ⟨b', cap', e, _, _, hcc⟩
        · cases h0
        · simp only [Value.slice.injEq, Option.some.injEq, Addr.mk.injEq] at e
          obtain ⟨⟨rfl, _⟩, _⟩ := e
          exact hcc i him
      rw [r1] at u0
      rw [r2] at v1 v2
      rw [r3] at u1 u2
      have hvb : cb < wr.heap.size := World.block_lt_of_cell? _ _ (v2 0 (by omega))
      have hdb : db < wr.heap.size := World.block_lt_of_cell? _ _ (u2 0 (by omega))
      have hbl : bl < wr.heap.size := World.block_lt_of_cell? _ _ v0
      have hbm : bm < wr.heap.size := World.block_lt_of_cell? _ _ u0
      obtain ⟨E, hE⟩ : ∃ E, E = l[i].1 := ⟨_, rfl⟩
      obtain ⟨cp, hcp⟩ : ∃ cp, cp = l[i].2 := ⟨_, rfl⟩
      obtain ⟨dp, hdp⟩ : ∃ dp, dp = m[i].2 := ⟨_, rfl⟩
      rw [← hE] at v0 u0
      rw [← hcp] at v2 r4 r5
      rw [← hdp] at u2 r4
      have HV2 := hid v2
      have HU2 := hid u2
      have HR4 := hid r4
      have HR5 := hid r5
      have HVB := hid hvb
      have HDB := hid hdb
      have HBL := hid hbl
      have HBM := hid hbm
      have HV1 := hid v1
      have HU1 := hid u1
      have f3 : (E != E) = false := by simp
      obtain ⟨WR, hWR⟩ : ∃ WR, WR = wr := ⟨_, rfl⟩
      subst hWR
      clear v2 u2 r1 r2 r3 r4 r5 hvb hdb hE hcp hdp hil him hbl hbm
      go_wp2_with fail
      go_quiet (fail)
      go_wp2_with fail
      go_quiet (fail)
      go_wp2_with fail
      go_loopw [7] (fun x wq => ∃ kk : Nat, x = .int .i64 (kk : Int) ∧ kk ≤ K' ∧ Hid (Below WR.heap.size WR wq)) (fun x _ => K' - (intOf x).toNat)
      case atStart => exact ⟨0, rfl, by omega, by exact below_drewN (below_drewN (Below.refl _ _) _) _⟩
      case round =>
        obtain ⟨kk, rfl, hkk, BB⟩ := hrel
        by_cases hlk : kk < K'
        · have g1 : decide ((kk : Int) < (K' : Int)) = true := by simp; omega
          have g2 : (kk : Int) < (K' : Int) := by omega
          have ad4 : IntKind.i64.wrap ((kk : Int) + 1) = (kk : Int) + 1 := by simp [IntKind.wrap, IntKind.bits, IntKind.signed]; omega
          have x1 := (BB.out.cell (p := ⟨cb, kk, none⟩) HVB.out).trans (HV2.out kk hlk)
          have xl := (BB.out.cell (p := ⟨bl, i * 2 + 1, none⟩) HBL.out).trans HV1.out
          have xm := (BB.out.cell (p := ⟨bm, i * 2 + 1, none⟩) HBM.out).trans HU1.out
          by_cases hk : kk < K
          · have g3 : decide ((kk : Int) < (K : Int)) = true := by simp; omega
            have g4 : (kk : Int) < (K : Int) := by omega
            have x2 := (BB.out.cell (p := ⟨db, kk, none⟩) HDB.out).trans (HU2.out kk hk)
            rw [HR4.out kk hk] at x2
            obtain ⟨Y, hY⟩ : ∃ Y, Y = cp.getD kk 0 := ⟨_, rfl⟩
            rw [← hY] at x1 x2
            have g6 : (Y != Y) = false := by simp
            clear hY v0 v1 u0 u1
            go_wp2_with fail
            exact ⟨⟨kk + 1, by push_cast; rfl, by omega, BB⟩, by simp [intOf]; omega⟩
          · have g3 : decide ((kk : Int) < (K : Int)) = false := by simp; omega
            rw [HR5.out kk (by omega) hlk] at x1
            have g6 : ((-1 : Int) != -1) = false := by decide
            clear v0 v1 u0 u1
            go_wp2_with fail
            exact ⟨⟨kk + 1, by push_cast; rfl, by omega, BB⟩, by simp [intOf]; omega⟩
        · have g1 : decide ((kk : Int) < (K' : Int)) = false := by simp; omega
          go_wp2
          exact ⟨⟨i + 1, by push_cast; rfl, by omega, by exact HB.out.trans (Joins.below_le BB.out (by have := HB.out.size; omega))⟩, by simp [intOf]; omega⟩
    · have b1 : decide ((i : Int) < (ln : Int)) = false := by simp; omega
      go_wp2
      go_ret
      exact ⟨rfl, HB.out⟩
end Go.Proofs.Ytdidopgenhpakaa
/- HELPERS: the law SimplifyMeans. -/
namespace Go.Proofs.Ytdidopgenhpakaa
open Go.RowKit
set_option linter.unusedVariables false
set_option linter.unusedSimpArgs false
theorem errP_parts {t : Tn} {tn : Nat} {at_ : Int} (h : errP t tn at_ = 0) : tn ≤ 64 ∧ t.sound = true ∧ t.sz ≤ 2000 ∧ 0 ≤ at_ ∧ at_ ≤ (tn : Int) := by
  unfold errP at h
  split at h
  · cases h
  · split at h
    · cases h
    · split at h
      · cases h
      · split at h
        · cases h
        · rename_i g1 g2 g3 g4
          exact ⟨by omega, by simpa using g2, by omega, by omega, by omega⟩
set_option maxRecDepth 100000 in
set_option maxHeartbeats 8000000 in
theorem means5 {w : World} {N : Nv} {t : Tn} {tx : List Int} {ad : Option Addr} {tn tcap : Nat} {at_ : Int} (h : TI w w.heap.size N t) (hsm : t.small = true) (htx : Look.TextAt w.heap.size w ad tn tx) (htc : tn ≤ tcap) :
    Calls Try.prog 5 #[N.v, .slice ad tn tcap, .int .i64 at_] w fun e w' => e = .returned (.bool true) ∧ Below w.heap.size w w' := by
  have hBW : Below w.heap.size w (w.alloc (.cells #[.int .i64 N.k, .slice N.r1 N.r2 N.r3, .int .i64 N.a2, .slice N.s1 N.s2 N.s3, .int .i64 N.a4, .int .i64 N.a5, .bool N.a6, .int .i64 N.a7, .string N.a8] 25)) := Joins.below_alloc1 w _
  have hBN : BN (w.alloc (.cells #[.int .i64 N.k, .slice N.r1 N.r2 N.r3, .int .i64 N.a2, .slice N.s1 N.s2 N.s3, .int .i64 N.a4, .int .i64 N.a5, .bool N.a6, .int .i64 N.a7, .string N.a8] 25)) w.heap.size N := heap_alloc_new w _
  obtain ⟨W, hW⟩ : ∃ W, W = w.alloc (.cells #[.int .i64 N.k, .slice N.r1 N.r2 N.r3, .int .i64 N.a2, .slice N.s1 N.s2 N.s3, .int .i64 N.a4, .int .i64 N.a5, .bool N.a6, .int .i64 N.a7, .string N.a8] 25) := ⟨_, rfl⟩
  have hSW : W.heap.size = w.heap.size + 1 := by rw [hW]; simp
  rw [← hW] at hBN hBW
  have htm : tn ≤ 35184372088832 := htx.2.1
  have htl : tx.length = tn := htx.1.symm
  have HTW : Hid (∀ V, Below W.heap.size W V → TI V V.heap.size N t ∧ BN V w.heap.size N ∧ Below w.heap.size w V ∧ Look.TextAt V.heap.size V ad tn tx) := fun V hV =>
    have hb : Below w.heap.size w V := hBW.trans (Joins.below_le hV (by omega))
    ⟨(h.kept fun b hb => (hV.block b (by omega)).trans (hBW.block b hb)).le (by have := hV.size; omega), (hV.block w.heap.size (by omega)).trans hBN, hb, text_below htx hb hb.size⟩
  have HC1 := deep10 (HTW.out W (Below.refl _ _)).1
  obtain ⟨z, hz⟩ : ∃ z, z = w.heap.size := ⟨_, rfl⟩
  rw [← hz] at HTW hBN
  have HNV : Hid (N = N) := rfl
  have c23 : Hid (∀ V, Below W.heap.size W V → Calls Try.prog 23 #[N.v, .slice ad tn tcap] V fun e w' => e = .returned (.bool (muchB t tn)) ∧ Below V.heap.size V w') := fun V hV => much11 N t ad tn tcap V (HTW.out V hV).1 htm
  have c24 : Hid (∀ V, Below W.heap.size W V → Calls Try.prog 24 #[N.v, .slice ad tn tcap, .int .i64 at_] V fun e w' => Answers t tx tn at_ V e w') := fun V hV => parses13g N t tx ad tn tcap at_ V (HTW.out V hV).1 (HTW.out V hV).2.2.2 htc
  obtain ⟨k, r1, r2, r3, a2, s1, s2, s3, a4, a5, a6, a7, a8⟩ := N
  obtain ⟨q0, q1, q2, q3, q4, q5, q6, q7, q8⟩ := nine' hBN
  dsimp only at hW HC1 q0 q1 q2 q3 q4 q5 q6 q7 q8
  have HZ := hid hz
  have HTL := hid htl
  clear hBN hBW hSW h htx htl HNV
  go_enter Try.func5, Try.ntmps5
  go_upto_region 1 with fail
  rw [← hz, ← hW]
  clear hW hz
  go_upto_region 2 with (first | (go_at_call 7; (with_reducible refine HC1.mono ?_); rintro e w1 ⟨rfl, hb1⟩; have HB1 := hid hb1; clear hb1 HC1))
  by_cases hdp : 4194304 < t.nodes
  · have d1 : decide (4194304 < t.nodes) = true := by simpa using hdp
    rw [d1]
    clear hdp d1
    go_wp2
    all_goals go_ret
    all_goals exact ⟨rfl, by rw [← HZ.out]; exact (HTW.out _ HB1.out).2.2.1⟩
  have d1 : decide (4194304 < t.nodes) = false := by simpa using hdp
  rw [d1]
  clear hdp d1
  have HC2 := heavy8 (HTW.out _ HB1.out).1 hsm
  clear q0 q1 q2 q3 q4 q5 q6 q7 q8
  obtain ⟨q0, q1, q2, q3, q4, q5, q6, q7, q8⟩ := nine' (HTW.out _ HB1.out).2.1
  go_upto_region 5 with (first | (go_at_call 8; (with_reducible refine HC2.mono ?_); rintro e w2 ⟨hv, rfl, hb2⟩; have hbb := HB1.out.trans (Joins.below_le hb2 HB1.out.size); have HB2 := hid hbb; clear hb2 hbb HC2))
  cases hv
  case true =>
    go_wp2
    all_goals go_ret
    all_goals exact ⟨rfl, by rw [← HZ.out]; exact (HTW.out _ HB2.out).2.2.1⟩
  have HCm := c23.out w2 HB2.out
  clear q0 q1 q2 q3 q4 q5 q6 q7 q8
  obtain ⟨q0, q1, q2, q3, q4, q5, q6, q7, q8⟩ := nine' (HTW.out _ HB2.out).2.1
  obtain ⟨mu, hmu⟩ : ∃ mu, mu = muchB t tn := ⟨_, rfl⟩
  rw [← hmu] at HCm
  clear hmu
  go_upto_region 8 with (first | (go_at_call 23; (with_reducible refine HCm.mono ?_); rintro e w2b ⟨rfl, hb2⟩; have hbb := HB2.out.trans (Joins.below_le hb2 HB2.out.size); have HB2b := hid hbb; clear hb2 hbb HCm))
  cases mu
  case true =>
    go_wp2
    all_goals go_ret
    all_goals exact ⟨rfl, by rw [← HZ.out]; exact (HTW.out _ HB2b.out).2.2.1⟩
  have HC3 := awake9 w2b
  go_upto_region 11 with (first | (go_at_call 9; (with_reducible refine HC3.mono ?_); rintro e w3 ⟨rfl, hb3⟩; have hbb := HB2b.out.trans (Joins.below_le hb3 HB2b.out.size); have HB3 := hid hbb; clear hb3 hbb HC3))
  have HC4 := simplify11 (HTW.out _ HB3.out).1
  clear q0 q1 q2 q3 q4 q5 q6 q7 q8
  obtain ⟨q0, q1, q2, q3, q4, q5, q6, q7, q8⟩ := nine' (HTW.out _ HB3.out).2.1
  obtain ⟨er, her⟩ : ∃ er, er = errS t := ⟨_, rfl⟩
  rw [← her] at HC4
  have HER := hid her
  clear her
  go_upto_region 12 with (first | (go_at_call 11; (with_reducible refine HC4.mono ?_); rintro e w4 ⟨M, rfl, AA, hM, hAA, hb4⟩; have HM := hid hM; have hbb := HB3.out.trans (Joins.below_le hb4 HB3.out.size); have HB4 := hid hbb; clear hM hAA hb4 hbb HC4))
  obtain ⟨V, hV⟩ : ∃ V, V = w4.alloc (.cells #[.int .i64 M.k, .slice M.r1 M.r2 M.r3, .int .i64 M.a2, .slice M.s1 M.s2 M.s3, .int .i64 M.a4, .int .i64 M.a5, .bool M.a6, .int .i64 M.a7, .string M.a8] 25) := ⟨_, rfl⟩
  rw [← hV]
  obtain ⟨x, hx⟩ : ∃ x, x = w4.heap.size := ⟨_, rfl⟩
  rw [← hx]
  have hbV : Below w4.heap.size w4 V := by rw [hV]; exact Joins.below_alloc1 w4 _
  have hsV : V.heap.size = x + 1 := by rw [hV, hx]; simp
  have hMV : BN V x M := by rw [hV, hx]; exact heap_alloc_new w4 _
  have hTM : TI V x M (simT t) := by rw [hx]; exact HM.out.ti.kept hbV.block
  have hbWV := HB4.out.trans (Joins.below_le hbV HB4.out.size)
  have HTM : Hid (∀ U, Below V.heap.size V U → TI U U.heap.size M (simT t) ∧ BN U x M ∧ Below W.heap.size W U) := fun U hU =>
    ⟨(hTM.kept fun b hb => hU.block b (by omega)).le (by have := hU.size; omega), (hU.block x (by omega)).trans hMV, hbWV.trans (Joins.below_le hU hbWV.size)⟩
  clear q0 q1 q2 q3 q4 q5 q6 q7 q8
  have HBWV := hid hbWV
  clear hV hx hbV hsV hMV hTM hbWV HM
  by_cases he : er = 0
  · have g1 : (er != 0) = false := by simp [he]
    have hff := form_facts (by rw [← HER.out]; exact he)
    have HFF := hid hff
    have HTT : Hid (∀ U, Below V.heap.size V U → TI U U.heap.size M t.S) := fun U hU => by have := (HTM.out U hU).1; rwa [hff.2.2.2.2.2.2.2] at this
    clear hff
    have HC5 := c24.out V HBWV.out
    obtain ⟨q0, q1, q2, q3, q4, q5, q6, q7, q8⟩ := nine' (HTW.out _ HBWV.out).2.1
    go_upto_region 15 with (first | (go_at_call 24; (with_reducible refine HC5.mono ?_); rintro e w5 ⟨pv, l, rfl, hPl, hSl, hNl, hb5⟩; obtain ⟨la, lc, rfl⟩ := hPl.form; have HPl := hid hPl; have HSl := hid hSl; have HB5 := hid hb5; clear hPl hSl hNl hb5 HC5))
    clear q0 q1 q2 q3 q4 q5 q6 q7 q8
    obtain ⟨q0, q1, q2, q3, q4, q5, q6, q7, q8⟩ := nine' (HTM.out _ HB5.out).2.1
    have HC6 := parses13g M t.S tx ad tn tcap at_ w5 (HTT.out _ HB5.out) (HTW.out _ (HTM.out _ HB5.out).2.2).2.2.2 htc
    go_upto_region 16 with (first | (go_at_call 24; (with_reducible refine HC6.mono ?_); rintro e w6 ⟨pv, m, rfl, hPm, hSm, hNm, hb6⟩; obtain ⟨ma, mc, rfl⟩ := hPm.form; have HPm := hid hPm; have HSm := hid hSm; have HB6' := hid hb6; have hbb := HB5.out.trans (Joins.below_le hb6 HB5.out.size); have HB6 := hid hbb; clear hPm hSm hNm hb6 hbb HC6))
    clear q0 q1 q2 q3 q4 q5 q6 q7 q8
    obtain ⟨f, hf⟩ : ∃ f, f = errP t tn at_ := ⟨_, rfl⟩
    obtain ⟨g, hg⟩ : ∃ g, g = errP t.S tn at_ := ⟨_, rfl⟩
    rw [← hf] at HSl ⊢
    rw [← hg] at HSm ⊢
    have HFE := hid hf
    have HGE := hid hg
    clear hf hg
    by_cases hf0 : f = 0
    · have k1 : (f != 0) = false := by simp [hf0]
      by_cases hg0 : g = 0
      · have k2 : (g != 0) = false := by simp [hg0]
        obtain ⟨p1, p2, p3, p4, p5⟩ := errP_parts (by rw [← HFE.out]; exact hf0)
        obtain ⟨j1, j2⟩ := HSl.out hf0
        obtain ⟨j3, j4⟩ := HSm.out hg0
        obtain ⟨sf, _, _⟩ := sound_parts p2
        obtain ⟨y1, y2⟩ := fine_gi t sf
        obtain ⟨y3, y4⟩ := fine_gi t.S HFF.out.1.fine
        obtain ⟨G', hG'⟩ : ∃ G : Nat, t.gi = (G : Int) := ⟨t.gi.toNat, by omega⟩
        obtain ⟨G, hG⟩ : ∃ G : Nat, t.S.gi = (G : Int) := ⟨t.S.gi.toNat, by omega⟩
        have hK' : t.notes = 2 * G' + 2 := by simp only [Tn.notes, hG']; omega
        have hK : t.S.notes = 2 * G + 2 := by simp only [Tn.notes, hG]; omega
        rw [hK'] at j1
        rw [hK] at j3
        obtain ⟨x1, x2, x3⟩ := PS.simple sf p3 HFF.out.2.1 (by have := HTL.out; omega) hG hG' j1 j3
        have HC7 := same25 l m (2 * G + 2) (2 * G' + 2) (.slice la l.length lc) (.slice ma m.length mc) w6 (HPl.out.kept HB6'.out) HPm.out j2 ⟨by omega, by omega, by omega⟩ x1 x3
        clear p1 p2 p3 p4 p5 j1 j2 j3 j4 sf y1 y2 y3 y4 hG hG' hK hK' x1 x2 x3 hf0 hg0 he
        go_wp2_with (first | (go_at_call 25; (with_reducible refine HC7.mono ?_); rintro e w7 ⟨rfl, hb7⟩; have hbb := HB6.out.trans (Joins.below_le hb7 HB6.out.size); have HB7 := hid hbb; clear hb7 hbb HC7))
        all_goals go_ret
        all_goals exact ⟨rfl, by rw [← HZ.out]; exact (HTW.out _ (HTM.out _ HB7.out).2.2).2.2.1⟩
      · have k2 : (g != 0) = true := by simp [hg0]
        clear hf0 hg0 he
        go_wp2
        all_goals go_ret
        all_goals exact ⟨rfl, by rw [← HZ.out]; exact (HTW.out _ (HTM.out _ HB6.out).2.2).2.2.1⟩
    · have k1 : (f != 0) = true := by simp [hf0]
      clear hf0 he
      go_wp2
      all_goals go_ret
      all_goals exact ⟨rfl, by rw [← HZ.out]; exact (HTW.out _ (HTM.out _ HB6.out).2.2).2.2.1⟩
  · have g1 : (er != 0) = true := by simp [he]
    clear he
    go_wp2
    all_goals go_ret
    all_goals exact ⟨rfl, by rw [← HZ.out]; exact (HTW.out _ HBWV.out).2.2.1⟩
end Go.Proofs.Ytdidopgenhpakaa
/- HELPERS: a text that comes in. -/
namespace Go.Proofs.Ytdidopgenhpakaa
open Go.ChangeShapes Go.WideShapes Go.ChangeAt Go.RowKit Go.Deep
set_option linter.unusedVariables false
set_option linter.unusedSimpArgs false
set_option maxRecDepth 100000 in
theorem text_arg {H : Type} {enc : TypeId × Value → H} {W : World} {base : Nat} {v : Value} {d : DataW H} {p : List MemPlace} (hok : Value.okWide Try.prog W .any base 43 v)
    (h0 : DataW.Trod enc Try.prog W 0 (fun _ => true) true 43 v d p) (hsz : ∀ n ∈ d.weights Try.prog 43, n ≤ reachBytes) :
    ∃ (l : List Int) (ad : Option Addr) (n cap : Nat), v = .slice ad n cap ∧ n ≤ cap ∧ Look.TextAt W.heap.size W ad n l := by
  obtain ⟨a0, len, cap, rfl⟩ := okWide_slice Try.underlying43 hok
  obtain ⟨fuel, hf⟩ := h0
  rcases open_ints Try.underlying43 Try.underlying3 cells3a hf with ⟨hcs, hx⟩ | ⟨a, len', cap', zs, hcs, _, hl, hm, hz, hx, hcell, hwz⟩
  · simp [Value.cells] at hcs
    obtain ⟨rfl, rfl, rfl⟩ := hcs
    exact ⟨[], none, 0, 0, rfl, Nat.le_refl _, rfl, by omega, .inl rfl⟩
  · simp [Value.cells] at hcs
    obtain ⟨rfl, rfl, rfl⟩ := hcs
    simp only [if_true] at hz
    obtain ⟨rfl, rfl⟩ := Prod.mk.inj hx
    have hb3 : Try.prog.bytesOf 3 = 8 := by kernel_rfl
    have hs := hsz (((lits (H := H) .i64 (zs.take len)).length + (lits (H := H) .i64 (zs.drop len)).length) * Try.prog.bytesOf 3) (by simp [DataW.weights, Try.underlying43, lits])
    rw [hb3, show reachBytes = 140737488351232 from rfl] at hs
    simp only [lits, List.length_map, List.length_take, List.length_drop] at hs
    have htl : (zs.take len).length = len := by rw [List.length_take]; omega
    refine ⟨zs.take len, some a, len, cap, rfl, by omega, htl.symm, by omega, ?_⟩
    rcases Nat.eq_zero_or_pos len with h0 | h0
    · exact .inl h0
    · right
      obtain ⟨b, off, rfl, hc⟩ := ints_at hcell (by omega)
      refine ⟨b, off, rfl, lt_of_cell (hc 0 (by omega)), fun k hk => ?_⟩
      have hk' : k < zs.length := by omega
      rw [hc k hk']
      simp [List.getD_eq_getElem?_getD, List.getElem?_take_of_lt hk, List.getElem?_eq_getElem hk']
end Go.Proofs.Ytdidopgenhpakaa
namespace Go.Proofs.Ytdidopgenhpakaa
open Go.ChangeShapes Go.WideShapes Go.ChangeAt Go.RowKit
set_option linter.unusedVariables false
set_option linter.unusedSimpArgs false
set_option maxRecDepth 100000 in
theorem meansLifted (os : Os) (started : os.Started) (H : Type) (enc : TypeId × Value → H) :
    ReturnsInHanded {} Try.checked os 5 .any (Rows.simplifyMeansSpec.pre6 enc Try.prog Try.f5 Rows.simplifyMeansRow.domain false) (Rows.simplifyMeansSpec.post enc Try.prog Try.f5 false true false false) := by
  refine returnsInHanded_of_change_sized (C := Try.checked) ownB started (by kernel_rfl) Try.func5
    (ChangeSpec.witness6 (enc := enc) (C := Try.checked) false ⟨#[], #[.agg #[.int .i64 0, .slice none 0 0, .int .i64 0, .slice none 0 0, .int .i64 0, .int .i64 0, .bool false, .int .i64 0, .string ⟨#[]⟩], .slice none 0 0, .int .i64 0], []⟩ 8 (by kernel_rfl) (by kernel_rfl) (by kernel_rfl) (by kernel_rfl)) ?_
  intro W base args ds gs before hval0 hW hcnd0 hsz0 hholds
  have hval : ∀ (j : Nat) t v, Try.f5.params[j]? = some t → args[j]? = some v → Value.okWide Try.prog W .any base t v := hval0
  have hW' := hW
  obtain ⟨p, q, hA0, hV, rfl, hfz, hnd⟩ := hW
  have hA : DataW.TrodAll enc Try.prog W 0 (fun _ => true) true Try.f5.params.toList args.toList ds p := hA0
  have hsz : ∀ n ∈ DataW.weightsEach Try.prog (Try.f5.params.toList ++ Rows.simplifyMeansSpec.plain.varTypes Try.prog) (ds ++ gs), n ≤ reachBytes := fun n hn => by simpa using List.all_eq_true.1 hsz0 n hn
  rw [Try.params5] at hA hval hsz
  obtain ⟨v0, vs0, d0, ds0, p0, q0, hargs, rfl, rfl, h0, r0⟩ := trodAll_cons hA
  obtain ⟨v1, vs1, d1, ds1, p1, q1, rfl, rfl, rfl, h1, r1⟩ := trodAll_cons r0
  obtain ⟨v2, vs2, d2, ds2, p2, q2, rfl, rfl, rfl, h2, r2⟩ := trodAll_cons r1
  obtain ⟨rfl, rfl, rfl⟩ := trodAll_nil r2
  obtain rfl : args = #[v0, v1, v2] := by cases args; simp_all
  obtain ⟨rfl, rfl⟩ := trodVars_none hV
  have hlt0 : ∀ x ∈ p0, x.block < W.heap.size := fun x hx => by have := hW'.lt x (by simp [hx]); simpa using this
  have hlt1 : ∀ x ∈ p1, x.block < W.heap.size := fun x hx => by have := hW'.lt x (by simp [hx]); simpa using this
  have hlt2 : ∀ x ∈ p2, x.block < W.heap.size := fun x hx => by have := hW'.lt x (by simp [hx]); simpa using this
  obtain ⟨N, t, rfl, hT, hS⟩ := node_argS (hval 0 25 v0 rfl rfl) h0 (fun n hn => hsz n (DataW.weights_mem_each (j := 0) (by simp) (by simp) n hn))
  obtain ⟨tx, ad, tn, tcap, rfl, htc, hX⟩ := text_arg (hval 1 43 v1 rfl rfl) h1 (fun n hn => hsz n (DataW.weights_mem_each (j := 1) (by simp) (by simp) n hn))
  obtain ⟨at_, rfl⟩ : ∃ at_, v2 = .int .i64 at_ := okWide_int Try.underlying3 (hval 2 3 v2 rfl rfl)
  clear hA0 hval0
  refine (means5 hT hS hX htc).mono fun e W' ⟨he, hb⟩ => ?_
  subst he
  exact ⟨_, rfl, _, _, _, [], p0 ++ (p1 ++ (p2 ++ [])), [], hW', trodAll_cons_mk (shut_bool Try.underlying4 _) trodAll_mk0, trodAll_cons_mk (Below.trod laidOut (by kernel_rfl) (of_decide_eq_true (by kernel_rfl)) h0 hb hlt0) (trodAll_cons_mk (Below.trod laidOut (by kernel_rfl) (of_decide_eq_true (by kernel_rfl)) h1 hb hlt1) (trodAll_cons_mk (Below.trod laidOut (by kernel_rfl) (of_decide_eq_true (by kernel_rfl)) h2 hb hlt2) trodAll_mk0)), rfl, hb.frame _, fun h => by cases h⟩
theorem simplifyMeans_holds : Rows.SimplifyMeansSaid :=
  OpenClaim.holds_of_wide 5 Try.f5 rfl rfl rfl rfl rfl rfl rfl ⟨rfl, rfl, rfl, rfl, rfl⟩ rfl rfl rfl rfl rfl (by kernel_rfl) Try.func5 (by kernel_rfl)
    (of_decide_eq_true (by kernel_rfl)) (by unfold Func.isWrapper; first | (rw [if_pos (by decide +kernel)]; kernel_rfl) | (rw [if_neg (by decide +kernel)]; exact ⟨rfl, rfl⟩))
    (fun os started H enc _ => meansLifted os started H enc)
end Go.Proofs.Ytdidopgenhpakaa
