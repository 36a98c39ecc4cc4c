/- PROVED: the law ProgBeside of layer 9 answers true for every row of programs and every text, and they read afterwards as they read before: where Join puts programs side by side, the whole may be, and from each place of a short text it finds what the first of them finds that finds anything, with its captures, those that it has not being unset; where none finds anything, nothing.
   CONDITIONS: none but the form's own (each slice and string at most 2^47 - 4096 bytes). -/
import Derived.Test.YtnecakampgdhcaaPr
import Derived.Test.YtnecakampgdhcaaJb
import Derived.Test.YtnecakampgdhcaaLa
import Derived.Test.YtnecakampgdhcaaCc
import Derived.Test.YtnecakampgdhcaaCd
import Derived.Test.YtnecakampgdhcaaAh
import Derived.Test.YtnecakampgdhcaaCe
import Derived.Test.YtnecakampgdhcaaWk
import Derived.Test.YtnecakampgdhcaaWb
import Derived.BigQuiet
import Derived.Deep.QuietTactic
import Derived.Test.YtnecakampgdhcaaRows
/- HELPERS: a row of programs that comes in. -/
namespace Go.Proofs.Ytnecakampgdhcaa
open Go.RowKit Go.Deep Go.ChangeShapes Go.WideShapes
set_option linter.unusedVariables false
set_option linter.unusedSimpArgs false
theorem bytes24 : Try.prog.bytesOf 24 = 40 := by kernel_rfl
set_option maxRecDepth 100000
section
variable {H : Type} {enc : TypeId × Value → H} {w : World} {base : Nat} {spare : Nat → Bool} {held : Bool}
/-- one program of a row -/
theorem open_prog {fuel : Nat} {cs : List Value} {x : DataW H × List MemPlace} (h : DataW.trod enc Try.prog w base spare held fuel 24 cs = some x) (hwt : ∀ n ∈ x.1.weights Try.prog 24, n ≤ reachBytes) : ∃ (ad : Option Addr) (n c : Nat) (P : Pg), cs = [.slice ad n c, .int .i64 P.s, .int .i64 P.k] ∧ PI w w.heap.size ad n P.l ∧ n * 56 ≤ 140737488351232 := by
  obtain ⟨xs, n, hfu, hd, hl, hxl, hfs⟩ := DataW.trod_struct Try.underlying24 h
  rw [cells24] at hl
  simp only [List.size_toArray, List.length_cons, List.length_nil] at hxl
  match xs, hxl, cs, hl with
  | [y0, y1, y2], _, [v0, v1, v2], _ =>
  have g0 := hfs 0 _ rfl
  have g1 := hfs 1 _ rfl
  have g2 := hfs 2 _ rfl
  simp [cells3a] at g1 g2
  simp [cells22] at g0
  have hd1 : x.1 = .agg ([y0, y1, y2].map (·.1)) := congrArg Prod.fst hd
  have hw0 : ∀ n ∈ y0.1.weights Try.prog 22, n ≤ reachBytes := fun n hn => hwt n (by
    rw [hd1]
    simp only [DataW.weights, Try.underlying24]
    exact DataW.weights_mem_each (j := 0) (by simp) (by simp) n hn)
  obtain ⟨a1, e1, _, _⟩ := DataW.trod_int Try.underlying3 g1
  obtain ⟨a2, e2, _, _⟩ := DataW.trod_int Try.underlying3 g2
  obtain ⟨ad, n', c, l, e0, h1, h2, h3, h4⟩ := open_insts g0 hw0
  simp only [List.cons.injEq, and_true] at e0 e1 e2
  subst e0 e1 e2
  exact ⟨ad, n', c, ⟨l, a1, a2⟩, rfl, h4, h3⟩
/-- a row of programs that came in -/
theorem progs_arg {W : World} {v : Value} {d : DataW H} {p : List MemPlace} (hok : Value.okWide Try.prog W .any base 32 v) (h0 : DataW.Trod enc Try.prog W 0 (fun _ => true) true 32 v d p) (hsz : ∀ n ∈ d.weights Try.prog 32, n ≤ reachBytes) :
    ∃ (ad : Option Addr) (n c : Nat) (L : List Pg), v = .slice ad n c ∧ n * 40 ≤ 140737488351232 ∧ LP W W.heap.size ad n L := by
  obtain ⟨a0, len0, cap0, rfl⟩ := okWide_slice Try.underlying32 hok
  obtain ⟨fuel, hf⟩ := h0
  rcases DataW.trod_slice Try.underlying32 hf with ⟨e, _⟩ | ⟨a, len, cap, elems, rest, n', hn', e, hx0, hb, hlc, hcm, hel, hx, _, _⟩
  · simp [Value.cells] at e
    obtain ⟨rfl, rfl, rfl⟩ := e
    exact ⟨none, 0, 0, [], rfl, by omega, rfl, fun hp => absurd hp (by simp)⟩
  · simp [Value.cells] at e
    obtain ⟨rfl, rfl, rfl⟩ := e
    have hd : d = _ := congrArg Prod.fst hx0
    rw [cells24] at hx
    have hw0 := hsz ((elems.length + rest.length) * Try.prog.bytesOf 24) (by rw [hd]; simp [DataW.weights, Try.underlying32])
    rw [bytes24, reach_eq] at hw0
    have each : ∀ i, i < len0 → ∃ q : (Option Addr × Nat × Nat) × Pg, (∀ j, j < 3 → W.cell? (a.add (i * 3 + j)) = ([.slice q.1.1 q.1.2.1 q.1.2.2, .int .i64 q.2.s, .int .i64 q.2.k] : List Value)[j]?) ∧ PI W W.heap.size q.1.1 q.1.2.1 q.2.l ∧ q.1.2.1 * 56 ≤ 140737488351232 := fun i hi => by
      have h1 := hx i hi
      rw [List.getElem?_eq_getElem (by omega)] at h1
      obtain ⟨cs', h2, h3⟩ := Option.bind_eq_some_iff.1 h1
      obtain ⟨ad, n, c, P, rfl, hp, hn⟩ := open_prog h3 (fun n hn => hsz n (by rw [hd]; simp only [DataW.weights, Try.underlying32]; exact List.mem_cons_of_mem _ (List.mem_append_left _ (weightsAll_mem (List.mem_map.2 ⟨_, List.getElem_mem _, rfl⟩) n hn))))
      obtain ⟨_, _, hc⟩ := World.cells?_some h2
      exact ⟨((ad, n, c), P), fun j hj => by have := hc j hj; rwa [add_add] at this, hp, hn⟩
    obtain ⟨q, hq⟩ := choose_lt each
    refine ⟨some a, len0, cap0, (List.range len0).map fun i => (q i).2, rfl, by omega, by simp, fun hp => ?_⟩
    have hc0 := (hq 0 hp).1 0 (by omega)
    simp only [List.getElem?_cons_zero] at hc0
    have hsp : a.spot = none := by simpa [Addr.add] using World.cell?_spot hc0
    obtain ⟨b, o, sp⟩ := a
    simp only at hsp
    subst hsp
    refine ⟨b, o, fun i => (q i).1.1, fun i => (q i).1.2.1, fun i => (q i).1.2.2, rfl, World.block_lt_of_cell? _ _ hc0, fun i hi => ?_⟩
    have hg : ((List.range len0).map fun i => (q i).2).getD i default = (q i).2 := by simp [List.getD_eq_getElem?_getD, hi]
    rw [hg]
    have h1 := (hq i hi).1
    simp only [add_plain, ← Nat.add_assoc] at h1
    exact ⟨⟨by simpa using h1 0 (by omega), by simpa using h1 1 (by omega), by simpa using h1 2 (by omega)⟩, (hq i hi).2.1, (hq i hi).2.2⟩
end
end Go.Proofs.Ytnecakampgdhcaa
/- HELPERS: a text that comes in. -/
namespace Go.Proofs.Ytnecakampgdhcaa
open Go.RowKit Go.Deep Go.ChangeShapes Go.WideShapes
set_option linter.unusedVariables false
set_option linter.unusedSimpArgs false
set_option maxRecDepth 100000 in
theorem text_arg {H : Type} {enc : TypeId × Value → H} {W : World} {base : Nat} {v : Value} {d : DataW H} {p : List MemPlace} (hok : Value.okWide Try.prog W .any base 43 v)
    (h0 : DataW.Trod enc Try.prog W 0 (fun _ => true) true 43 v d p) (hsz : ∀ n ∈ d.weights Try.prog 43, n ≤ reachBytes) :
    ∃ (l : List Int) (ad : Option Addr) (n cap : Nat), v = .slice ad n cap ∧ TextAt W.heap.size W ad n l := by
  obtain ⟨a0, len, cap, rfl⟩ := okWide_slice Try.underlying43 hok
  obtain ⟨fuel, hf⟩ := h0
  rcases open_ints Try.underlying43 Try.underlying3 cells3a hf with ⟨hcs, hx⟩ | ⟨a, len', cap', zs, hcs, _, hl, hm, hz, hx, hcell, hwz⟩
  · simp [Value.cells] at hcs
    obtain ⟨rfl, rfl, rfl⟩ := hcs
    exact ⟨[], none, 0, 0, rfl, rfl, by omega, .inl rfl⟩
  · simp [Value.cells] at hcs
    obtain ⟨rfl, rfl, rfl⟩ := hcs
    simp only [if_true] at hz
    obtain ⟨rfl, rfl⟩ := Prod.mk.inj hx
    have hb3 : Try.prog.bytesOf 3 = 8 := by kernel_rfl
    have hs := hsz (((lits (H := H) .i64 (zs.take len)).length + (lits (H := H) .i64 (zs.drop len)).length) * Try.prog.bytesOf 3) (by simp [DataW.weights, Try.underlying43, lits])
    rw [hb3, reach_eq] at hs
    simp only [lits, List.length_map, List.length_take, List.length_drop] at hs
    have htl : (zs.take len).length = len := by rw [List.length_take]; omega
    refine ⟨zs.take len, some a, len, cap, rfl, htl.symm, by omega, ?_⟩
    rcases Nat.eq_zero_or_pos len with h0 | h0
    · exact .inl h0
    · right
      obtain ⟨b, off, rfl, hc⟩ := ints_at hcell (by omega)
      refine ⟨b, off, rfl, lt_of_cell (hc 0 (by omega)), fun k hk => ?_⟩
      have hk' : k < zs.length := by omega
      rw [hc k hk']
      simp [List.getD_eq_getElem?_getD, List.getElem?_take_of_lt hk, List.getElem?_eq_getElem hk']
end Go.Proofs.Ytnecakampgdhcaa
/- HELPERS: the document's Check. -/
namespace Go.Proofs.Ytnecakampgdhcaa
open Go.RowKit
set_option linter.unusedVariables false
set_option linter.unusedSimpArgs false
set_option maxRecDepth 100000 in
set_option maxHeartbeats 8000000 in
theorem rcheck9_no {w : World} {ad : Option Addr} {n c : Nat} {l : List In} {s k : Int} (hl : n = l.length) (hno : (decide (l.length ≤ 20000) && belowB s l.length && capsB k) = false) :
    Calls Try.prog 9 #[pv ad n c s k] w fun e w' => e = .returned (.int .i64 (if mayB l s k then 0 else 90)) ∧ Below w.heap.size w w' := by
  rw [head_no hno]
  rw [← hl] at hno
  clear hl
  by_cases h0 : n < 1
  · have b0 : decide ((n : Int) < 1) = true := by simp; omega
    clear hno
    go_enter Try.func9, Try.ntmps9
    go_wp2
    all_goals go_ret
    all_goals exact ⟨rfl, Joins.below_alloc1 w _⟩
  have b0 : decide ((n : Int) < 1) = false := by simp; omega
  by_cases h1 : 20000 < n
  · have b1 : decide ((n : Int) > 20000) = true := by simp; omega
    have b1x : decide ((20000 : Int) < (n : Int)) = true := by simp; omega
    clear hno
    go_enter Try.func9, Try.ntmps9
    go_wp2
    all_goals go_ret
    all_goals exact ⟨rfl, Joins.below_alloc1 w _⟩
  have b1 : decide ((n : Int) > 20000) = false := by simp; omega
  have b1x : decide ((20000 : Int) < (n : Int)) = false := by simp; omega
  by_cases h2 : s < 0
  · have b2 : decide (s < 0) = true := by simp; omega
    clear hno
    go_enter Try.func9, Try.ntmps9
    go_wp2
    all_goals go_ret
    all_goals exact ⟨rfl, Joins.below_alloc1 w _⟩
  have b2 : decide (s < 0) = false := by simp; omega
  by_cases h3 : (n : Int) ≤ s
  · have b3 : decide (s ≥ (n : Int)) = true := by simp; omega
    have b3x : decide ((n : Int) ≤ s) = true := by simp; omega
    clear hno
    go_enter Try.func9, Try.ntmps9
    go_wp2
    all_goals go_ret
    all_goals exact ⟨rfl, Joins.below_alloc1 w _⟩
  have b3 : decide (s ≥ (n : Int)) = false := by simp; omega
  have b3x : decide ((n : Int) ≤ s) = false := by simp; omega
  by_cases h4 : k < 2
  · have b4 : decide (k < 2) = true := by simp; omega
    clear hno
    go_enter Try.func9, Try.ntmps9
    go_wp2
    all_goals go_ret
    all_goals exact ⟨rfl, Joins.below_alloc1 w _⟩
  have b4 : decide (k < 2) = false := by simp; omega
  by_cases h5 : 1002 < k
  · have b5 : decide (k > 1002) = true := by simp; omega
    have b5x : decide ((1002 : Int) < k) = true := by simp; omega
    clear hno
    go_enter Try.func9, Try.ntmps9
    go_wp2
    all_goals go_ret
    all_goals exact ⟨rfl, Joins.below_alloc1 w _⟩
  have b5 : decide (k > 1002) = false := by simp; omega
  have b5x : decide ((1002 : Int) < k) = false := by simp; omega
  have hm : k.tmod 2 = 1 := by
    have h6 : ¬ k % 2 = 0 := fun h6 => by
      have : belowB s n = true := by simp [belowB]; omega
      have : capsB k = true := by simp [capsB]; omega
      simp_all
    rw [Int.tmod_eq_emod_of_nonneg (by omega)]
    omega
  have b6 : (k.tmod 2 == 1) = true := by rw [hm]; rfl
  clear hno h0 h1 h2 h3 h4 h5 hm
  go_enter Try.func9, Try.ntmps9
  go_wp2
  all_goals go_ret
  all_goals exact ⟨rfl, Joins.below_alloc1 w _⟩
set_option maxRecDepth 100000 in
set_option maxHeartbeats 8000000 in
theorem rcheck9_ok {w : World} {ad : Option Addr} {n c : Nat} {l : List In} {s k : Int} (h : PI w w.heap.size ad n l) (hyes : (decide (l.length ≤ 20000) && belowB s l.length && capsB k) = true) :
    Calls Try.prog 9 #[pv ad n c s k] w fun e w' => e = .returned (.int .i64 (if mayB l s k then 0 else 90)) ∧ Below w.heap.size w w' := by
  have hm : mayB l s k = l.all fun I => I.okB l.length k := by unfold mayB; rw [hyes]; rfl
  rw [hm]
  have hl := h.len
  rw [← hl] at hyes ⊢
  simp only [Bool.and_eq_true, decide_eq_true_eq, belowB, capsB, beq_iff_eq] at hyes
  obtain ⟨⟨hA, g1, g1'⟩, ⟨g2, g2'⟩, g3⟩ := hyes
  have b0 : decide ((n : Int) < 1) = false := by simp; omega
  have b1 : decide ((n : Int) > 20000) = false := by simp; omega
  have b1x : decide ((20000 : Int) < (n : Int)) = false := by simp; omega
  have b2 : decide (s < 0) = false := by simp; omega
  have b3 : decide (s ≥ (n : Int)) = false := by simp; omega
  have b3x : decide ((n : Int) ≤ s) = false := by simp; omega
  have b4 : decide (k < 2) = false := by simp; omega
  have b5 : decide (k > 1002) = false := by simp; omega
  have b5x : decide ((1002 : Int) < k) = false := by simp; omega
  have b6 : (k.tmod 2 == 1) = false := by rw [Int.tmod_eq_emod_of_nonneg (by omega), g3]; rfl
  obtain ⟨rv, hrv⟩ : ∃ rv : Int, rv = (if (l.all fun I => I.okB n k) = true then 0 else 90) := ⟨_, rfl⟩
  rw [← hrv]
  have HRES := hid' hrv
  clear hrv hm
  obtain ⟨U, hU⟩ : ∃ U, U = w.alloc (.cells #[.slice ad n c, .int .i64 s, .int .i64 k] 24) := ⟨_, rfl⟩
  have hb : Below w.heap.size w U := by rw [hU]; exact Joins.below_alloc1 w _
  have hX : U.heap[w.heap.size]? = some (.cells #[.slice ad n c, .int .i64 s, .int .i64 k] 24 (0, 0)) := by rw [hU]; exact heap_alloc_new w _
  have hsz : w.heap.size < U.heap.size := (Array.getElem?_eq_some_iff.1 hX).1
  have HP := hid' (h.kept hb hb.size)
  have HB := hid' hb
  have HX := hid' hX
  have HL := hid' hl
  clear h hl hb hX g1 g1' g2 g2' g3
  obtain ⟨b, hbe⟩ : ∃ b, b = w.heap.size := ⟨_, rfl⟩
  go_enter Try.func9, Try.ntmps9
  go_upto_region 1 with fail
  rw [← hU, ← hbe]
  rw [← hbe] at hsz HX HB
  have HBE := hid' hbe
  clear hU hbe
  obtain ⟨c0, c1, c2⟩ := three_cells HX.out
  go_wp2_with fail
  clear c0 c1 c2 b0 b1 b1x b2 b3 b3x b4 b5 b5x b6
  go_loopw [4] (fun y wq => ∃ i : Nat, y = .int .i64 (i : Int) ∧ i ≤ n ∧ Hid (Below U.heap.size U wq) ∧ Hid (∀ j (hj : j < l.length), j < i → (l[j]).okB n k = true)) (fun y _ => n - (intOf y).toNat)
  case atStart => exact ⟨0, rfl, by omega, Below.refl _ _, fun j hj h0 => by omega⟩
  case round =>
    obtain ⟨i, rfl, hi, BK, HA⟩ := hrel
    by_cases hil : i < n
    · have b1 : decide ((i : Int) < (n : Int)) = true := by simp; omega
      have b2 : (i : Int) < (n : Int) := by omega
      have ad1 : IntKind.i64.wrap ((i : Int) + 1) = (i : Int) + 1 := by simp [IntKind.wrap, IntKind.bits, IntKind.signed]; omega
      have hlt : i < l.length := by have := HL.out; omega
      obtain ⟨q, o, ND, e, hq, hcs⟩ := HP.out.mem (by omega)
      subst e
      obtain ⟨m0, m1, m2, m3, m4⟩ := (hcs i hlt).1.kept (BK.out.block q hq)
      have hIM := (hcs i hlt).2.kept BK.out BK.out.size
      obtain ⟨M, hM⟩ : ∃ M, M = ND i := ⟨_, rfl⟩
      rw [← hM] at m0 m1 m2 m3 m4 hIM
      have hbw : b < wr.heap.size := by have := BK.out.size; omega
      obtain ⟨p0, p1, p2⟩ := three_cells ((BK.out.block b hsz).trans HX.out)
      have HCw : ∀ W, W.heap = wr.heap → W.os = wr.os → W.tape = wr.tape → W.output = wr.output → Calls Try.prog 23 #[M.v, .int .i64 n, .int .i64 k] W fun e w' => e = .returned (.bool (l[i].okB n k)) ∧ Below wr.heap.size wr w' := by
        intro W e1 e2 e3 e4
        have hbW : Below wr.heap.size wr W := ⟨e2, e3, e4, by rw [e1]; exact Nat.le_refl _, fun k hk => by rw [e1]⟩
        have hIW := hIM.kept hbW hbW.size
        have HC := may23 M l[i].R n k W hIW.len hIW.sm hIW.row
        rw [hIW.op, hIW.x, hIW.y, hIW.a] at HC
        exact HC.mono fun e w' h => ⟨h.1, hbW.trans (Joins.below_le h.2 hbW.size)⟩
      have HCC := hid' HCw
      clear hM hIM hcs HCw
      cases g : l[i].okB n k
      · rw [g] at HCC
        go_wp2_with fail
        go_region_held3 (fun W => W.cell? ⟨b, 0, none⟩ = some (.slice (some ⟨q, o, none⟩) n c) ∧ W.cell? ⟨b, 2, none⟩ = some (.int .i64 k) ∧ W.cell? ⟨q, o + i * 5, none⟩ = some (.int .i64 M.op) ∧ W.cell? ⟨q, o + i * 5 + 1, none⟩ = some (.int .i64 M.x) ∧ W.cell? ⟨q, o + i * 5 + 2, none⟩ = some (.int .i64 M.y) ∧ W.cell? ⟨q, o + i * 5 + 3, none⟩ = some (.int .i64 M.a) ∧ W.cell? ⟨q, o + i * 5 + 4, none⟩ = some (.slice M.r1 M.r2 M.r3)) (first | (exact ⟨d0, d1, d2, d3, d4, d5, d6⟩) | (simp [*]; done)) (first | (go_at_call 23; (with_reducible refine (HCC.out _ ?_ ?_ ?_ ?_).mono ?_); (rfl); (rfl); (rfl); (rfl); rintro e w2 ⟨rfl, hb2⟩; have hq' : q < wr.heap.size := (by have := BK.out.size; omega); have d0 := (cell_eq (hb2.block b hbw) 0).trans p0; have d1 := (cell_eq (hb2.block b hbw) 2).trans p2; have d2 := (cell_eq (hb2.block q hq') _).trans m0; have d3 := (cell_eq (hb2.block q hq') _).trans m1; have d4 := (cell_eq (hb2.block q hq') _).trans m2; have d5 := (cell_eq (hb2.block q hq') _).trans m3; have d6 := (cell_eq (hb2.block q hq') _).trans m4; have HB2 := hid' hb2; clear hb2))
        all_goals go_wp2
        all_goals go_ret
        all_goals have hf : rv = 90 := (by rw [HRES.out, if_neg]; rw [Bool.not_eq_true, List.all_eq_false]; exact ⟨l[i], List.getElem_mem hlt, by rw [g]; simp⟩)
        all_goals refine ⟨by first | (rw [hf]; rfl) | exact ret_int hf.symm, ?_⟩
        all_goals rw [← HBE.out]
        all_goals exact HB.out.trans (Joins.below_le (BK.out.trans (Joins.below_le HB2.out BK.out.size)) (by omega))
      · rw [g] at HCC
        go_wp2_with fail
        go_region_held3 (fun W => W.cell? ⟨b, 0, none⟩ = some (.slice (some ⟨q, o, none⟩) n c) ∧ W.cell? ⟨b, 2, none⟩ = some (.int .i64 k) ∧ W.cell? ⟨q, o + i * 5, none⟩ = some (.int .i64 M.op) ∧ W.cell? ⟨q, o + i * 5 + 1, none⟩ = some (.int .i64 M.x) ∧ W.cell? ⟨q, o + i * 5 + 2, none⟩ = some (.int .i64 M.y) ∧ W.cell? ⟨q, o + i * 5 + 3, none⟩ = some (.int .i64 M.a) ∧ W.cell? ⟨q, o + i * 5 + 4, none⟩ = some (.slice M.r1 M.r2 M.r3)) (first | (exact ⟨d0, d1, d2, d3, d4, d5, d6⟩) | (simp [*]; done)) (first | (go_at_call 23; (with_reducible refine (HCC.out _ ?_ ?_ ?_ ?_).mono ?_); (rfl); (rfl); (rfl); (rfl); rintro e w2 ⟨rfl, hb2⟩; have hq' : q < wr.heap.size := (by have := BK.out.size; omega); have d0 := (cell_eq (hb2.block b hbw) 0).trans p0; have d1 := (cell_eq (hb2.block b hbw) 2).trans p2; have d2 := (cell_eq (hb2.block q hq') _).trans m0; have d3 := (cell_eq (hb2.block q hq') _).trans m1; have d4 := (cell_eq (hb2.block q hq') _).trans m2; have d5 := (cell_eq (hb2.block q hq') _).trans m3; have d6 := (cell_eq (hb2.block q hq') _).trans m4; have HB2 := hid' hb2; clear hb2))
        all_goals go_wp2
        all_goals refine ⟨⟨i + 1, by push_cast; rfl, by omega, BK.out.trans (Joins.below_le HB2.out BK.out.size), fun j hj h1 => ?_⟩, by simp [intOf]; omega⟩
        all_goals
          by_cases e : j = i
          · subst e; exact g
          · exact HA.out j hj (by omega)
    · have b1 : decide ((i : Int) < (n : Int)) = false := by simp; omega
      go_wp2
      all_goals go_ret
      all_goals have hf : rv = 0 := (by rw [HRES.out, if_pos]; rw [List.all_eq_true]; intro I hI; obtain ⟨j, hj, rfl⟩ := List.getElem_of_mem hI; exact HA.out j hj (by have := HL.out; omega))
      all_goals refine ⟨by first | (rw [hf]; rfl) | exact ret_int hf.symm, ?_⟩
      rw [← HBE.out]
      exact HB.out.trans (Joins.below_le BK.out (by omega))
theorem rcheck9 {w : World} {ad : Option Addr} {n c : Nat} {l : List In} {s k : Int} (h : PI w w.heap.size ad n l) : Calls Try.prog 9 #[pv ad n c s k] w fun e w' => e = .returned (.int .i64 (if mayB l s k then 0 else 90)) ∧ Below w.heap.size w w' := by
  cases hh : decide (l.length ≤ 20000) && belowB s l.length && capsB k with
  | false => exact rcheck9_no h.len hh
  | true => exact rcheck9_ok h hh
end Go.Proofs.Ytnecakampgdhcaa
/- HELPERS: awake. -/
namespace Go.Proofs.Ytnecakampgdhcaa
open Go.RowKit
set_option linter.unusedVariables false
set_option linter.unusedSimpArgs false
abbrev L4 : List In := [⟨3, 1, 0, 0, []⟩, ⟨1, 2, 0, 0, [(97, 97)]⟩, ⟨3, 3, 0, 1, []⟩, ⟨5, 0, 0, 0, []⟩]
theorem may4 : mayB L4 0 2 = true := by kernel_rfl
theorem may0 : mayB [] 0 0 = false := by kernel_rfl
abbrev N4 (q1 : Option Addr) (q3 : Nat) : List Iv := [⟨3, 1, 0, 0, none, 0, 0⟩, ⟨1, 2, 0, 0, q1, 1, q3⟩, ⟨3, 3, 0, 1, none, 0, 0⟩, ⟨5, 0, 0, 0, none, 0, 0⟩]
theorem pi4 {w : World} {base : Nat} {z1 q1 : Option Addr} {c q3 : Nat} (h : w.ownsRow base 51 5 (.slice z1 4 c) 4 (F4 q1 q3)) (hq : RowAt w.heap.size w (.slice q1 1 q3) [(97, 97)]) : PI w w.heap.size z1 4 L4 := by
  refine ⟨rfl, fun _ => ?_⟩
  rcases h.2 with ⟨_, h0⟩ | ⟨b, cap, cur, e, _⟩
  · omega
  · simp only [Value.slice.injEq] at e
    have hb := (h.lt b (by rw [e.1]; rfl)).2
    rw [e.1] at h
    have hF : F4 q1 q3 = (N4 q1 q3).flatMap Iv.cs := by simp [F4, N4]
    refine ⟨b, 0, fun i => (N4 q1 q3).getD i default, e.1, hb, fun i hi => ⟨?_, ?_⟩⟩
    · have hi4 : i < (N4 q1 q3).length := by simpa using hi
      have f : ∀ k, k < 5 → w.cell? ⟨b, i * 5 + k, none⟩ = (Iv.cs (N4 q1 q3)[i])[k]? := fun k hk => by
        rw [h.cellAt (i * 5 + k) (by simp at hi; omega), hF, flat5 (N4 q1 q3) i k hi4 hk]
      have f0 := f 0 (by omega)
      rw [Nat.add_zero] at f0
      show I5 w b 0 i ((N4 q1 q3).getD i default)
      rw [show (N4 q1 q3).getD i default = (N4 q1 q3)[i] by simp only [List.getD_eq_getElem?_getD, List.getElem?_eq_getElem hi4, Option.getD_some]]
      unfold I5
      rw [Nat.zero_add]
      exact ⟨f0, f 1 (by omega), f 2 (by omega), f 3 (by omega), f 4 (by omega)⟩
    · have nil : ∀ a b c d : Int, IM w w.heap.size ⟨a, b, c, d, none, 0, 0⟩ ⟨a, b, c, d, []⟩ := fun a b c d => ⟨rfl, rfl, rfl, rfl, rfl, by show 0 * 16 ≤ _; omega, ⟨none, 0, rfl, .inl rfl⟩⟩
      match i, hi with
      | 0, _ => exact nil _ _ _ _
      | 1, _ => exact ⟨rfl, rfl, rfl, rfl, rfl, by show 1 * 16 ≤ _; omega, hq⟩
      | 2, _ => exact nil _ _ _ _
      | 3, _ => exact nil _ _ _ _
abbrev A4 (g : Nat) : Array Value := #[.int .i64 3, .int .i64 1, .int .i64 0, .int .i64 0, .slice none 0 0, .int .i64 1, .int .i64 2, .int .i64 0, .int .i64 0, .slice (some ⟨g, 0, none⟩) 1 1, .int .i64 3, .int .i64 3, .int .i64 0, .int .i64 1, .slice none 0 0, .int .i64 5, .int .i64 0, .int .i64 0, .int .i64 0, .slice none 0 0]
set_option maxRecDepth 100000 in
set_option maxHeartbeats 8000000 in
theorem awake7 (w : World) : Calls Try.prog 7 #[] w fun e w' => e = .returned (.bool true) ∧ Below w.heap.size w w' := by
  go_enter Try.func7, Try.ntmps7
  go_upto_region 2 with fail
  obtain ⟨U, hU⟩ : ∃ U, U = w.alloc (.cells #[.int .i64 97, .int .i64 97] 49) := ⟨_, rfl⟩
  rw [← hU]
  have hbU : Below w.heap.size w U := by rw [hU]; exact Joins.below_alloc1 w _
  have hG : U.heap[w.heap.size]? = some (.cells #[.int .i64 97, .int .i64 97] 49 (0, 0)) := by rw [hU]; exact heap_alloc_new w _
  have hgU : w.heap.size < U.heap.size := (Array.getElem?_eq_some_iff.1 hG).1
  obtain ⟨g, hg⟩ : ∃ g, g = w.heap.size := ⟨_, rfl⟩
  rw [← hg] at hbU hG hgU ⊢
  have HG := hid hG
  have HB := hid hbU
  have HGE := hid hg
  have rowG : ∀ W : World, W.heap[g]? = some (.cells #[.int .i64 97, .int .i64 97] 49 (0, 0)) → RowAt W.heap.size W (.slice (some ⟨g, 0, none⟩) 1 1) [(97, 97)] := fun W hW =>
    ⟨some ⟨g, 0, none⟩, 1, rfl, .inr ⟨g, 0, rfl, (Array.getElem?_eq_some_iff.1 hW).1, fun k hk => by have : k = 0 := (by simpa using hk); subst this; exact Joins.cell_of_block hW 0, fun k hk => by have : k = 0 := (by simpa using hk); subst this; exact Joins.cell_of_block hW 1⟩⟩
  have HRG := hid rowG
  have HC := compile20 (rowG U hG) ⟨Nat.le_refl _, by unfold maxLen; omega⟩
  clear hU hbU hG hg rowG
  go_upto_region 3 with (go_at_call 20; (with_reducible refine HC.mono ?_); rintro e W1 ⟨z1, c, q1, q3, rfl, hrow, hq, hb⟩; have HR1 := hid hrow; have HQ1 := hid hq; have HB1 := hid hb; clear hrow hq hb HC)
  obtain ⟨U1, hU1⟩ : ∃ U1, U1 = W1.alloc (.cells #[.slice z1 4 c, .int .i64 0, .int .i64 2] 24) := ⟨_, rfl⟩
  rw [← hU1]
  have HB01 : Hid (Below U.heap.size U U1) := by rw [hU1]; exact HB1.out.alloc HB1.out.size _
  have hX1 : U1.heap[W1.heap.size]? = some (.cells #[.slice z1 4 c, .int .i64 0, .int .i64 2] 24 (0, 0)) := by rw [hU1]; exact heap_alloc_new W1 _
  have HR2 : Hid (U1.ownsRow U.heap.size 51 5 (.slice z1 4 c) 4 (F4 q1 q3)) := by rw [hU1]; exact HR1.out.alloc _
  have HQ2 : Hid (U1.ownsRow U.heap.size 49 2 (.slice q1 1 q3) 1 (O2 [(97, 97)])) := by rw [hU1]; exact HQ1.out.alloc _
  have HP1 : Hid (PI U1 U1.heap.size z1 4 L4) := pi4 HR2.out (rowAt_own HQ2.out rfl)
  have hx1 : W1.heap.size < U1.heap.size := (Array.getElem?_eq_some_iff.1 hX1).1
  obtain ⟨x, hx⟩ : ∃ x, x = W1.heap.size := ⟨_, rfl⟩
  rw [← hx] at hX1 hx1 ⊢
  have HX1 := hid hX1
  clear hU1 hx hX1 HR1 HQ1 HB1 HR2 HQ2
  go_upto_region 4 with fail
  obtain ⟨U2, hU2⟩ : ∃ U2, U2 = (U1.alloc (.cells (A4 g) 51)).alloc (.cells #[.slice (some ⟨U1.heap.size, 0, none⟩) 4 4, .int .i64 0, .int .i64 2] 24) := ⟨_, rfl⟩
  rw [← hU2]
  have hb2 : Below U1.heap.size U1 U2 := by rw [hU2]; exact below_two' U1 _ _
  have hY2 : U2.heap[U1.heap.size + 1]? = some (.cells #[.slice (some ⟨U1.heap.size, 0, none⟩) 4 4, .int .i64 0, .int .i64 2] 24 (0, 0)) := by rw [hU2]; exact two_new U1 _ _ _
  have HR3 : Hid (U2.ownsRow 0 51 5 (.slice (some ⟨U1.heap.size, 0, none⟩) 4 4) 4 (F4 (some ⟨g, 0, none⟩) 1)) := by rw [hU2]; exact (World.ownsRow_lit (base := 0) (e := 51) (size := 5) U1 (A4 g) 4 (Nat.zero_le _) (by unfold maxLen; omega) rfl).alloc _
  have hG2 : U2.heap[g]? = some (.cells #[.int .i64 97, .int .i64 97] 49 (0, 0)) := (hb2.block g (by have := HB01.out.size; omega)).trans ((HB01.out.block g hgU).trans HG.out)
  have HQ : Hid (PI U2 U2.heap.size (some ⟨U1.heap.size, 0, none⟩) 4 L4) := pi4 HR3.out (HRG.out U2 hG2)
  have HP2 : Hid (PI U2 U2.heap.size z1 4 L4) := HP1.out.kept hb2 hb2.size
  have HX2 : Hid (U2.heap[x]? = some (.cells #[.slice z1 4 c, .int .i64 0, .int .i64 2] 24 (0, 0))) := (hb2.block x hx1).trans HX1.out
  have HB2 : Hid (Below g w U2) := (HB.out.trans (Joins.below_le HB01.out (by omega))).trans (Joins.below_le hb2 (by have := HB01.out.size; omega))
  have hgU2 : g < U2.heap.size := (Array.getElem?_eq_some_iff.1 hG2).1
  obtain ⟨y, hy⟩ : ∃ y, y = U1.heap.size + 1 := ⟨_, rfl⟩
  rw [← hy] at hY2 ⊢
  obtain ⟨q, hq⟩ : ∃ q, q = U1.heap.size := ⟨_, rfl⟩
  rw [← hq] at hY2 HQ ⊢
  have HY2 := hid hY2
  clear hU2 hb2 hY2 hG2 hy hq HR3 HP1 HX1 HB01 HB HRG HG hx1 hgU
  have HC := same11 (c := c) (c' := 4) (s := 0) (k := 2) HP2.out HQ.out (by omega)
  obtain ⟨a0, a1, a2⟩ := three_cells HX2.out
  obtain ⟨b0, b1, b2⟩ := three_cells HY2.out
  go_upto_region 5 with (go_at_call 11; (with_reducible refine HC.mono ?_); rintro e U3 ⟨rfl, hb⟩; have HB3 := hid hb; clear hb HC)
  clear a0 a1 a2 b0 b1 b2
  have HY3 : Hid (U3.heap[y]? = some (.cells #[.slice (some ⟨q, 0, none⟩) 4 4, .int .i64 0, .int .i64 2] 24 (0, 0))) := (HB3.out.block y (Array.getElem?_eq_some_iff.1 HY2.out).1).trans HY2.out
  have HQ3 : Hid (PI U3 U3.heap.size (some ⟨q, 0, none⟩) 4 L4) := HQ.out.kept HB3.out HB3.out.size
  have HBx3 : Hid (Below g w U3) := HB2.out.trans (Joins.below_le HB3.out (by omega))
  have hgU3 : g < U3.heap.size := Nat.lt_of_lt_of_le hgU2 HB3.out.size
  have HC := check10 (c := 4) (s := 0) (k := 2) HQ3.out
  rw [may4, if_pos rfl] at HC
  obtain ⟨b0, b1, b2⟩ := three_cells HY3.out
  go_upto_region 6 with (go_at_call 10; (with_reducible refine HC.mono ?_); rintro e U4 ⟨rfl, hb⟩; have HB4 := hid hb; clear hb HC)
  clear b0 b1 b2
  have HBx4 : Hid (Below g w U4) := HBx3.out.trans (Joins.below_le HB4.out (by omega))
  have hgU4 : g < U4.heap.size := Nat.lt_of_lt_of_le hgU3 HB4.out.size
  have hn0 : PI U4 U4.heap.size none 0 [] := ⟨rfl, fun h => absurd h (by simp)⟩
  have HC := check10 (c := 0) (s := 0) (k := 0) hn0
  rw [may0, if_neg (by simp)] at HC
  clear hn0
  go_wp2_with (first | (go_at_call 10; (with_reducible refine HC.mono ?_); rintro e U5 ⟨rfl, hb⟩; have HB5 := hid hb; clear hb HC))
  go_ret
  refine ⟨rfl, ?_⟩
  rw [← HGE.out]
  exact HBx4.out.trans (Joins.below_le HB5.out (by omega))
end Go.Proofs.Ytnecakampgdhcaa
/- HELPERS: Find from one place. -/
namespace Go.Proofs.Ytnecakampgdhcaa
open Go.RowKit Go.Lk
set_option linter.unusedVariables false
set_option linter.unusedSimpArgs false
/-- what Find answers -/
def FR : Option (Int × List Int) → World → Ending → World → Prop
  | none, w, e, w' => e = .returned (.agg #[.bool false, .slice none 0 0, .int .i64 0, .int .i64 0]) ∧ Below w.heap.size w w'
  | some y, w, e, w' => ∃ g, e = .returned (.agg #[.bool true, .slice (some ⟨g, 0, none⟩) y.2.length y.2.length, .int .i64 y.1, .int .i64 0]) ∧ w'.ownsRow w.heap.size 3 1 (.slice (some ⟨g, 0, none⟩) y.2.length y.2.length) y.2.length (y.2.map (Value.int .i64)) ∧ Below w.heap.size w w'
set_option maxRecDepth 100000 in
set_option maxHeartbeats 8000000 in
theorem find22 {w : World} {ad tad : Option Addr} {n c tn tc q S K : Nat} {l : List In} {tx : List Int} {r : Option (Int × List Int)} (hP : PI w w.heap.size ad n l) (hmay : mayB l (S : Int) (K : Int) = true) (hT : TextAt w.heap.size w tad tn tx) (ht20 : tn ≤ 20) (hq : q ≤ tn) (hev : Ev l tx [.go S q] (fun _ _ => false) (List.replicate K (-1)) r) :
    Calls Try.prog 22 #[pv ad n c (S : Int) (K : Int), .slice tad tn tc, .int .i64 (q : Int), .bool true] w (FR r w) := by
  obtain ⟨U, hU⟩ : ∃ U, U = (w.alloc (.cells #[.slice ad n c, .int .i64 (S : Int), .int .i64 (K : Int)] 24)).alloc (.cells #[.bool false, .slice none 0 0, .int .i64 0, .int .i64 0] 45) := ⟨_, rfl⟩
  have hb : Below w.heap.size w U := by rw [hU]; exact below_two' w _ _
  have hX : U.heap[w.heap.size]? = some (.cells #[.slice ad n c, .int .i64 (S : Int), .int .i64 (K : Int)] 24 (0, 0)) := by rw [hU]; exact (heap_alloc_old _ _ (by simp)).trans (heap_alloc_new w _)
  have hY : U.heap[w.heap.size + 1]? = some (.cells #[.bool false, .slice none 0 0, .int .i64 0, .int .i64 0] 45 (0, 0)) := by rw [hU]; exact two_new w _ _ _
  obtain ⟨x, hx⟩ : ∃ x, x = w.heap.size := ⟨_, rfl⟩
  obtain ⟨y, hy⟩ : ∃ y, y = w.heap.size + 1 := ⟨_, rfl⟩
  have hyU : w.heap.size + 1 < U.heap.size := (Array.getElem?_eq_some_iff.1 hY).1
  have hT2 : TextAt U.heap.size U tad tn tx := (hT.below hb).mono hb.size
  have HC := walk36 (c := c) (tc := tc) (hP.kept hb hb.size) hmay hT2 ht20 hq hev
  rw [← hx] at hX hb
  rw [← hy] at hY hyU
  have HB := hid hb
  have HY := hid hY
  have HXE := hid hx
  have hxy : x < y := by omega
  have b1 : decide ((q : Int) ≤ (tn : Int)) = true := by simp; omega
  obtain ⟨c0, c1, c2⟩ := three_cells hX
  clear hT hP hT2 hb hev hmay hX hY
  go_enter Try.func22, Try.ntmps22
  go_upto_region 1 with fail
  rw [← hU, ← hy, ← hx]
  clear hU hx hy
  go_wp2_with fail
  go_loopw [9] (fun v wq => v = .int .i64 (q : Int) ∧ wq = U) (fun _ _ => 0)
  case atStart => exact ⟨rfl, rfl⟩
  case round =>
    obtain ⟨rfl, rfl⟩ := hrel
    cases r with
    | none =>
      go_upto_region 5 with (go_at_call 36; (with_reducible refine HC.mono ?_); rintro e w2 ⟨rfl, hb2⟩; have HB2 := hid hb2; clear hb2 HC)
      have hY2 := (HB2.out.block y hyU).trans HY.out
      have s0 := Joins.unfrozen_of_block hY2 0
      have s1 := Joins.unfrozen_of_block hY2 1
      have s2 := Joins.unfrozen_of_block hY2 2
      have s3 := Joins.unfrozen_of_block hY2 3
      have y0 := Joins.cell_of_block hY2 0
      have y1 := Joins.cell_of_block hY2 1
      have y2 := Joins.cell_of_block hY2 2
      have y3 := Joins.cell_of_block hY2 3
      have HY2 := hid hY2
      clear hY2 c0 c1 c2
      go_wp2
      refine bodyPost_ret (results_cell_row rfl _ _ y 45 _ (0, 0) _ rfl (Joins.block_setCell (i := 3) (Joins.block_setCell (i := 2) (Joins.block_setCell (i := 1) (Joins.block_setCell (i := 0) HY2.out _) _) _) _) Try.underlying45 rfl (by kernel_rfl)) rfl ?_
      have hb2 : Below x w w2 := HB.out.trans (Joins.below_le HB2.out (by omega))
      refine ⟨rfl, ?_⟩
      rw [← HXE.out]
      exact (((hb2.setCell (p := ⟨y, 0, none⟩) (by show x ≤ y; omega) _).setCell (p := ⟨y, 1, none⟩) (by show x ≤ y; omega) _).setCell (p := ⟨y, 2, none⟩) (by show x ≤ y; omega) _).setCell (p := ⟨y, 3, none⟩) (by show x ≤ y; omega) _
    | some v =>
      go_upto_region 5 with (go_at_call 36; (with_reducible refine HC.mono ?_); rintro e w2 ⟨g, rfl, hrow, hb2⟩; have HB2 := hid hb2; have HROW := hid hrow; clear hb2 hrow HC)
      have hY2 := (HB2.out.block y hyU).trans HY.out
      have s0 := Joins.unfrozen_of_block hY2 0
      have s1 := Joins.unfrozen_of_block hY2 1
      have s2 := Joins.unfrozen_of_block hY2 2
      have s3 := Joins.unfrozen_of_block hY2 3
      have y0 := Joins.cell_of_block hY2 0
      have y1 := Joins.cell_of_block hY2 1
      have y2 := Joins.cell_of_block hY2 2
      have y3 := Joins.cell_of_block hY2 3
      have HY2 := hid hY2
      clear hY2 c0 c1 c2
      go_wp2
      refine bodyPost_ret (results_cell_row rfl _ _ y 45 _ (0, 0) _ rfl (Joins.block_setCell (i := 3) (Joins.block_setCell (i := 2) (Joins.block_setCell (i := 1) (Joins.block_setCell (i := 0) HY2.out _) _) _) _) Try.underlying45 rfl (by kernel_rfl)) rfl ?_
      have hb2 : Below x w w2 := HB.out.trans (Joins.below_le HB2.out (by omega))
      have hgy : (Value.slice (some ⟨g, 0, none⟩) v.2.length v.2.length).ownBlock ≠ some y := own_ne HROW.out HY2.out (by decide)
      refine ⟨g, rfl, ?_, ?_⟩
      · have t := own_setCell (a := ⟨y, 3, none⟩) (u := .int .i64 0) (own_setCell (a := ⟨y, 2, none⟩) (u := .int .i64 v.1) (own_setCell (a := ⟨y, 1, none⟩) (u := .slice (some ⟨g, 0, none⟩) v.2.length v.2.length) (own_setCell (a := ⟨y, 0, none⟩) (u := .bool true) HROW.out hgy) hgy) hgy) hgy
        exact t.mono (by rw [← HXE.out]; omega)
      · rw [← HXE.out]
        exact (((hb2.setCell (p := ⟨y, 0, none⟩) (by show x ≤ y; omega) _).setCell (p := ⟨y, 1, none⟩) (by show x ≤ y; omega) _).setCell (p := ⟨y, 2, none⟩) (by show x ≤ y; omega) _).setCell (p := ⟨y, 3, none⟩) (by show x ≤ y; omega) _
end Go.Proofs.Ytnecakampgdhcaa
/- HELPERS: programs that stand side by side may be. -/
namespace Go.Proofs.Ytnecakampgdhcaa
open Go.RowKit Go.Lk
set_option linter.unusedVariables false
set_option linter.unusedSimpArgs false
theorem joinC_inv {L : List Pg} (h : joinC L = 0) : 1 ≤ L.length ∧ L.length ≤ 100 ∧ allMay L = true ∧ ahead L L.length ≤ 20000 := by
  have h1 : ¬ (L.length < 1 ∨ 100 < L.length) := fun h' => by rw [joinC_arg h'] at h; omega
  have h2 : allMay L = true := by
    cases g : allMay L with
    | true => rfl
    | false => rw [joinC_prog h1 g] at h; omega
  have h3 : ¬ 20000 < ahead L L.length := fun h' => by rw [joinC_big h1 h2 h'] at h; omega
  exact ⟨by omega, by omega, h2, by omega⟩
theorem capsTo_one (L : List Pg) : ∀ m, 0 < m → (∀ k, k < m → 0 ≤ (L.getD k default).k) → ∃ k, k < m ∧ capsTo L m = (L.getD k default).k := by
  intro m
  induction m with
  | zero => intro h; omega
  | succ m ih =>
    intro _ h0
    simp only [capsTo]
    by_cases hm : m = 0
    · subst hm
      refine ⟨0, by omega, ?_⟩
      simp only [capsTo]
      have := h0 0 (by omega)
      omega
    · obtain ⟨k, hk, e⟩ := ih (by omega) (fun k hk => h0 k (by omega))
      rw [e]
      by_cases hle : (L.getD k default).k ≤ (L.getD m default).k
      · exact ⟨m, by omega, by omega⟩
      · exact ⟨k, by omega, by omega⟩
theorem caps_of {l : List In} {s k : Int} (h : mayB l s k = true) : capsB k = true := by
  simp only [mayB, Bool.and_eq_true] at h
  exact h.1.2
theorem ok_mv {I : In} {len C k : Int} {off which N : Nat} (h : I.okB len k = true) (hl : (off : Int) + len ≤ N) (hk : k ≤ C) (hw : which < 100) : (mvI off which I).okB N C = true := by
  have hop := ok_op h
  have hokk := h
  simp only [In.okB, Bool.and_eq_true] at h ⊢
  obtain ⟨⟨⟨h1, h2⟩, h3⟩, h4⟩ := h
  refine ⟨⟨⟨?_, ?_⟩, ?_⟩, ?_⟩
  · show isTargetB (if hasXB I.op then I.x + off else I.x) (hasXB I.op) N = true
    cases g : hasXB I.op with
    | false => rw [g] at h1; simpa [isTargetB] using h1
    | true =>
      rw [g] at h1
      simp [isTargetB, belowB] at h1 ⊢
      omega
  · show isTargetB (if hasYB I.op then I.y + off else I.y) (hasYB I.op) N = true
    cases g : hasYB I.op with
    | false => rw [g] at h2; simpa [isTargetB] using h2
    | true =>
      rw [g] at h2
      simp [isTargetB, belowB] at h2 ⊢
      omega
  · show isArgB I.op (if I.op = 5 then (which : Int) else I.a) C = true
    rcases hop with e | e | e | e | e | e | e <;> rw [e] at h3 ⊢ <;> simp [isArgB, belowB] at h3 ⊢ <;> first | omega | exact h3
  · exact h4
/-- programs that stand side by side may be -/
theorem join_may {L : List Pg} (h : joinC L = 0) : mayB (joinI L) (joinS L) (capsTo L L.length) = true := by
  obtain ⟨h1, h2, hall, h4⟩ := joinC_inv h
  have hm := mayTo_all hall
  have hlen := joinI_len L
  obtain ⟨k0, hk0, hc0⟩ := capsTo_one L L.length (by omega) (fun k hk => by have := may_ok (hm k hk); omega)
  have hent : ∀ k, k < L.length → 0 ≤ entry L k ∧ entry L k < (ahead L L.length : Int) := fun k hk => by
    have hmk := may_ok (hm k hk)
    have ha := ahead_succ L k hk
    have hmo := ahead_mono L L.length (k + 1) (by omega) (Nat.le_refl _)
    unfold entry
    omega
  have hal : L.length - 1 ≤ ahead L L.length := by unfold ahead; omega
  have hpos : 0 < ahead L L.length := by have := hent 0 (by omega); omega
  unfold mayB
  rw [hlen]
  simp only [Bool.and_eq_true, decide_eq_true_eq, List.all_eq_true]
  refine ⟨⟨⟨h4, ?_⟩, by rw [hc0]; exact caps_of (hm k0 hk0)⟩, fun I hI => ?_⟩
  · unfold joinS
    split
    · have := hent 0 (by omega)
      have e0 : entry L 0 = (L.getD 0 default).s := by unfold entry; rw [ahead_zero, show L.length - 1 = 0 by omega]; simp
      rw [e0] at this
      simp [belowB]
      simpa using this
    · simp [belowB]
      omega
  · unfold joinI at hI
    rcases List.mem_append.1 hI with hI | hI
    · simp only [altsL, List.mem_map] at hI
      obtain ⟨i, hi, rfl⟩ := hI
      have hi' : i < L.length - 1 := by simpa using hi
      have e1 := hent i (by omega)
      have e2 := hent (i + 1) (by omega)
      simp only [In.okB, altI, Bool.and_eq_true]
      refine ⟨⟨⟨?_, ?_⟩, rfl⟩, rfl⟩
      · simp [isTargetB, belowB, show hasXB 2 = true from rfl]
        omega
      · simp only [isTargetB, belowB, show hasYB 2 = true from rfl, if_true, Bool.and_eq_true, decide_eq_true_eq]
        split <;> omega
    · simp only [movedL, List.mem_flatMap, List.mem_map] at hI
      obtain ⟨k, hk, J, hJ, rfl⟩ := hI
      have hkL : k < L.length := by simpa using hk
      have hmk := may_ok (hm k hkL)
      have ha := ahead_succ L k hkL
      have hmo := ahead_mono L L.length (k + 1) (by omega) (Nat.le_refl _)
      exact ok_mv (hmk.2.2.2.2.2 J hJ) (by omega) (capsTo_le L L.length k hkL) (by omega)
end Go.Proofs.Ytnecakampgdhcaa
/- HELPERS: the law ProgBeside walked. -/
namespace Go.Proofs.Ytnecakampgdhcaa
open Go.RowKit Go.Lk
set_option linter.unusedVariables false
set_option linter.unusedSimpArgs false
theorem fr_none {res : Nat → Option (Int × List Int)} : ∀ (c k : Nat), (∀ j, k ≤ j → j < k + c → res j = none) → fr res c k = none
  | 0, _, _ => rfl
  | c + 1, k, h => by
    rw [fr, h k (Nat.le_refl _) (by omega)]
    exact fr_none c (k + 1) (fun j h1 h2 => h j (by omega) (by omega))
theorem fr_some {res : Nat → Option (Int × List Int)} {v : Int × List Int} {t : Nat} (hv : res t = some v) : ∀ (c k : Nat), k ≤ t → t < k + c → (∀ j, k ≤ j → j < t → res j = none) → fr res c k = some (t, v.2)
  | 0, _, h1, h2, _ => by omega
  | c + 1, k, h1, h2, h => by
    by_cases e : k = t
    · subst e; rw [fr, hv]
    · rw [fr, h k (Nat.le_refl _) (by omega)]
      exact fr_some hv c (k + 1) (by omega) (by omega) (fun j h3 h4 => h j (by omega) h4)
theorem fr_none_inv {res : Nat → Option (Int × List Int)} : ∀ (c k : Nat), fr res c k = none → ∀ j, k ≤ j → j < k + c → res j = none
  | 0, _, _, j, h1, h2 => by omega
  | c + 1, k, h, j, h1, h2 => by
    rw [fr] at h
    cases g : res k with
    | some x => rw [g] at h; cases h
    | none =>
      rw [g] at h
      by_cases e : j = k
      · subst e; exact g
      · exact fr_none_inv c (k + 1) h j (by omega) (by omega)
theorem fr_some_inv {res : Nat → Option (Int × List Int)} {t : Nat} {cs : List Int} : ∀ (c k : Nat), fr res c k = some (t, cs) → t < k + c ∧ ∃ v, res t = some v ∧ v.2 = cs ∧ ∀ j, k ≤ j → j < t → res j = none
  | 0, _, h => by cases h
  | c + 1, k, h => by
    rw [fr] at h
    cases g : res k with
    | some x =>
      rw [g] at h
      cases h
      exact ⟨by omega, x, g, rfl, fun j h1 h2 => by omega⟩
    | none =>
      rw [g] at h
      obtain ⟨h1, v, h2, h3, h4⟩ := fr_some_inv c (k + 1) h
      refine ⟨by omega, v, h2, h3, fun j h5 h6 => ?_⟩
      by_cases e : j = k
      · subst e; exact g
      · exact h4 j (by omega) h6
/-- what each program finds from a place, and what they find side by side -/
theorem beside_res {L : List Pg} {tx : List Int} (h : joinC L = 0) (q : Nat) (hq : q ≤ tx.length) : ∃ res : Nat → Option (Int × List Int), (∀ k, k < L.length → Ev (L.getD k default).l tx [.go (L.getD k default).s.toNat q] (fun _ _ => false) (List.replicate (L.getD k default).k.toNat (-1)) (res k)) ∧ Ev (joinI L) tx [.go (joinS L).toNat q] (fun _ _ => false) (List.replicate (capsTo L L.length).toNat (-1)) ((fr res L.length 0).map fun x => ((x.1 : Int), wide (capsTo L L.length).toNat x.2)) := by
  obtain ⟨h1, h2, hall, h4⟩ := joinC_inv h
  have hm := mayTo_all hall
  have hx : ∀ k, ∃ r, k < L.length → Ev (L.getD k default).l tx [.go (L.getD k default).s.toNat q] (fun _ _ => false) (List.replicate (L.getD k default).k.toNat (-1)) r := fun k => by
    by_cases hk : k < L.length
    · have hmk := may_ok (hm k hk)
      obtain ⟨r, hr⟩ := ev_total (l := (L.getD k default).l) (tx := tx) (k := (L.getD k default).k) (c := (L.getD k default).k.toNat) hmk.2.2.2.2.2 (by omega) _ [.go (L.getD k default).s.toNat q] (fun _ _ => false) (List.replicate (L.getD k default).k.toNat (-1)) (Nat.le_refl _) (fun t ht => by
        obtain rfl := List.mem_singleton.1 ht
        exact ⟨by omega, hq⟩)
      exact ⟨r, fun _ => hr⟩
    · exact ⟨none, fun h => absurd h hk⟩
  obtain ⟨res, hres⟩ := Classical.axiomOfChoice hx
  refine ⟨res, hres, ?_⟩
  obtain ⟨k0, hk0, hc0⟩ := capsTo_one L L.length (by omega) (fun k hk => by have := may_ok (hm k hk); omega)
  have hcp : 0 ≤ capsTo L L.length := by rw [hc0]; have := may_ok (hm k0 hk0); omega
  have hj := join_ev (L := L) (tx := tx) (q := q) (C := (capsTo L L.length).toNat) (res := res) hq hm (by omega) hres (L.length - 1) 0 (fun _ _ => false) (by omega) (fun _ _ _ _ => rfl) (fun _ _ _ => rfl)
  rw [show L.length - 1 + 1 = L.length by omega] at hj
  have hs : (if 0 + 1 = L.length then (entry L 0).toNat else 0) = (joinS L).toNat := by
    unfold joinS
    by_cases e : L.length = 1
    · rw [if_pos (by omega), if_pos e]
      unfold entry
      rw [ahead_zero, show L.length - 1 = 0 by omega]
      simp
    · rw [if_neg (by omega), if_neg e]; rfl
  rw [hs] at hj
  exact hj
abbrev BxF (w : World) (b : Nat) (k : Bool) (v : Value) (i : Int) : Prop := w.heap[b]? = some (.cells #[.bool k, v, .int .i64 i, .int .i64 0] 45 (0, 0))
set_option maxRecDepth 100000 in
set_option maxHeartbeats 32000000 in
theorem beside6 {w : World} {ad tad : Option Addr} {n c tn tc : Nat} {L : List Pg} {tx : List Int} (h : LP w w.heap.size ad n L) (hT : TextAt w.heap.size w tad tn tx) :
    Calls Try.prog 6 #[.slice ad n c, .slice tad tn tc] w fun e w' => e = .returned (.bool true) ∧ Below w.heap.size w w' := by
  have HL := hid h.len
  obtain ⟨B0, hB0⟩ : ∃ B0, B0 = w.heap.size := ⟨_, rfl⟩
  have HLP : Hid (LP w B0 ad n L) := by rw [hB0]; exact h
  have HT : Hid (TextAt B0 w tad tn tx) := by rw [hB0]; exact hT
  have HBE := hid hB0
  have HC := awake7 w
  clear h hT
  go_enter Try.func6, Try.ntmps6
  go_upto_region 2 with (go_at_call 7; (with_reducible refine HC.mono ?_); rintro e U1 ⟨rfl, hb⟩; have HB1 := hid hb; clear hb HC)
  rw [← hB0] at HB1
  clear hB0
  have hs1 : B0 ≤ U1.heap.size := by have := HB1.out.size; have := HBE.out; omega
  have HC := join16 (c := c) (HLP.out.kept HB1.out (B' := U1.heap.size) hs1)
  go_upto_region 3 with (go_at_call 16; (with_reducible refine HC.mono ?_); rintro e W1 ⟨zw, Nw, cw, MSw, rfl, hGw, hb⟩; have HGW := hid hGw; have HBW := hid hb; clear hb hGw HC)
  obtain ⟨U2, hU2⟩ : ∃ U2, U2 = W1.alloc (.cells #[.slice zw Nw cw, .int .i64 (resS L), .int .i64 (resK L)] 24) := ⟨_, rfl⟩
  rw [← hU2]
  obtain ⟨x6, hx6⟩ : ∃ x6, x6 = W1.heap.size := ⟨_, rfl⟩
  have HX6 : Hid (U2.heap[x6]? = some (.cells #[.slice zw Nw cw, .int .i64 (resS L), .int .i64 (resK L)] 24 (0, 0))) := by rw [hU2, hx6]; exact heap_alloc_new W1 _
  rw [← hx6]
  have hb2 : Below U1.heap.size U1 U2 := by rw [hU2]; exact HBW.out.alloc HBW.out.size _
  have HB2 : Hid (Below B0 w U2) := HB1.out.trans (Joins.below_le hb2 hs1)
  have hbW2 : Below W1.heap.size W1 U2 := by rw [hU2]; exact Joins.below_alloc1 W1 _
  obtain ⟨B, hB⟩ : ∃ B, B = U2.heap.size := ⟨_, rfl⟩
  have HW : Hid (PI U2 B zw Nw (resI L)) := HGW.out.pi.2.kept hbW2 (by rw [hB]; exact hbW2.size)
  have hx6B : x6 < B := by rw [hB]; exact (Array.getElem?_eq_some_iff.1 HX6.out).1
  have hB0B : B0 ≤ B := by rw [hB]; have := hb2.size; omega
  have hU2B : U2.heap.size = B := hB.symm
  have HBU := hid hU2B
  have hU2B' : B ≤ U2.heap.size := by omega
  clear hU2 hx6 hb2 hbW2 HGW HBW HB1 hs1 hB hU2B
  by_cases hC0 : joinC L = 0
  rotate_left
  · have g1 : (joinC L != 0) = true := by simpa using hC0
    have g2 : decide (joinC L ≠ 0) = true := by simpa using hC0
    go_wp2
    all_goals go_ret
    all_goals exact ⟨rfl, by rw [← HBE.out]; exact HB2.out⟩
  by_cases ht : 20 < tn
  · have g1 : decide ((20 : Int) < (tn : Int)) = true := by simp; omega
    have g2 : decide ((tn : Int) > 20) = true := by simp; omega
    go_wp2
    all_goals go_ret
    all_goals exact ⟨rfl, by rw [← HBE.out]; exact HB2.out⟩
  have g1 : decide ((20 : Int) < (tn : Int)) = false := by simp; omega
  have g2 : decide ((tn : Int) > 20) = false := by simp; omega
  obtain ⟨r1, r2, r3⟩ := res_ok hC0
  rw [r1] at HW
  rw [r2, r3] at HX6
  rw [r2, r3]
  have hmayJ := join_may hC0
  obtain ⟨hn1, hn100, hall, hsum⟩ := joinC_inv hC0
  rw [← HL.out] at hn1 hn100
  have HMA := hid (mayTo_all hall)
  have hmj := may_ok hmayJ
  obtain ⟨SJ, hSJ⟩ : ∃ SJ : Nat, joinS L = (SJ : Int) := ⟨(joinS L).toNat, by omega⟩
  obtain ⟨C, hCJ⟩ : ∃ C : Nat, capsTo L L.length = (C : Int) := ⟨(capsTo L L.length).toNat, by omega⟩
  have hC1002 : C ≤ 1002 := by omega
  rw [hSJ, hCJ] at HX6 hmayJ
  rw [hSJ, hCJ]
  have HSJ := hid hSJ
  have HCJ := hid hCJ
  have HMJ := hid hmayJ
  have HC0 := hid hC0
  have ht20 : tn ≤ 20 := by omega
  clear hSJ hCJ hmj r1 r2 r3 hall hsum hmayJ ht
  have HC := rcheck9 (c := cw) (s := (SJ : Int)) (k := (C : Int)) (HW.out.kept (Below.refl B U2) hU2B')
  rw [HMJ.out] at HC
  simp only [if_true] at HC
  obtain ⟨a0, a1, a2⟩ := three_cells HX6.out
  rw [hC0]
  clear hC0
  go_upto_region 6 with (go_at_call 9; (with_reducible refine HC.mono ?_); rintro e U3 ⟨rfl, hb⟩; have HB3 := hid hb; clear hb HC)
  clear a0 a1 a2 g1 g2
  rw [HBU.out] at HB3
  go_wp2_with fail
  go_loopw [8, 9] (fun u y wq => ∃ i : Nat, u = .int .i64 0 ∧ y = .int .i64 (i : Int) ∧ i ≤ n ∧ Hid (Below B U2 wq)) (fun _ y _ => n - (intOf y).toNat)
  case atStart => exact ⟨0, rfl, rfl, by omega, HB3.out⟩
  case round =>
    clear HB3
    obtain ⟨i, rfl, rfl, hi, HB3⟩ := hrel
    have hBw : B ≤ wr.heap.size := by have := HB3.out.size; omega
    by_cases hil : i < n
    · have b1 : decide ((i : Int) < (n : Int)) = true := by simp; omega
      have b2 : (i : Int) < (n : Int) := by omega
      have ad1 := wrap_ok ((i : Int) + 1) (by omega) (by omega)
      have hb0 : Below B0 w wr := HB2.out.trans (Joins.below_le HB3.out hB0B)
      obtain ⟨b, o, PA, PN, PC, e, hbl, hcs⟩ := HLP.out.mem (by omega)
      subst e
      obtain ⟨hP3, hPI, hPN⟩ := hcs i hil
      obtain ⟨m0, m1, m2⟩ := hP3.kept (hb0.block b hbl)
      have hmay := HMA.out i (by have := HL.out; omega)
      have HC := rcheck9 (c := PC i) (s := (L.getD i default).s) (k := (L.getD i default).k) (hPI.kept hb0 (B' := wr.heap.size) (by omega))
      rw [hmay] at HC
      simp only [if_true] at HC
      clear hcs hP3 hPI hPN hmay
      generalize PA i = pa at *
      generalize PN i = pn at *
      generalize PC i = pc at *
      generalize (L.getD i default).s = ss at *
      generalize (L.getD i default).k = kk at *
      go_wp2_with (go_at_call 9; (with_reducible refine HC.mono ?_); rintro e w2 ⟨rfl, hb⟩; have HBS := hid hb; clear hb HC)
      exact ⟨⟨i + 1, rfl, by push_cast; rfl, by omega, HB3.out.trans (Joins.below_le HBS.out hBw)⟩, by simp [intOf]; omega⟩
    · have b1 : decide ((i : Int) < (n : Int)) = false := by simp; omega
      obtain rfl : n = i := by omega
      clear hi hil
      go_wp2_with fail
      go_loopw [10] (fun y wq => ∃ a : Nat, y = .int .i64 (a : Int) ∧ a ≤ tn + 1 ∧ Hid (Below B U2 wq)) (fun y _ => tn + 1 - (intOf y).toNat)
      case atStart => exact ⟨0, rfl, by omega, HB3.out⟩
      case round =>
        clear HB3 b1
        obtain ⟨a, rfl, ha, HB3⟩ := hrel
        have hBw' : B ≤ wr.heap.size := by have := HB3.out.size; omega
        by_cases hal : a ≤ tn
        · have b1 : decide ((a : Int) ≤ (tn : Int)) = true := by simp; omega
          have ad1 := wrap_ok ((a : Int) + 1) (by omega) (by omega)
          obtain ⟨res, hres, hJ⟩ := beside_res (tx := tx) HC0.out a (by have := HT.out.1; omega)
          rw [HSJ.out, HCJ.out] at hJ
          simp only [Int.toNat_natCast] at hJ
          have HRES := hid hres
          have hb0 : Below B0 w wr := HB2.out.trans (Joins.below_le HB3.out hB0B)
          have hTw : TextAt wr.heap.size wr tad tn tx := (HT.out.below hb0).mono (by omega)
          have HX6w : Hid (wr.heap[x6]? = some (.cells #[.slice zw Nw cw, .int .i64 (SJ : Int), .int .i64 (C : Int)] 24 (0, 0))) := (HB3.out.block x6 hx6B).trans HX6.out
          obtain ⟨a0, a1, a2⟩ := three_cells HX6w.out
          cases hfr : fr res L.length 0 with
          | none =>
            rw [hfr] at hJ
            have HC := find22 (c := cw) (tc := tc) (HW.out.kept HB3.out (by omega)) HMJ.out hTw ht20 hal hJ
            have HNO : Hid (∀ j, j < n → res j = none) := fun j hj => fr_none_inv L.length 0 hfr j (Nat.zero_le _) (by have := HL.out; omega)
            clear hJ hfr hTw hb0 hres HX6w
            go_upto_region 16 with (go_at_call 22; (with_reducible refine HC.mono ?_); rintro e W2 ⟨rfl, hb⟩; have HBS := hid hb; clear hb HC)
            clear a0 a1 a2
            obtain ⟨V2, hV2⟩ : ∃ V2, V2 = W2.alloc (.cells #[.bool false, .slice none 0 0, .int .i64 0, .int .i64 0] 45) := ⟨_, rfl⟩
            obtain ⟨p11, hp11⟩ : ∃ p11, p11 = W2.heap.size := ⟨_, rfl⟩
            rw [← hV2, ← hp11]
            have HX11 : Hid (BxF V2 p11 false (.slice none 0 0) 0) := by rw [hV2, hp11]; exact heap_alloc_new W2 _
            have hbV : Below wr.heap.size wr V2 := by rw [hV2]; exact HBS.out.alloc HBS.out.size _
            have HB4 : Hid (Below B U2 V2) := HB3.out.trans (Joins.below_le hbV hBw')
            clear hV2 hp11 hbV HBS HB3 hBw'
            go_wp2_with fail
            go_loopw [12, 13, 14] (fun u12 u13 y wq => ∃ i : Nat, u12 = .int .i64 (-1) ∧ u13 = .slice none 0 0 ∧ y = .int .i64 (i : Int) ∧ i ≤ n ∧ Hid (BxF wq p11 false (.slice none 0 0) 0) ∧ Hid (Below B U2 wq)) (fun _ _ y _ => n - (intOf y).toNat)
            case atStart => exact ⟨0, rfl, rfl, rfl, by omega, HX11.out, HB4.out⟩
            case round =>
              clear HX11 HB4
              obtain ⟨i, rfl, rfl, rfl, hi, HX11, HB3⟩ := hrel
              have hBw : B ≤ wr.heap.size := by have := HB3.out.size; omega
              by_cases hil : i < n
              · have b1 : decide ((i : Int) < (n : Int)) = true := by simp; omega
                have b2 : (i : Int) < (n : Int) := by omega
                have ad2 := wrap_ok ((i : Int) + 1) (by omega) (by omega)
                have hb0 : Below B0 w wr := HB2.out.trans (Joins.below_le HB3.out hB0B)
                obtain ⟨b, o, PA, PN, PC, e, hbl, hcs⟩ := HLP.out.mem (by omega)
                obtain ⟨hP3, hPI, hPN⟩ := hcs i hil
                obtain ⟨m0, m1, m2⟩ := hP3.kept (hb0.block b hbl)
                have hmay := HMA.out i (by have := HL.out; omega)
                have hmi := may_ok hmay
                obtain ⟨Si, hSi⟩ : ∃ Si : Nat, (L.getD i default).s = (Si : Int) := ⟨(L.getD i default).s.toNat, by omega⟩
                obtain ⟨Ki, hKi⟩ : ∃ Ki : Nat, (L.getD i default).k = (Ki : Int) := ⟨(L.getD i default).k.toNat, by omega⟩
                have hei := HRES.out i (by have := HL.out; omega)
                rw [hSi] at m1 hmay hei
                rw [hKi] at m2 hmay hei
                simp only [Int.toNat_natCast] at hei
                rw [HNO.out i hil] at hei
                have hTi : TextAt wr.heap.size wr tad tn tx := (HT.out.below hb0).mono (by omega)
                have HC := find22 (c := PC i) (tc := tc) (hPI.kept hb0 (B' := wr.heap.size) (by omega)) hmay hTi ht20 hal hei
                subst e
                clear hcs hP3 hPI hPN hmay hmi hei hTi hb0 hSi hKi
                generalize PA i = pa at *
                generalize PN i = pn at *
                generalize PC i = pc at *
                go_upto_region 22 with (go_at_call 22; (with_reducible refine HC.mono ?_); rintro e W3 ⟨rfl, hb⟩; have HBS := hid hb; clear hb HC)
                obtain ⟨V3, hV3⟩ : ∃ V3, V3 = W3.alloc (.cells #[.bool false, .slice none 0 0, .int .i64 0, .int .i64 0] 45) := ⟨_, rfl⟩
                obtain ⟨p15, hp15⟩ : ∃ p15, p15 = W3.heap.size := ⟨_, rfl⟩
                rw [← hV3, ← hp15]
                have hX15 : BxF V3 p15 false (.slice none 0 0) 0 := by rw [hV3, hp15]; exact heap_alloc_new W3 _
                have HBV : Hid (Below wr.heap.size wr V3) := by rw [hV3]; exact HBS.out.alloc HBS.out.size _
                have k0 := Joins.cell_of_block hX15 0
                clear hV3 hp15 hX15 HBS m0 m1 m2
                go_wp2
                exact ⟨⟨i + 1, rfl, rfl, by push_cast; rfl, by omega, (HBV.out.block p11 (Array.getElem?_eq_some_iff.1 HX11.out).1).trans HX11.out, HB3.out.trans (Joins.below_le HBV.out hBw)⟩, by simp [intOf]; omega⟩
              · have b1 : decide ((i : Int) < (n : Int)) = false := by simp; omega
                obtain rfl : n = i := by omega
                have k0 := Joins.cell_of_block HX11.out 0
                go_wp2
                exact ⟨⟨a + 1, by push_cast; rfl, by omega, HB3.out⟩, by simp [intOf]; omega⟩
          | some y =>
            obtain ⟨t, cs⟩ := y
            rw [hfr] at hJ
            obtain ⟨ht1, v, hv, hvc, hbef⟩ := fr_some_inv L.length 0 hfr
            subst hvc
            have htn : t < n := by have := HL.out; omega
            have hvl : v.2.length ≤ C := by
              have h1 := ev_len (hres t (by have := HL.out; omega)) v hv
              have h2 := capsTo_le L L.length t (by have := HL.out; omega)
              have h3 := HCJ.out
              rw [List.length_replicate] at h1
              omega
            obtain ⟨lv, hlv⟩ : ∃ lv, lv = v.2.length := ⟨_, rfl⟩
            have HLV := hid hlv
            have hlvC : lv ≤ C := by omega
            have hwl : (wide C v.2).length = C := by unfold wide; rw [List.length_append, List.length_replicate]; omega
            have HC := find22 (c := cw) (tc := tc) (HW.out.kept HB3.out (by omega)) HMJ.out hTw ht20 hal hJ
            have HNO : Hid (∀ j, j < t → res j = none) := fun j hj => hbef j (Nat.zero_le _) hj
            have HV := hid hv
            have HWL := hid hwl
            clear hlv
            clear hJ hfr hTw hb0 hres HX6w hv hbef
            go_upto_region 16 with (go_at_call 22; (with_reducible refine HC.mono ?_); rintro e W2 ⟨gx, rfl, hrow, hb⟩; have HBS := hid hb; have HROW := hid hrow; clear hb hrow HC)
            clear a0 a1 a2
            have hrow := HROW.out
            try dsimp only at hrow
            rw [hwl] at hrow
            try dsimp only
            try rw [hwl]
            clear hwl
            obtain ⟨V2, hV2⟩ : ∃ V2, V2 = W2.alloc (.cells #[.bool true, .slice (some ⟨gx, 0, none⟩) C C, .int .i64 (t : Int), .int .i64 0] 45) := ⟨_, rfl⟩
            obtain ⟨p11, hp11⟩ : ∃ p11, p11 = W2.heap.size := ⟨_, rfl⟩
            rw [← hV2, ← hp11]
            have HX11 : Hid (BxF V2 p11 true (.slice (some ⟨gx, 0, none⟩) C C) (t : Int)) := by rw [hV2, hp11]; exact heap_alloc_new W2 _
            have hbV : Below wr.heap.size wr V2 := by rw [hV2]; exact HBS.out.alloc HBS.out.size _
            have HB4 : Hid (Below B U2 V2) := HB3.out.trans (Joins.below_le hbV hBw')
            have HRX : Hid (V2.ownsRow B 3 1 (.slice (some ⟨gx, 0, none⟩) C C) C ((wide C v.2).map (Value.int .i64))) := by rw [hV2]; exact (hrow.mono hBw').alloc _
            clear hV2 hp11 hbV HBS HB3 hBw' hrow HROW
            go_wp2_with fail
            go_loopw [12, 13, 14] (fun u12 u13 y wq => ∃ i : Nat, y = .int .i64 (i : Int) ∧ i ≤ n ∧ ((u12 = .int .i64 (-1) ∧ u13 = .slice none 0 0 ∧ i ≤ t) ∨ (∃ g : Nat, u12 = .int .i64 (t : Int) ∧ u13 = .slice (some ⟨g, 0, none⟩) lv lv ∧ i = t + 1 ∧ Hid (wq.ownsRow B 3 1 (.slice (some ⟨g, 0, none⟩) lv lv) lv (v.2.map (Value.int .i64))))) ∧ Hid (BxF wq p11 true (.slice (some ⟨gx, 0, none⟩) C C) (t : Int)) ∧ Hid (wq.ownsRow B 3 1 (.slice (some ⟨gx, 0, none⟩) C C) C ((wide C v.2).map (Value.int .i64))) ∧ Hid (Below B U2 wq)) (fun _ _ y _ => n - (intOf y).toNat)
            case atStart => exact ⟨0, rfl, by omega, .inl ⟨rfl, rfl, by omega⟩, HX11.out, HRX.out, HB4.out⟩
            case round =>
              clear HX11 HB4 HRX
              obtain ⟨i, rfl, hi, hor, HX11, HRX, HB3⟩ := hrel
              have hBw : B ≤ wr.heap.size := by have := HB3.out.size; omega
              rcases hor with ⟨rfl, rfl, hit⟩ | ⟨g, rfl, rfl, hit, HRG⟩
              · have hil : i < n := by omega
                have b1 : decide ((i : Int) < (n : Int)) = true := by simp; omega
                have b2 : (i : Int) < (n : Int) := by omega
                have ad2 := wrap_ok ((i : Int) + 1) (by omega) (by omega)
                by_cases hlt : i < t
                · have hno := HNO.out i hlt
                  have hb0 : Below B0 w wr := HB2.out.trans (Joins.below_le HB3.out hB0B)
                  obtain ⟨b, o, PA, PN, PC, e, hbl, hcs⟩ := HLP.out.mem (by omega)
                  obtain ⟨hP3, hPI, hPN⟩ := hcs i hil
                  obtain ⟨m0, m1, m2⟩ := hP3.kept (hb0.block b hbl)
                  have hmay := HMA.out i (by have := HL.out; omega)
                  have hmi := may_ok hmay
                  obtain ⟨Si, hSi⟩ : ∃ Si : Nat, (L.getD i default).s = (Si : Int) := ⟨(L.getD i default).s.toNat, by omega⟩
                  obtain ⟨Ki, hKi⟩ : ∃ Ki : Nat, (L.getD i default).k = (Ki : Int) := ⟨(L.getD i default).k.toNat, by omega⟩
                  have hei := HRES.out i (by have := HL.out; omega)
                  rw [hSi] at m1 hmay hei
                  rw [hKi] at m2 hmay hei
                  simp only [Int.toNat_natCast] at hei
                  rw [hno] at hei
                  have hTi : TextAt wr.heap.size wr tad tn tx := (HT.out.below hb0).mono (by omega)
                  have HC := find22 (c := PC i) (tc := tc) (hPI.kept hb0 (B' := wr.heap.size) (by omega)) hmay hTi ht20 hal hei
                  subst e
                  clear hcs hP3 hPI hPN hmay hmi hei hTi hb0 hSi hKi
                  generalize PA i = pa at *
                  generalize PN i = pn at *
                  generalize PC i = pc at *
                  go_upto_region 22 with (go_at_call 22; (with_reducible refine HC.mono ?_); rintro e W3 ⟨rfl, hb⟩; have HBS := hid hb; clear hb HC)
                  obtain ⟨V3, hV3⟩ : ∃ V3, V3 = W3.alloc (.cells #[.bool false, .slice none 0 0, .int .i64 0, .int .i64 0] 45) := ⟨_, rfl⟩
                  obtain ⟨p15, hp15⟩ : ∃ p15, p15 = W3.heap.size := ⟨_, rfl⟩
                  rw [← hV3, ← hp15]
                  have hX15 : BxF V3 p15 false (.slice none 0 0) 0 := by rw [hV3, hp15]; exact heap_alloc_new W3 _
                  have HBV : Hid (Below wr.heap.size wr V3) := by rw [hV3]; exact HBS.out.alloc HBS.out.size _
                  have k0 := Joins.cell_of_block hX15 0
                  clear hV3 hp15 hX15 HBS m0 m1 m2
                  go_wp2
                  exact ⟨⟨i + 1, by push_cast; rfl, by omega, .inl ⟨rfl, rfl, by omega⟩, (HBV.out.block p11 (Array.getElem?_eq_some_iff.1 HX11.out).1).trans HX11.out, row_kept HRX.out (fun b hb => HBV.out.block b (HRX.out.lt b hb).2), HB3.out.trans (Joins.below_le HBV.out hBw)⟩, by simp [intOf]; omega⟩
                · obtain rfl : i = t := by omega
                  have hb0 : Below B0 w wr := HB2.out.trans (Joins.below_le HB3.out hB0B)
                  obtain ⟨b, o, PA, PN, PC, e, hbl, hcs⟩ := HLP.out.mem (by omega)
                  obtain ⟨hP3, hPI, hPN⟩ := hcs i hil
                  obtain ⟨m0, m1, m2⟩ := hP3.kept (hb0.block b hbl)
                  have hmay := HMA.out i (by have := HL.out; omega)
                  have hmi := may_ok hmay
                  obtain ⟨Si, hSi⟩ : ∃ Si : Nat, (L.getD i default).s = (Si : Int) := ⟨(L.getD i default).s.toNat, by omega⟩
                  obtain ⟨Ki, hKi⟩ : ∃ Ki : Nat, (L.getD i default).k = (Ki : Int) := ⟨(L.getD i default).k.toNat, by omega⟩
                  have hei := HRES.out i (by have := HL.out; omega)
                  rw [hSi] at m1 hmay hei
                  rw [hKi] at m2 hmay hei
                  simp only [Int.toNat_natCast] at hei
                  rw [HV.out] at hei
                  have hTi : TextAt wr.heap.size wr tad tn tx := (HT.out.below hb0).mono (by omega)
                  have HC := find22 (c := PC i) (tc := tc) (hPI.kept hb0 (B' := wr.heap.size) (by omega)) hmay hTi ht20 hal hei
                  subst e
                  clear hcs hP3 hPI hPN hmay hmi hei hTi hb0 hSi hKi
                  generalize PA i = pa at *
                  generalize PN i = pn at *
                  generalize PC i = pc at *
                  go_upto_region 22 with (go_at_call 22; (with_reducible refine HC.mono ?_); rintro e W3 ⟨gv, rfl, hrow, hb⟩; have HBS := hid hb; have HROW := hid hrow; clear hb hrow HC)
                  have hrowv := HROW.out
                  rw [← HLV.out] at hrowv ⊢
                  clear HROW
                  obtain ⟨V3, hV3⟩ : ∃ V3, V3 = W3.alloc (.cells #[.bool true, .slice (some ⟨gv, 0, none⟩) lv lv, .int .i64 v.1, .int .i64 0] 45) := ⟨_, rfl⟩
                  obtain ⟨p15, hp15⟩ : ∃ p15, p15 = W3.heap.size := ⟨_, rfl⟩
                  rw [← hV3, ← hp15]
                  have hX15 : BxF V3 p15 true (.slice (some ⟨gv, 0, none⟩) lv lv) v.1 := by rw [hV3, hp15]; exact heap_alloc_new W3 _
                  have HBV : Hid (Below wr.heap.size wr V3) := by rw [hV3]; exact HBS.out.alloc HBS.out.size _
                  have HRG : Hid (V3.ownsRow B 3 1 (.slice (some ⟨gv, 0, none⟩) lv lv) lv (v.2.map (Value.int .i64))) := by rw [hV3]; exact (hrowv.mono hBw).alloc _
                  have k0 := Joins.cell_of_block hX15 0
                  have k1 := Joins.cell_of_block hX15 1
                  clear hV3 hp15 hX15 HBS m0 m1 m2 hrowv
                  go_wp2
                  exact ⟨⟨i + 1, by push_cast; rfl, by omega, .inr ⟨gv, rfl, rfl, rfl, HRG.out⟩, (HBV.out.block p11 (Array.getElem?_eq_some_iff.1 HX11.out).1).trans HX11.out, row_kept HRX.out (fun b hb => HBV.out.block b (HRX.out.lt b hb).2), HB3.out.trans (Joins.below_le HBV.out hBw)⟩, by simp [intOf]; omega⟩
              · have f0 := Joins.cell_of_block HX11.out 0
                have f1 := Joins.cell_of_block HX11.out 1
                have f2 := Joins.cell_of_block HX11.out 2
                have HX6w : Hid (wr.heap[x6]? = some (.cells #[.slice zw Nw cw, .int .i64 (SJ : Int), .int .i64 (C : Int)] 24 (0, 0))) := (HB3.out.block x6 hx6B).trans HX6.out
                have f6 := (three_cells HX6w.out).2.2
                have b3 : decide ((t : Int) < 0) = false := by simp
                have b4 : decide ((t : Int) ≥ 0) = true := by simp
                have b5 : decide ((0 : Int) ≤ (t : Int)) = true := by simp
                by_cases hil : i < n
                · have b1 : decide ((i : Int) < (n : Int)) = true := by simp; omega
                  go_wp2_with fail
                  clear f0 f1 f2 f6 b1 b3 b4 b5
                  go_loopw [16] (fun y wq => ∃ j : Nat, y = .int .i64 (j : Int) ∧ j ≤ C ∧ Hid (BxF wq p11 true (.slice (some ⟨gx, 0, none⟩) C C) (t : Int)) ∧ Hid (wq.ownsRow B 3 1 (.slice (some ⟨gx, 0, none⟩) C C) C ((wide C v.2).map (Value.int .i64))) ∧ Hid (wq.ownsRow B 3 1 (.slice (some ⟨g, 0, none⟩) lv lv) lv (v.2.map (Value.int .i64))) ∧ Hid (Below B U2 wq)) (fun y _ => C - (intOf y).toNat)
                  case atStart => exact ⟨0, rfl, by omega, HX11.out, HRX.out, HRG.out, HB3.out⟩
                  case round =>
                    clear HX11 HRX HRG HB3 HX6w hBw
                    obtain ⟨j, rfl, hj, HX11, HRX, HRG, HB3⟩ := hrel
                    have f1 := Joins.cell_of_block HX11.out 1
                    by_cases hjC : j < C
                    · have b1 : decide ((j : Int) < (C : Int)) = true := by simp; omega
                      have b2 : (j : Int) < (C : Int) := by omega
                      have ad3 := wrap_ok ((j : Int) + 1) (by omega) (by omega)
                      by_cases hjv : j < lv
                      · have b3 : decide ((j : Int) < (lv : Int)) = true := by simp; omega
                        have b4 : (j : Int) < (lv : Int) := by omega
                        have b5 : decide ((j : Int) ≥ (lv : Int)) = false := by simp; omega
                        have b6 : decide ((lv : Int) ≤ (j : Int)) = false := by simp; omega
                        have hjv' : j < v.2.length := by rw [← HLV.out]; exact hjv
                        have hw : (wide C v.2)[j]? = some v.2[j] := by unfold wide; rw [List.getElem?_append_left hjv', List.getElem?_eq_getElem hjv']
                        have k0 : wr.cell? ⟨gx, j, none⟩ = some (.int .i64 v.2[j]) := by rw [HRX.out.cellAt j (by omega), List.getElem?_map, hw]; rfl
                        have k1 : wr.cell? ⟨g, j, none⟩ = some (.int .i64 v.2[j]) := by rw [HRG.out.cellAt j (by omega), List.getElem?_map, List.getElem?_eq_getElem hjv']; rfl
                        generalize v.2[j] = vj at k0 k1
                        clear hw hjv'
                        have n1 : (vj != vj) = false := by simp
                        have n2 : decide (vj ≠ vj) = false := by simp
                        have hgx := (HRX.out.lt gx rfl).2
                        have hgg := (HRG.out.lt g rfl).2
                        go_upto_region 33 with fail
                        have b7 : ¬ (lv ≤ j) := by omega
                        have b8 : ¬ ((lv : Int) ≤ (j : Int)) := by omega
                        go_big_quiet (fail)
                        go_wp2
                        exact ⟨⟨j + 1, by push_cast; rfl, by omega, HX11.out, row_kept HRX.out (fun b hb => rfl), row_kept HRG.out (fun b hb => rfl), below_drewN' HB3.out _⟩, by simp [intOf]; omega⟩
                      · have b3 : decide ((j : Int) < (lv : Int)) = false := by simp; omega
                        have b5 : decide ((j : Int) ≥ (lv : Int)) = true := by simp; omega
                        have b6 : decide ((lv : Int) ≤ (j : Int)) = true := by simp; omega
                        have hlv2 := HLV.out
                        have hw : (wide C v.2)[j]? = some (-1) := by unfold wide; rw [List.getElem?_append_right (by omega), List.getElem?_replicate, if_pos (by omega)]
                        clear hlv2
                        have k0 : wr.cell? ⟨gx, j, none⟩ = some (.int .i64 (-1)) := by rw [HRX.out.cellAt j (by omega), List.getElem?_map, hw]; rfl
                        clear hw
                        have hgx := (HRX.out.lt gx rfl).2
                        go_upto_region 33 with fail
                        have b7 : lv ≤ j := by omega
                        have b8 : (lv : Int) ≤ (j : Int) := by omega
                        go_big_quiet (fail)
                        go_wp2
                        exact ⟨⟨j + 1, by push_cast; rfl, by omega, HX11.out, row_kept HRX.out (fun b hb => rfl), row_kept HRG.out (fun b hb => rfl), below_drewN' HB3.out _⟩, by simp [intOf]; omega⟩
                    · have b1 : decide ((j : Int) < (C : Int)) = false := by simp; omega
                      go_wp2
                      exact ⟨⟨a + 1, by push_cast; rfl, by omega, HB3.out⟩, by simp [intOf]; omega⟩
                · have b1 : decide ((i : Int) < (n : Int)) = false := by simp; omega
                  go_wp2_with fail
                  clear f0 f1 f2 f6 b1 b3 b4 b5
                  go_loopw [16] (fun y wq => ∃ j : Nat, y = .int .i64 (j : Int) ∧ j ≤ C ∧ Hid (BxF wq p11 true (.slice (some ⟨gx, 0, none⟩) C C) (t : Int)) ∧ Hid (wq.ownsRow B 3 1 (.slice (some ⟨gx, 0, none⟩) C C) C ((wide C v.2).map (Value.int .i64))) ∧ Hid (wq.ownsRow B 3 1 (.slice (some ⟨g, 0, none⟩) lv lv) lv (v.2.map (Value.int .i64))) ∧ Hid (Below B U2 wq)) (fun y _ => C - (intOf y).toNat)
                  case atStart => exact ⟨0, rfl, by omega, HX11.out, HRX.out, HRG.out, HB3.out⟩
                  case round =>
                    clear HX11 HRX HRG HB3 HX6w hBw
                    obtain ⟨j, rfl, hj, HX11, HRX, HRG, HB3⟩ := hrel
                    have f1 := Joins.cell_of_block HX11.out 1
                    by_cases hjC : j < C
                    · have b1 : decide ((j : Int) < (C : Int)) = true := by simp; omega
                      have b2 : (j : Int) < (C : Int) := by omega
                      have ad3 := wrap_ok ((j : Int) + 1) (by omega) (by omega)
                      by_cases hjv : j < lv
                      · have b3 : decide ((j : Int) < (lv : Int)) = true := by simp; omega
                        have b4 : (j : Int) < (lv : Int) := by omega
                        have b5 : decide ((j : Int) ≥ (lv : Int)) = false := by simp; omega
                        have b6 : decide ((lv : Int) ≤ (j : Int)) = false := by simp; omega
                        have hjv' : j < v.2.length := by rw [← HLV.out]; exact hjv
                        have hw : (wide C v.2)[j]? = some v.2[j] := by unfold wide; rw [List.getElem?_append_left hjv', List.getElem?_eq_getElem hjv']
                        have k0 : wr.cell? ⟨gx, j, none⟩ = some (.int .i64 v.2[j]) := by rw [HRX.out.cellAt j (by omega), List.getElem?_map, hw]; rfl
                        have k1 : wr.cell? ⟨g, j, none⟩ = some (.int .i64 v.2[j]) := by rw [HRG.out.cellAt j (by omega), List.getElem?_map, List.getElem?_eq_getElem hjv']; rfl
                        generalize v.2[j] = vj at k0 k1
                        clear hw hjv'
                        have n1 : (vj != vj) = false := by simp
                        have n2 : decide (vj ≠ vj) = false := by simp
                        have hgx := (HRX.out.lt gx rfl).2
                        have hgg := (HRG.out.lt g rfl).2
                        go_upto_region 33 with fail
                        have b7 : ¬ (lv ≤ j) := by omega
                        have b8 : ¬ ((lv : Int) ≤ (j : Int)) := by omega
                        go_big_quiet (fail)
                        go_wp2
                        exact ⟨⟨j + 1, by push_cast; rfl, by omega, HX11.out, row_kept HRX.out (fun b hb => rfl), row_kept HRG.out (fun b hb => rfl), below_drewN' HB3.out _⟩, by simp [intOf]; omega⟩
                      · have b3 : decide ((j : Int) < (lv : Int)) = false := by simp; omega
                        have b5 : decide ((j : Int) ≥ (lv : Int)) = true := by simp; omega
                        have b6 : decide ((lv : Int) ≤ (j : Int)) = true := by simp; omega
                        have hlv2 := HLV.out
                        have hw : (wide C v.2)[j]? = some (-1) := by unfold wide; rw [List.getElem?_append_right (by omega), List.getElem?_replicate, if_pos (by omega)]
                        clear hlv2
                        have k0 : wr.cell? ⟨gx, j, none⟩ = some (.int .i64 (-1)) := by rw [HRX.out.cellAt j (by omega), List.getElem?_map, hw]; rfl
                        clear hw
                        have hgx := (HRX.out.lt gx rfl).2
                        go_upto_region 33 with fail
                        have b7 : lv ≤ j := by omega
                        have b8 : (lv : Int) ≤ (j : Int) := by omega
                        go_big_quiet (fail)
                        go_wp2
                        exact ⟨⟨j + 1, by push_cast; rfl, by omega, HX11.out, row_kept HRX.out (fun b hb => rfl), row_kept HRG.out (fun b hb => rfl), below_drewN' HB3.out _⟩, by simp [intOf]; omega⟩
                    · have b1 : decide ((j : Int) < (C : Int)) = false := by simp; omega
                      go_wp2
                      exact ⟨⟨a + 1, by push_cast; rfl, by omega, HB3.out⟩, by simp [intOf]; omega⟩
        · have b1 : decide ((a : Int) ≤ (tn : Int)) = false := by simp; omega
          go_wp2
          all_goals go_ret
          all_goals exact ⟨rfl, by rw [← HBE.out]; exact HB2.out.trans (Joins.below_le HB3.out hB0B)⟩
end Go.Proofs.Ytnecakampgdhcaa
namespace Go.Proofs.Ytnecakampgdhcaa
open Go.ChangeShapes Go.WideShapes Go.ChangeAt Go.RowKit
set_option linter.unusedVariables false
set_option linter.unusedSimpArgs false
set_option maxRecDepth 100000 in
theorem besideLifted (os : Os) (started : os.Started) (H : Type) (enc : TypeId × Value → H) :
    ReturnsInHanded {} Try.checked os 6 .any (Rows.progBesideSpec.pre6 enc Try.prog Try.f6 Rows.progBesideRow.domain false) (Rows.progBesideSpec.post enc Try.prog Try.f6 false true false false) := by
  refine returnsInHanded_of_change_sized (C := Try.checked) ownB started (by kernel_rfl) Try.func6
    (ChangeSpec.witness6 (enc := enc) (C := Try.checked) false ⟨#[], #[.slice none 0 0, .slice none 0 0], []⟩ 8 (by kernel_rfl) (by kernel_rfl) (by kernel_rfl) (by kernel_rfl)) ?_
  intro W base args ds gs before hval0 hW hcnd0 hsz0 hholds
  have hval : ∀ (j : Nat) t v, Try.f6.params[j]? = some t → args[j]? = some v → Value.okWide Try.prog W .any base t v := hval0
  have hW' := hW
  obtain ⟨p, q, hA0, hV, rfl, hfz, hnd⟩ := hW
  have hA : DataW.TrodAll enc Try.prog W 0 (fun _ => true) true Try.f6.params.toList args.toList ds p := hA0
  have hsz : ∀ n ∈ DataW.weightsEach Try.prog (Try.f6.params.toList ++ Rows.progBesideSpec.plain.varTypes Try.prog) (ds ++ gs), n ≤ reachBytes := fun n hn => by simpa using List.all_eq_true.1 hsz0 n hn
  rw [Try.params6] at hA hval hsz
  obtain ⟨v0, vs0, d0, ds0, p0, q0, hargs, rfl, rfl, h0, r0⟩ := trodAll_cons hA
  obtain ⟨v1, vs1, d1, ds1, p1, q1, rfl, rfl, rfl, h1, r1⟩ := trodAll_cons r0
  obtain ⟨rfl, rfl, rfl⟩ := trodAll_nil r1
  obtain rfl : args = #[v0, v1] := by cases args; simp_all
  obtain ⟨rfl, rfl⟩ := trodVars_none hV
  have hlt0 : ∀ x ∈ p0, x.block < W.heap.size := fun x hx => by have := hW'.lt x (by simp [hx]); simpa using this
  have hlt1 : ∀ x ∈ p1, x.block < W.heap.size := fun x hx => by have := hW'.lt x (by simp [hx]); simpa using this
  obtain ⟨ad, n, c, L, rfl, hn, hP⟩ := progs_arg (hval 0 32 v0 rfl rfl) h0 (fun n hn => hsz n (DataW.weights_mem_each (j := 0) (by simp) (by simp) n hn))
  obtain ⟨tx, tad, tn, tc, rfl, hT⟩ := text_arg (hval 1 43 v1 rfl rfl) h1 (fun n hn => hsz n (DataW.weights_mem_each (j := 1) (by simp) (by simp) n hn))
  clear hA0 hval0
  refine (beside6 hP hT).mono fun e W' ⟨he, hb⟩ => ?_
  subst he
  exact ⟨_, rfl, _, _, _, [], p0 ++ (p1 ++ []), [], hW', trodAll_cons_mk (shut_bool Try.underlying4 _) trodAll_mk0, trodAll_cons_mk (Below.trod laidOut (by kernel_rfl) (of_decide_eq_true (by kernel_rfl)) h0 hb hlt0) (trodAll_cons_mk (Below.trod laidOut (by kernel_rfl) (of_decide_eq_true (by kernel_rfl)) h1 hb hlt1) trodAll_mk0), rfl, hb.frame _, fun h => by cases h⟩
theorem progBeside_holds : Rows.ProgBesideSaid :=
  OpenClaim.holds_of_wide 6 Try.f6 rfl rfl rfl rfl rfl rfl rfl ⟨rfl, rfl, rfl, rfl, rfl⟩ rfl rfl rfl rfl rfl (by kernel_rfl) Try.func6 (by kernel_rfl)
    (of_decide_eq_true (by kernel_rfl)) (by unfold Func.isWrapper; first | (rw [if_pos (by decide +kernel)]; kernel_rfl) | (rw [if_neg (by decide +kernel)]; exact ⟨rfl, rfl⟩))
    (fun os started H enc _ => besideLifted os started H enc)
end Go.Proofs.Ytnecakampgdhcaa
