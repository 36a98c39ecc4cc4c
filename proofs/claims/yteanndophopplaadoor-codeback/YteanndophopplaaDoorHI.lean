/- HELPERS: the document's Load: where the sum is right. -/
import Derived.Test.YteanndophopplaaDoorHB
import Derived.Test.YteanndophopplaaDoorCF
import Derived.Test.YteanndophopplaaDoorSc
import Derived.Test.YteanndophopplaaDoorGB
/- HELPERS: the document's Load. -/
namespace Go.Proofs.YteanndophopplaaDoor
open Go.RowKit
set_option linter.unusedVariables false
set_option linter.unusedSimpArgs false
/-- the walk of the document's Load: the boxes -/
structure LD (w V : World) (rb pb : Nat) (l : List Nat) (a : Option Addr) (c : Nat) (m : Option (List Nat)) (v0 v1 v2 : Value) : Prop where
  er : rb = w.heap.size + 1
  ep : pb = w.heap.size + 2
  res : B3 V w.heap.size nilS zI zI
  p : B3 V pb v0 v1 v2
  st : SB w.heap.size rb l a c V m
  be : Below w.heap.size w V
theorem LD.lt {w V : World} {rb pb : Nat} {l : List Nat} {a : Option Addr} {c : Nat} {m : Option (List Nat)} {v0 v1 v2 : Value} (h : LD w V rb pb l a c m v0 v1 v2) : w.heap.size + 2 < V.heap.size := by have := h.ep; have := (Array.getElem?_eq_some_iff.1 h.p).1; omega
theorem LD.mo {w V V' : World} {rb pb : Nat} {l : List Nat} {a : Option Addr} {c : Nat} {m m' : Option (List Nat)} {v0 v1 v2 : Value} (h : LD w V rb pb l a c m v0 v1 v2) (hm : Mo V V' rb) (hs : SB w.heap.size rb l a c V' m') : LD w V' rb pb l a c m' v0 v1 v2 := by
  have := h.lt
  have := h.er
  have := h.ep
  exact ⟨h.er, h.ep, (hm.block _ (by omega) (by omega)).trans h.res, (hm.block _ (by omega) (by omega)).trans h.p, hs, h.be.trans (hm.below (by omega) (by omega))⟩
theorem LD.set {w V : World} {rb pb : Nat} {l : List Nat} {a : Option Addr} {c : Nat} {m : Option (List Nat)} {v0 v1 v2 u0 u1 u2 : Value} {i : Nat} {v : Value} (h : LD w V rb pb l a c m v0 v1 v2) (hp : B3 (V.setCell ⟨pb, i, none⟩ v) pb u0 u1 u2) : LD w (V.setCell ⟨pb, i, none⟩ v) rb pb l a c m u0 u1 u2 := by
  have e1 := h.er
  have e2 := h.ep
  exact ⟨h.er, h.ep, (Below.heap_setCell _ _ _ _ (show w.heap.size ≠ pb by omega)).trans h.res, hp, (drd_b (by omega)).kept _ _ _ h.st (Below.heap_setCell _ _ _ _ (show rb ≠ pb by omega)) (fun b hb => Below.heap_setCell _ _ _ _ (show b ≠ pb by omega)), h.be.setCell (by show w.heap.size ≤ pb; omega) v⟩
theorem LD.set2 {w V : World} {rb pb : Nat} {l : List Nat} {a : Option Addr} {c : Nat} {m : Option (List Nat)} {v0 v1 v2 : Value} (h : LD w V rb pb l a c m v0 v1 v2) (v : Value) : LD w (V.setCell ⟨pb, 2, none⟩ v) rb pb l a c m v0 v1 v := h.set (Joins.block_setCell h.p v)
theorem LD.set1 {w V : World} {rb pb : Nat} {l : List Nat} {a : Option Addr} {c : Nat} {m : Option (List Nat)} {v0 v1 v2 : Value} (h : LD w V rb pb l a c m v0 v1 v2) (v : Value) : LD w (V.setCell ⟨pb, 1, none⟩ v) rb pb l a c m v0 v v2 := h.set (Joins.block_setCell h.p v)
theorem LD.set0 {w V : World} {rb pb : Nat} {l : List Nat} {a : Option Addr} {c : Nat} {m : Option (List Nat)} {v0 v1 v2 : Value} (h : LD w V rb pb l a c m v0 v1 v2) (v : Value) : LD w (V.setCell ⟨pb, 0, none⟩ v) rb pb l a c m v v1 v2 := h.set (Joins.block_setCell h.p v)
theorem LD.old {w V V' : World} {rb pb : Nat} {l : List Nat} {a : Option Addr} {c : Nat} {m : Option (List Nat)} {v0 v1 v2 : Value} (h : LD w V rb pb l a c m v0 v1 v2) (hk : ∀ b, b < w.heap.size + 3 → V'.heap[b]? = V.heap[b]?) (hb : Below w.heap.size w V') : LD w V' rb pb l a c m v0 v1 v2 := by
  have e1 := h.er
  have e2 := h.ep
  exact ⟨h.er, h.ep, (hk _ (by omega)).trans h.res, (hk _ (by omega)).trans h.p, (drd_b (by omega)).kept _ _ _ h.st (hk _ (by omega)) (fun b hb => hk b (by omega)), hb⟩
theorem res18 (tmps : Array Value) (w : World) (tb : Nat) (v0 v1 v2 ev : Value) (h2 : tmps.getD 2 undef = .pointer (some ⟨tb, 0, none⟩)) (h3 : tmps.getD 3 undef = ev) (ht : B3 w tb v0 v1 v2) :
    (results Tryd.f18 tmps).run Tryd.prog w = .ok (.tuple #[.agg #[v0, v1, v2], ev]) w := by
  have h24 : (Tryd.prog.info? 24).map (fun i => i.size) = some (#[v0, v1, v2] : Array Value).size := by kernel_rfl
  have hl := run_loadVar_row (P := Tryd.prog) w tb 24 24 #[v0, v1, v2] (0, 0) _ ht Tryd.underlying24 rfl h24
  have h2' : tmps[2]?.getD undef = .pointer (some ⟨tb, 0, none⟩) := by simpa using h2
  have h3' : tmps[3]?.getD undef = ev := by simpa using h3
  simp [results, Tryd.results18, h2', h3', asAddr, hl, Result.andThen]
set_option maxRecDepth 100000 in
set_option maxHeartbeats 4000000 in
theorem load18_long {w : World} {ad : Option Addr} {n c : Nat} (h : 8388608 < n) : Calls Tryd.prog 18 #[.slice ad n c] w fun e w' => e = noP 2 ∧ Below w.heap.size w w' := by
  have b1 : decide ((n : Int) > 8388608) = true := by simp; omega
  have b2 : (8388608 : Int) < (n : Int) := by omega
  have hX : B3 (w.alloc (.cells #[nilS, zI, zI] 24)) w.heap.size nilS zI zI := heap_alloc_new w _
  obtain ⟨c0, c1, c2⟩ := three_cells hX
  obtain ⟨f0, f1, f2⟩ := frz3 hX
  have HX := hid hX
  clear hX
  go_enter Tryd.func18, Tryd.ntmps18
  go_wp2
  refine bodyPost_ret (res18 _ _ w.heap.size nilS zI zI (.int .i64 2) rfl rfl HX.out) rfl ?_
  exact ⟨rfl, Joins.below_alloc1 w _⟩
set_option maxRecDepth 100000 in
set_option maxHeartbeats 4000000 in
theorem load18_short {w : World} {ad : Option Addr} {n c : Nat} (h : n < 8) : Calls Tryd.prog 18 #[.slice ad n c] w fun e w' => e = noP 101 ∧ Below w.heap.size w w' := by
  have b1 : decide ((n : Int) > 8388608) = false := by simp; omega
  have b2 : ¬ (8388608 : Int) < (n : Int) := by omega
  have a1 : IntKind.i64.wrap ((n : Int) - 4) = (n : Int) - 4 := wrap_ok _ (by omega) (by omega)
  have b3 : decide ((n : Int) - 4 < 4) = true := by simp; omega
  have b4 : (n : Int) - 4 < 4 := by omega
  have hX : B3 (w.alloc (.cells #[nilS, zI, zI] 24)) w.heap.size nilS zI zI := heap_alloc_new w _
  obtain ⟨c0, c1, c2⟩ := three_cells hX
  obtain ⟨f0, f1, f2⟩ := frz3 hX
  have HX := hid hX
  clear hX
  go_enter Tryd.func18, Tryd.ntmps18
  go_wp2
  refine bodyPost_ret (res18 _ _ w.heap.size nilS zI zI (.int .i64 101) rfl rfl HX.out) rfl ?_
  exact ⟨rfl, Joins.below_alloc1 w _⟩
theorem below_alloc_drewN (w : World) (o : Obj) (q : Nat) : Below w.heap.size w ((w.alloc o).drewN q) := below_drewN' (Joins.below_alloc1 w o) q
set_option maxRecDepth 100000 in
set_option maxHeartbeats 4000000 in
theorem load18_head {w : World} {b o n c : Nat} {x0 x1 x2 x3 : Nat} (hs : n ≤ 8388608) (hcp : n ≤ c) (h8 : 8 ≤ n) (hb : b < w.heap.size)
    (k0 : w.cell? ⟨b, o, none⟩ = some (.int .u8 (x0 : Int))) (k1 : w.cell? ⟨b, o + 1, none⟩ = some (.int .u8 (x1 : Int))) (k2 : w.cell? ⟨b, o + 2, none⟩ = some (.int .u8 (x2 : Int))) (k3 : w.cell? ⟨b, o + 3, none⟩ = some (.int .u8 (x3 : Int)))
    (hno : ¬ (x0 = 72 ∧ x1 = 82 ∧ x2 = 80 ∧ x3 = 71)) : Calls Tryd.prog 18 #[.slice (some ⟨b, o, none⟩) n c] w fun e w' => e = noP 101 ∧ Below w.heap.size w w' := by
  obtain ⟨V, hV⟩ : ∃ V, V = w.alloc (.cells #[nilS, zI, zI] 24) := ⟨_, rfl⟩
  have hX : B3 V w.heap.size nilS zI zI := by rw [hV]; exact heap_alloc_new w _
  have hB : Below w.heap.size w V := by rw [hV]; exact Joins.below_alloc1 w _
  have k0 := (hB.cell (p := ⟨b, o, none⟩) hb).trans k0
  have k1 := (hB.cell (p := ⟨b, o + 1, none⟩) hb).trans k1
  have k2 := (hB.cell (p := ⟨b, o + 2, none⟩) hb).trans k2
  have k3 := (hB.cell (p := ⟨b, o + 3, none⟩) hb).trans k3
  have b1 : decide ((n : Int) > 8388608) = false := by simp; omega
  have b2 : ¬ (8388608 : Int) < (n : Int) := by omega
  have a1 : IntKind.i64.wrap ((n : Int) - 4) = (n : Int) - 4 := wrap_ok _ (by omega) (by omega)
  have b3 : decide ((n : Int) - 4 < 4) = false := by simp; omega
  have b4 : ¬ ((n : Int) - 4 < 4) := by omega
  have g0 : (0 : Int) < (n : Int) := by omega
  have g1 : (1 : Int) < (n : Int) := by omega
  have g2 : (2 : Int) < (n : Int) := by omega
  have g3 : (3 : Int) < (n : Int) := by omega
  obtain ⟨c0, c1, c2⟩ := three_cells hX
  obtain ⟨f0, f1, f2⟩ := frz3 hX
  have HX := hid hX
  have HB := hid hB
  have HV := hid hV
  clear hX hB hV
  have four : (x0 = 72 ∧ x1 = 82 ∧ x2 = 80 ∧ ¬ x3 = 71) ∨ (x0 = 72 ∧ x1 = 82 ∧ ¬ x2 = 80) ∨ (x0 = 72 ∧ ¬ x1 = 82) ∨ ¬ x0 = 72 := by omega
  clear hno
  rcases four with ⟨rfl, rfl, rfl, h3⟩ | ⟨rfl, rfl, h3⟩ | ⟨rfl, h3⟩ | h3
  all_goals
    go_enter Tryd.func18, Tryd.ntmps18
    go_upto_region 1 with fail
    rw [← HV.out]
  · have d1 : ¬ ((x3 : Int) = 71) := by omega
    have d2 : ((x3 : Int) == 71) = false := by simp; omega
    go_wp2
    refine bodyPost_ret (res18 _ _ w.heap.size nilS zI zI (.int .i64 101) rfl rfl (all3 HX.out _ _ _)) rfl ?_
    exact ⟨rfl, ((HB.out.setCell (Nat.le_refl _) _).setCell (Nat.le_refl _) _).setCell (Nat.le_refl _) _⟩
  · have d1 : ¬ ((x2 : Int) = 80) := by omega
    have d2 : ((x2 : Int) == 80) = false := by simp; omega
    go_wp2
    refine bodyPost_ret (res18 _ _ w.heap.size nilS zI zI (.int .i64 101) rfl rfl (all3 HX.out _ _ _)) rfl ?_
    exact ⟨rfl, ((HB.out.setCell (Nat.le_refl _) _).setCell (Nat.le_refl _) _).setCell (Nat.le_refl _) _⟩
  · have d1 : ¬ ((x1 : Int) = 82) := by omega
    have d2 : ((x1 : Int) == 82) = false := by simp; omega
    go_wp2
    refine bodyPost_ret (res18 _ _ w.heap.size nilS zI zI (.int .i64 101) rfl rfl (all3 HX.out _ _ _)) rfl ?_
    exact ⟨rfl, ((HB.out.setCell (Nat.le_refl _) _).setCell (Nat.le_refl _) _).setCell (Nat.le_refl _) _⟩
  · have d1 : ¬ ((x0 : Int) = 72) := by omega
    have d2 : ((x0 : Int) == 72) = false := by simp; omega
    go_wp2
    refine bodyPost_ret (res18 _ _ w.heap.size nilS zI zI (.int .i64 101) rfl rfl (all3 HX.out _ _ _)) rfl ?_
    exact ⟨rfl, ((HB.out.setCell (Nat.le_refl _) _).setCell (Nat.le_refl _) _).setCell (Nat.le_refl _) _⟩
/-- the boxes behind the sum -/
theorem sum_le (s y0 y1 y2 y3 : Nat) (h0 : y0 < 256) (h1 : y1 < 256) (h2 : y2 < 256) (h3 : y3 < 256) (hs : s < 4294967296) : ((s : Int) = (y0 : Int) + (y1 : Int) * 256 + (y2 : Int) * 65536 + (y3 : Int) * 16777216) ↔ sum4 s = [y0, y1, y2, y3] := by
  unfold sum4
  simp only [List.cons.injEq, and_true]
  constructor
  · intro h
    have : s = y0 + y1 * 256 + y2 * 65536 + y3 * 16777216 := by omega
    refine ⟨?_, ?_, ?_, ?_⟩ <;> omega
  · rintro ⟨e0, e1, e2, e3⟩
    omega
set_option maxRecDepth 100000 in
set_option maxHeartbeats 4000000 in
theorem load18_sum {w : World} {b o m c : Nat} {l : List Nat} {y0 y1 y2 y3 : Nat} (hm : m + 4 = l.length) (hs : m ≤ 8388604) (hcp : m + 4 ≤ c) (h4 : 4 ≤ m) (hb : b < w.heap.size) (hlt : ∀ x ∈ l, x < 256)
    (hc : ∀ k (h : k < l.length), w.cell? ⟨b, o + k, none⟩ = some (.int .u8 (l[k] : Int))) (hd : l.take 4 = headB) (hy : l.drop m = [y0, y1, y2, y3]) (hno : sum4 (crcSum (l.take m)) ≠ [y0, y1, y2, y3]) :
    Calls Tryd.prog 18 #[.slice (some ⟨b, o, none⟩) ((m + 4 : Nat)) c] w fun e w' => e = noP 101 ∧ Below w.heap.size w w' := by
  have hl4 : ∀ k (hk : k < 4), l[k]'(by omega) = headB[k]'(by simpa using hk) := fun k hk => by
    have e : (l.take 4)[k]? = headB[k]? := by rw [hd]
    rw [List.getElem?_take_of_lt hk, List.getElem?_eq_getElem (by omega), List.getElem?_eq_getElem (by simpa using hk)] at e
    exact Option.some.inj e
  have hym : ∀ k (hk : k < 4), l[m + k]'(by omega) = ([y0, y1, y2, y3] : List Nat)[k]'(by simpa using hk) := fun k hk => by
    have e : (l.drop m)[k]? = ([y0, y1, y2, y3] : List Nat)[k]? := by rw [hy]
    rw [List.getElem?_drop, List.getElem?_eq_getElem (by omega), List.getElem?_eq_getElem (by simpa using hk)] at e
    exact Option.some.inj e
  obtain ⟨V, hV⟩ : ∃ V, V = w.alloc (.cells #[nilS, zI, zI] 24) := ⟨_, rfl⟩
  have hX : B3 V w.heap.size nilS zI zI := by rw [hV]; exact heap_alloc_new w _
  have hB : Below w.heap.size w V := by rw [hV]; exact Joins.below_alloc1 w _
  have hVc : ∀ k (h : k < l.length), V.cell? ⟨b, o + k, none⟩ = some (.int .u8 (l[k] : Int)) := fun k h => (hB.cell (p := ⟨b, o + k, none⟩) hb).trans (hc k h)
  have k0 : V.cell? ⟨b, o, none⟩ = some (.int .u8 72) := by have := hVc 0 (by omega); rw [hl4 0 (by omega)] at this; simpa using this
  have k1 : V.cell? ⟨b, o + 1, none⟩ = some (.int .u8 82) := by have := hVc 1 (by omega); rw [hl4 1 (by omega)] at this; simpa using this
  have k2 : V.cell? ⟨b, o + 2, none⟩ = some (.int .u8 80) := by have := hVc 2 (by omega); rw [hl4 2 (by omega)] at this; simpa using this
  have k3 : V.cell? ⟨b, o + 3, none⟩ = some (.int .u8 71) := by have := hVc 3 (by omega); rw [hl4 3 (by omega)] at this; simpa using this
  have z0 : V.cell? ⟨b, o + m, none⟩ = some (.int .u8 (y0 : Int)) := by have := hVc (m + 0) (by omega); rw [hym 0 (by omega)] at this; exact this
  have z1 : V.cell? ⟨b, o + (m + 1), none⟩ = some (.int .u8 (y1 : Int)) := by have := hVc (m + 1) (by omega); rw [hym 1 (by omega)] at this; exact this
  have z2 : V.cell? ⟨b, o + (m + 2), none⟩ = some (.int .u8 (y2 : Int)) := by have := hVc (m + 2) (by omega); rw [hym 2 (by omega)] at this; exact this
  have z3 : V.cell? ⟨b, o + (m + 3), none⟩ = some (.int .u8 (y3 : Int)) := by have := hVc (m + 3) (by omega); rw [hym 3 (by omega)] at this; exact this
  have hmem : ∀ x ∈ l.drop m, x < 256 := fun x hx => hlt x (List.mem_of_mem_drop hx)
  rw [hy] at hmem
  have q0 := hmem y0 (by simp)
  have q1 := hmem y1 (by simp)
  have q2 := hmem y2 (by simp)
  have q3 := hmem y3 (by simp)
  have C33 := sum33 (w := V) (ad := some ⟨b, o, none⟩) (n := m) (c := c) (l := l.take m) (.inr ⟨b, o, rfl, by have := hB.size; omega, fun k hk => by
    rw [List.length_take] at hk
    rw [hVc k (by omega)]
    simp⟩) (by rw [List.length_take]; omega) (by omega) (fun x hx => hlt x (List.mem_of_mem_take hx))
  obtain ⟨S, hS⟩ : ∃ S, S = crcSum (l.take m) := ⟨_, rfl⟩
  have hSb : S < 4294967296 := by rw [hS]; exact crcSum_lt (fun x hx => hlt x (List.mem_of_mem_take hx))
  rw [← hS] at C33
  have HSS := hid hS
  have b1 : decide (((m + 4 : Nat) : Int) > 8388608) = false := by simp; omega
  have b2 : ¬ (8388608 : Int) < ((m + 4 : Nat) : Int) := by omega
  have b2' : ¬ (8388608 : Int) < (m : Int) + 4 := by omega
  have a1 : IntKind.i64.wrap (((m + 4 : Nat) : Int) - 4) = (m : Int) := by rw [wrap_ok _ (by omega) (by omega)]; omega
  have b3 : decide ((m : Int) < 4) = false := by simp; omega
  have b4 : ¬ ((m : Int) < 4) := by omega
  have g0 : (0 : Int) < (m : Int) + 4 := by omega
  have g1 : (1 : Int) < (m : Int) + 4 := by omega
  have g2 : (2 : Int) < (m : Int) + 4 := by omega
  have g3 : (3 : Int) < (m : Int) + 4 := by omega
  have g4 : (m : Int) ≤ (c : Int) := by omega
  have g5 : (m : Int) < (m : Int) + 4 := by omega
  have g6 : (m : Int) + 1 < (m : Int) + 4 := by omega
  have g7 : (m : Int) + 2 < (m : Int) + 4 := by omega
  have g8 : (m : Int) + 3 < (m : Int) + 4 := by omega
  have e1 : IntKind.i64.wrap ((m : Int) + 1) = (m : Int) + 1 := wrap_ok _ (by omega) (by omega)
  have e2 : IntKind.i64.wrap ((m : Int) + 2) = (m : Int) + 2 := wrap_ok _ (by omega) (by omega)
  have e3 : IntKind.i64.wrap ((m : Int) + 3) = (m : Int) + 3 := wrap_ok _ (by omega) (by omega)
  obtain ⟨c0, c1, c2⟩ := three_cells hX
  obtain ⟨f0, f1, f2⟩ := frz3 hX
  have HX := hid hX
  have HB := hid hB
  have HV := hid hV
  have HLE := hid (sum_le S y0 y1 y2 y3 q0 q1 q2 q3 hSb)
  have hne : ¬ ((S : Int) = (y0 : Int) + (y1 : Int) * 256 + (y2 : Int) * 65536 + (y3 : Int) * 16777216) := fun h => hno (by rw [← hS]; exact HLE.out.1 h)
  have HNE := hid hne
  clear hX hB hV hS hVc hl4 hym hmem hm hlt hc hd hy hno HLE HSS hne
  go_enter Tryd.func18, Tryd.ntmps18
  go_upto_region 1 with fail
  rw [← HV.out]
  go_upto_region 7 with (go_at_call 33; (with_reducible refine C33.mono ?_); rintro e w1 ⟨rfl, rfl⟩)
  go_quiet (fail)
  have hbq : ((S : Int) != (y0 : Int) + (y1 : Int) * 256 + (y2 : Int) * 65536 + (y3 : Int) * 16777216) = true := by rw [bne_iff_ne]; exact HNE.out
  rw [hbq]
  clear hbq q0 q1 q2 q3 hSb
  generalize (y0 : Int) + (y1 : Int) * 256 + (y2 : Int) * 65536 + (y3 : Int) * 16777216 = E4
  generalize (y0 : Int) + (y1 : Int) * 256 + (y2 : Int) * 65536 = E3
  generalize (y3 : Int) * 16777216 = E5
  go_wp2
  refine bodyPost_ret (res18 _ _ w.heap.size nilS zI zI (.int .i64 101) rfl rfl (all3 (show B3 (w1.drewN nq) _ _ _ _ from HX.out) _ _ _)) rfl ?_
  exact ⟨rfl, (((below_drewN' HB.out nq).setCell (Nat.le_refl _) _).setCell (Nat.le_refl _) _).setCell (Nat.le_refl _) _⟩
end Go.Proofs.YteanndophopplaaDoor
namespace Go.Proofs.YteanndophopplaaDoor
open Go.RowKit
set_option linter.unusedVariables false
set_option linter.unusedSimpArgs false
theorem LD.mk' {w V : World} {b o c m q : Nat} {l' : List Nat} (hl : m = l'.length) (hm4 : 4 ≤ m) (hms : m ≤ 8388608) (hcp : m ≤ c) (hlt : ∀ x ∈ l', x < 256) (hX : B3 V w.heap.size nilS zI zI) (hB : Below w.heap.size w V) (hs : V.heap.size = w.heap.size + 1) (hb : b < w.heap.size) (hc : ∀ k (h : k < l'.length), V.cell? ⟨b, o + k, none⟩ = some (.int .u8 (l'[k] : Int))) :
    LD w (((V.drewN q).alloc (.cells #[nilS, .slice (some ⟨b, o, none⟩) m c, .int .i64 4, .bool false] 56)).alloc (.cells #[nilS, zI, zI] 24)) (w.heap.size + 1) (w.heap.size + 1 + 1) l' (some ⟨b, o, none⟩) c (some (l'.drop 4)) nilS zI zI := by
  subst hl
  have hs' : (V.drewN q).heap.size = w.heap.size + 1 := hs
  have e1 := heap_alloc_new (V.drewN q) (.cells #[nilS, .slice (some ⟨b, o, none⟩) l'.length c, .int .i64 4, .bool false] 56)
  have e2 := heap_alloc_new ((V.drewN q).alloc (.cells #[nilS, .slice (some ⟨b, o, none⟩) l'.length c, .int .i64 4, .bool false] 56)) (.cells #[nilS, zI, zI] 24)
  rw [show ((V.drewN q).alloc (.cells #[nilS, .slice (some ⟨b, o, none⟩) l'.length c, .int .i64 4, .bool false] 56)).heap.size = w.heap.size + 2 by simp; omega] at e2
  rw [hs'] at e1
  have old : ∀ k, k < w.heap.size + 1 → (((V.drewN q).alloc (.cells #[nilS, .slice (some ⟨b, o, none⟩) l'.length c, .int .i64 4, .bool false] 56)).alloc (.cells #[nilS, zI, zI] 24)).heap[k]? = V.heap[k]? := fun k hk => (heap_alloc_old _ _ (by simp; omega)).trans (heap_alloc_old (V.drewN q) _ (by omega))
  refine ⟨rfl, by omega, (old _ (by omega)).trans hX, e2, SB.yes ⟨(heap_alloc_old _ _ (by simp; omega)).trans e1, ?_, by omega, hcp, hm4, hlt, hms⟩, ?_⟩
  · exact .inr ⟨b, o, rfl, hb, fun k hk => (cell_eq (old b (by omega)) _).trans (hc k hk)⟩
  · exact ((below_drewN' hB q).alloc (by omega) _).alloc (by simp; omega) _
theorem InsO.start' (k : Nat) (m : Option (List Nat)) : InsO k m 0 [] m := by
  cases m with
  | none => exact .inl ⟨rfl, rfl⟩
  | some l => exact InsO.start k l
theorem rest_inst {l : List Nat} {I : In} {m' : Option (List Nat)} (h : IX C5 (some l) I m') : rest m' + 1 ≤ rest (some l) := by
  rcases h with ⟨_, rfl⟩ | ⟨u, h, rfl⟩
  · simp [rest]
  · have e := getI_sound C5 (getI_D.trans h)
    have : l.length = (C5.inst I ++ u).length := congrArg List.length e
    simp only [rest]
    rw [this, List.length_append]
    have : 1 ≤ (C5.inst I).length := by show 1 ≤ ([I.op.toNat] ++ _).length; simp
    omega
theorem SB.at' {B rb : Nat} {l : List Nat} {a : Option Addr} {c : Nat} {w : World} {u : List Nat} (h : SB B rb l a c w (some u)) : ∃ p, u = l.drop p ∧ p ≤ l.length ∧ w.cell? ⟨rb, 2, none⟩ = some (.int .i64 (p : Int)) := by
  rcases h.cases with ⟨h1, _⟩ | ⟨p, h1, hD⟩
  · cases h1
  · exact ⟨p, Option.some.inj h1, hD.at', (four_cells hD.box).2.2.1⟩
/-- what is left of Load behind the last instruction -/
theorem body_left {m : List Nat} {J : List In} {s k : Int} {u : List Nat} (h : restP C5 L5 L5 m = some ((J, s, k), u)) : bodyP C5 L5 L5 m = if u = [] ∧ mayB J s k = true then some (J, s, k) else none := by
  unfold bodyP
  rw [h]
  cases u with
  | nil =>
    simp only [true_and]
  | cons x r => simp
set_option maxRecDepth 100000 in
set_option maxHeartbeats 4000000 in
theorem load18_body {w : World} {b o m c : Nat} {l : List Nat} {y0 y1 y2 y3 : Nat} (hm : m + 4 = l.length) (hs : m ≤ 8388604) (hcp : m + 4 ≤ c) (h4 : 4 ≤ m) (hb : b < w.heap.size) (hlt : ∀ x ∈ l, x < 256)
    (hc : ∀ k (h : k < l.length), w.cell? ⟨b, o + k, none⟩ = some (.int .u8 (l[k] : Int))) (hd : l.take 4 = headB) (hy : l.drop m = [y0, y1, y2, y3]) (hyes : sum4 (crcSum (l.take m)) = [y0, y1, y2, y3]) :
    Calls Tryd.prog 18 #[.slice (some ⟨b, o, none⟩) ((m + 4 : Nat)) c] w fun e w' => Below w.heap.size w w' ∧ ((bodyP C5 L5 L5 ((l.take m).drop 4) = none ∧ e = noP 101) ∨ ∃ ad n c s k J, bodyP C5 L5 L5 ((l.take m).drop 4) = some (J, s, k) ∧ e = .returned (.tuple #[pv ad n c s k, zI]) ∧ PI w' w'.heap.size ad n J) := by
  have hl4 : ∀ k (hk : k < 4), l[k]'(by omega) = headB[k]'(by simpa using hk) := fun k hk => by
    have e : (l.take 4)[k]? = headB[k]? := by rw [hd]
    rw [List.getElem?_take_of_lt hk, List.getElem?_eq_getElem (by omega), List.getElem?_eq_getElem (by simpa using hk)] at e
    exact Option.some.inj e
  have hym : ∀ k (hk : k < 4), l[m + k]'(by omega) = ([y0, y1, y2, y3] : List Nat)[k]'(by simpa using hk) := fun k hk => by
    have e : (l.drop m)[k]? = ([y0, y1, y2, y3] : List Nat)[k]? := by rw [hy]
    rw [List.getElem?_drop, List.getElem?_eq_getElem (by omega), List.getElem?_eq_getElem (by simpa using hk)] at e
    exact Option.some.inj e
  obtain ⟨V, hV⟩ : ∃ V, V = w.alloc (.cells #[nilS, zI, zI] 24) := ⟨_, rfl⟩
  have hX : B3 V w.heap.size nilS zI zI := by rw [hV]; exact heap_alloc_new w _
  have hB : Below w.heap.size w V := by rw [hV]; exact Joins.below_alloc1 w _
  have hVc : ∀ k (h : k < l.length), V.cell? ⟨b, o + k, none⟩ = some (.int .u8 (l[k] : Int)) := fun k h => (hB.cell (p := ⟨b, o + k, none⟩) hb).trans (hc k h)
  have k0 : V.cell? ⟨b, o, none⟩ = some (.int .u8 72) := by have := hVc 0 (by omega); rw [hl4 0 (by omega)] at this; simpa using this
  have k1 : V.cell? ⟨b, o + 1, none⟩ = some (.int .u8 82) := by have := hVc 1 (by omega); rw [hl4 1 (by omega)] at this; simpa using this
  have k2 : V.cell? ⟨b, o + 2, none⟩ = some (.int .u8 80) := by have := hVc 2 (by omega); rw [hl4 2 (by omega)] at this; simpa using this
  have k3 : V.cell? ⟨b, o + 3, none⟩ = some (.int .u8 71) := by have := hVc 3 (by omega); rw [hl4 3 (by omega)] at this; simpa using this
  have z0 : V.cell? ⟨b, o + m, none⟩ = some (.int .u8 (y0 : Int)) := by have := hVc (m + 0) (by omega); rw [hym 0 (by omega)] at this; exact this
  have z1 : V.cell? ⟨b, o + (m + 1), none⟩ = some (.int .u8 (y1 : Int)) := by have := hVc (m + 1) (by omega); rw [hym 1 (by omega)] at this; exact this
  have z2 : V.cell? ⟨b, o + (m + 2), none⟩ = some (.int .u8 (y2 : Int)) := by have := hVc (m + 2) (by omega); rw [hym 2 (by omega)] at this; exact this
  have z3 : V.cell? ⟨b, o + (m + 3), none⟩ = some (.int .u8 (y3 : Int)) := by have := hVc (m + 3) (by omega); rw [hym 3 (by omega)] at this; exact this
  have hmem : ∀ x ∈ l.drop m, x < 256 := fun x hx => hlt x (List.mem_of_mem_drop hx)
  rw [hy] at hmem
  have q0 := hmem y0 (by simp)
  have q1 := hmem y1 (by simp)
  have q2 := hmem y2 (by simp)
  have q3 := hmem y3 (by simp)
  have C33 := sum33 (w := V) (ad := some ⟨b, o, none⟩) (n := m) (c := c) (l := l.take m) (.inr ⟨b, o, rfl, by have := hB.size; omega, fun k hk => by
    rw [List.length_take] at hk
    rw [hVc k (by omega)]
    simp⟩) (by rw [List.length_take]; omega) (by omega) (fun x hx => hlt x (List.mem_of_mem_take hx))
  obtain ⟨S, hS⟩ : ∃ S, S = crcSum (l.take m) := ⟨_, rfl⟩
  have hSb : S < 4294967296 := by rw [hS]; exact crcSum_lt (fun x hx => hlt x (List.mem_of_mem_take hx))
  rw [← hS] at C33
  have HSS := hid hS
  have b1 : decide (((m + 4 : Nat) : Int) > 8388608) = false := by simp; omega
  have b2 : ¬ (8388608 : Int) < ((m + 4 : Nat) : Int) := by omega
  have b2' : ¬ (8388608 : Int) < (m : Int) + 4 := by omega
  have a1 : IntKind.i64.wrap (((m + 4 : Nat) : Int) - 4) = (m : Int) := by rw [wrap_ok _ (by omega) (by omega)]; omega
  have b3 : decide ((m : Int) < 4) = false := by simp; omega
  have b4 : ¬ ((m : Int) < 4) := by omega
  have g0 : (0 : Int) < (m : Int) + 4 := by omega
  have g1 : (1 : Int) < (m : Int) + 4 := by omega
  have g2 : (2 : Int) < (m : Int) + 4 := by omega
  have g3 : (3 : Int) < (m : Int) + 4 := by omega
  have g4 : (m : Int) ≤ (c : Int) := by omega
  have g5 : (m : Int) < (m : Int) + 4 := by omega
  have g6 : (m : Int) + 1 < (m : Int) + 4 := by omega
  have g7 : (m : Int) + 2 < (m : Int) + 4 := by omega
  have g8 : (m : Int) + 3 < (m : Int) + 4 := by omega
  have e1 : IntKind.i64.wrap ((m : Int) + 1) = (m : Int) + 1 := wrap_ok _ (by omega) (by omega)
  have e2 : IntKind.i64.wrap ((m : Int) + 2) = (m : Int) + 2 := wrap_ok _ (by omega) (by omega)
  have e3 : IntKind.i64.wrap ((m : Int) + 3) = (m : Int) + 3 := wrap_ok _ (by omega) (by omega)
  obtain ⟨c0, c1, c2⟩ := three_cells hX
  obtain ⟨f0, f1, f2⟩ := frz3 hX
  have HX := hid hX
  have HB := hid hB
  have HV := hid hV
  have HLE := hid (sum_le S y0 y1 y2 y3 q0 q1 q2 q3 hSb)
  have heq : ((S : Int) = (y0 : Int) + (y1 : Int) * 256 + (y2 : Int) * 65536 + (y3 : Int) * 16777216) := HLE.out.2 (by rw [hS]; exact hyes)
  have HEQ := hid heq
  have hVs : V.heap.size = w.heap.size + 1 := by rw [hV]; simp
  obtain ⟨l', hl'⟩ : ∃ l', l' = l.take m := ⟨_, rfl⟩
  have hl'm : m = l'.length := by rw [hl', List.length_take]; omega
  have hLD := fun q => LD.mk' (q := q) (c := c) hl'm h4 (by omega) (by omega) (fun x hx => hlt x (List.mem_of_mem_take (by rw [hl'] at hx; exact hx))) hX hB hVs hb (fun k hk => by
    rw [← hl'm] at hk
    rw [hVc k (by omega)]
    simp [hl'])
  have HLD := hid hLD
  have HVS := hid hVs
  rw [← hl']
  have HLM := hid hl'm
  clear hX hB hV hS hVc hl4 hym hmem hm hlt hc hd hy hyes HLE HSS heq hLD hVs hl'm hl'
  go_enter Tryd.func18, Tryd.ntmps18
  go_upto_region 1 with fail
  rw [← HV.out]
  go_upto_region 7 with (go_at_call 33; (with_reducible refine C33.mono ?_); rintro e w1 ⟨rfl, rfl⟩)
  go_quiet (fail)
  have hbq : ((S : Int) != (y0 : Int) + (y1 : Int) * 256 + (y2 : Int) * 65536 + (y3 : Int) * 16777216) = false := by rw [bne_eq_false_iff_eq]; exact HEQ.out
  rw [hbq]
  clear hbq q0 q1 q2 q3 hSb C33
  generalize (y0 : Int) + (y1 : Int) * 256 + (y2 : Int) * 65536 + (y3 : Int) * 16777216 = E4
  generalize (y0 : Int) + (y1 : Int) * 256 + (y2 : Int) * 65536 = E3
  generalize (y3 : Int) * 16777216 = E5
  have HLQ := hid (HLD.out nq)
  clear HLD
  have hVsz := HVS.out
  go_upto_region 11 with fail
  obtain ⟨W, hW⟩ : ∃ W, W = ((w1.drewN nq).alloc (.cells #[nilS, .slice (some ⟨b, o, none⟩) m c, .int .i64 4, .bool false] 56)).alloc (.cells #[nilS, zI, zI] 24) := ⟨_, rfl⟩
  have HL : Hid (LD w W (w.heap.size + 1) (w.heap.size + 1 + 1) l' (some ⟨b, o, none⟩) c (some (l'.drop 4)) nilS zI zI) := by rw [hW]; exact HLQ.out
  rw [← hW]
  obtain ⟨pb, hpb⟩ : ∃ pb, w.heap.size + 1 + 1 = pb := ⟨_, rfl⟩
  rw [hpb] at HL ⊢
  obtain ⟨rb, hrb⟩ : ∃ rb, w.heap.size + 1 = rb := ⟨_, rfl⟩
  rw [hrb] at HL ⊢
  have HB0 := hid (show w.heap.size ≤ rb by omega)
  clear hW hpb hrb hVsz HLQ HVS HX HB HV k0 k1 k2 k3 z0 z1 z2 z3 e1 e2 e3 g0 g1 g2 g3 g4 g5 g6 g7 g8 c0 c1 c2 f0 f1 f2 a1 b1 b2 b2' b3 b4
  have HD : Hid (DRd C5 false w.heap.size rb (SB w.heap.size rb l' (some ⟨b, o, none⟩) c)) := drd_b HB0.out
  have C34 := HD.out.next _ _ HL.out.st
  go_upto_region 12 with (go_at_call 34; (with_reducible refine C34.mono ?_); rintro e w2 ⟨v1, m1, rfl, hv1, hM1, hS1, hX1⟩; have h1 := HL.out.mo hM1 hS1; obtain ⟨c0, c1, c2⟩ := three_cells h1.p; obtain ⟨f0, f1, f2⟩ := frz3 h1.p; have HL1 := hid (h1.set2 (.int .i64 (v1 : Int))); have HX1 := hid hX1; clear h1 hM1 hS1 hX1 hv1 C34)
  clear HL
  have C34 := HD.out.next _ _ HL1.out.st
  go_upto_region 13 with (go_at_call 34; (with_reducible refine C34.mono ?_); rintro e w3 ⟨v2, m2, rfl, hv2, hM2, hS2, hX2⟩; have h2 := HL1.out.mo hM2 hS2; obtain ⟨c0, c1, c2⟩ := three_cells h2.p; obtain ⟨f0, f1, f2⟩ := frz3 h2.p; have HL2 := hid (h2.set1 (.int .i64 (v2 : Int))); have HX2 := hid hX2; clear h2 hM2 hS2 hX2 hv2 C34)
  clear HL1
  have C34 := HD.out.next _ _ HL2.out.st
  go_upto_region 14 with (go_at_call 34; (with_reducible refine C34.mono ?_); rintro e w4 ⟨k, m3, rfl, hk, hM3, hS3, hX3⟩; have HL3 := hid (HL2.out.mo hM3 hS3); have HX3 := hid hX3; clear hM3 hS3 hX3 C34)
  clear HL2
  have HBO := hid (bodyD HX1.out HX2.out HX3.out)
  clear HX1 HX2 HX3
  obtain ⟨i51, hi51, hz510, hz511, hz512⟩ := info_parts info51
  have HRS : Hid (rest m3 ≤ 8388609) := by
    show _ ≤ _
    cases m3 with
    | none => simp [rest]
    | some l => have := HD.out.small _ _ HL3.out.st; simp [rest]; omega
  go_wp2_with fail
  go_loopw [9] (fun y wq => ∃ (i : Nat) (J : List In) (MS : List Iv) (mp : Option (List Nat)) (ra : Option Addr) (rc : Nat), y = .int .i64 (i : Int) ∧ i ≤ k ∧ Hid (J.length = i) ∧ Hid (LD w wq rb pb l' (some ⟨b, o, none⟩) c mp (.slice ra i rc) (.int .i64 (v2 : Int)) (.int .i64 (v1 : Int))) ∧ Hid (PG wq (w.heap.size + 3) (.slice ra i rc) MS J) ∧ Hid (InsO k m3 i J mp) ∧ Hid (i + rest mp ≤ 8388609)) (fun y _ => k - (intOf y).toNat)
  case atStart => exact ⟨0, [], [], m3, none, 0, rfl, by omega, rfl, HL3.out, PG.nil _ _, InsO.start' k m3, by have := HRS.out; show 0 + _ ≤ _; omega⟩
  case round =>
    clear HL3 HRS
    obtain ⟨i, J, MS, mp, ra, rc, rfl, hi, HJL, HL, HP, HIO, HRP⟩ := hrel
    have hib : i ≤ 8388609 := by have := HRP.out; omega
    obtain ⟨kq, fq, hlq⟩ := HD.out.box _ _ HL.out.st
    cases mp with
    | none =>
      have kq' : wr.cell? ⟨rb, 3, none⟩ = some (.bool true) := kq
      clear kq
      by_cases hik : i < k
      · have b1 : decide ((i : Int) < (k : Int)) = true := by simp; omega
        have b2 : (i : Int) < (k : Int) := by omega
        have C29 := rcheck9 (c := rc) (s := (v2 : Int)) (k := (v1 : Int)) (HP.out.pi HJL.out.symm)
        have HNO : Hid (bodyP C5 L5 L5 (l'.drop 4) = none) := by
          show _ = _
          have e := HBO.out
          rw [HIO.out.none] at e
          unfold bodyP; rw [e]; rfl
        obtain ⟨c0, c1, c2⟩ := three_cells HL.out.p
        have k3' : wr.cell? ⟨rb, 3, none⟩ = some (.bool true) := (HD.out.box _ _ HL.out.st).1
        go_upto_region 20 with (go_at_call 29; (with_reducible refine C29.mono ?_); rintro e w6 ⟨rfl, hb6⟩; have HLF := hid (HL.out.old (fun b hb => hb6.block b (by have := HL.out.lt; omega)) (HL.out.be.trans (Joins.below_le hb6 HL.out.be.size))); have HP6 := hid (HP.out.kept (fun b _ hb => hb6.block b hb)); clear hb6 C29)
        obtain ⟨k3, f3, hl3⟩ := HD.out.box _ _ HLF.out.st
        obtain ⟨r0, r1, r2⟩ := three_cells HLF.out.res
        obtain ⟨t0, t1, t2⟩ := frz3 HLF.out.res
        obtain ⟨c0, c1, c2⟩ := three_cells HLF.out.p
        have k4 : w6.cell? ⟨rb, 3, none⟩ = some (.bool true) := k3
        clear k3
        go_wp2
        all_goals
          refine bodyPost_ret (res18 _ _ w.heap.size nilS zI zI (.int .i64 101) rfl rfl (all3 HLF.out.res _ _ _)) rfl ?_
          exact ⟨((HLF.out.be.setCell (Nat.le_refl _) _).setCell (Nat.le_refl _) _).setCell (Nat.le_refl _) _, .inl ⟨HNO.out, rfl⟩⟩
      · have b1 : decide ((i : Int) < (k : Int)) = false := by simp; omega
        have b2 : ¬ (i : Int) < (k : Int) := by omega
        have C29 := rcheck9 (c := rc) (s := (v2 : Int)) (k := (v1 : Int)) (HP.out.pi HJL.out.symm)
        have HNO : Hid (bodyP C5 L5 L5 (l'.drop 4) = none) := by
          show _ = _
          have e := HBO.out
          rw [HIO.out.none] at e
          unfold bodyP; rw [e]; rfl
        obtain ⟨c0, c1, c2⟩ := three_cells HL.out.p
        have k3' : wr.cell? ⟨rb, 3, none⟩ = some (.bool true) := (HD.out.box _ _ HL.out.st).1
        go_upto_region 20 with (go_at_call 29; (with_reducible refine C29.mono ?_); rintro e w6 ⟨rfl, hb6⟩; have HLF := hid (HL.out.old (fun b hb => hb6.block b (by have := HL.out.lt; omega)) (HL.out.be.trans (Joins.below_le hb6 HL.out.be.size))); have HP6 := hid (HP.out.kept (fun b _ hb => hb6.block b hb)); clear hb6 C29)
        obtain ⟨k3, f3, hl3⟩ := HD.out.box _ _ HLF.out.st
        obtain ⟨r0, r1, r2⟩ := three_cells HLF.out.res
        obtain ⟨t0, t1, t2⟩ := frz3 HLF.out.res
        obtain ⟨c0, c1, c2⟩ := three_cells HLF.out.p
        have k4 : w6.cell? ⟨rb, 3, none⟩ = some (.bool true) := k3
        clear k3
        go_wp2
        all_goals
          refine bodyPost_ret (res18 _ _ w.heap.size nilS zI zI (.int .i64 101) rfl rfl (all3 HLF.out.res _ _ _)) rfl ?_
          exact ⟨((HLF.out.be.setCell (Nat.le_refl _) _).setCell (Nat.le_refl _) _).setCell (Nat.le_refl _) _, .inl ⟨HNO.out, rfl⟩⟩
    | some u =>
      have kq' : wr.cell? ⟨rb, 3, none⟩ = some (.bool false) := kq
      clear kq
      by_cases hik : i < k
      · have b1 : decide ((i : Int) < (k : Int)) = true := by simp; omega
        have b2 : (i : Int) < (k : Int) := by omega
        have C28 := HD.out.inst HL.out.st
        go_upto_region 18 with (go_at_call 28; (with_reducible refine C28.mono ?_); rintro e w5 ⟨hM5, ⟨n0, n1, n2, n3, n4, n5, n6⟩, I, m', rfl, hI5, hS5, hX5⟩; have HL5 := hid (HL.out.mo hM5 hS5); have HP5 := hid (HP.out.kept (fun b hb hb' => hM5.block b hb' (by have := HL.out.er; omega))); have HI5 := hid (hI5.wide (B' := w.heap.size + 3) (by have := HL.out.lt; omega)); have HIO5 := hid (HIO.out.step hik hX5); have HRP5 := hid (rest_inst hX5); clear hM5 hI5 hS5 hX5 C28)
        have hlt5 := HL5.out.lt
        obtain ⟨V5, hV5⟩ : ∃ V5, V5 = w5.alloc (.cells #[.int .i64 n0, .int .i64 n1, .int .i64 n2, .int .i64 n3, .slice n4 n5 n6] 49) := ⟨_, rfl⟩
        have hb5 : Below w5.heap.size w5 V5 := by rw [hV5]; exact Joins.below_alloc1 w5 _
        have hX5 : B5 V5 w5.heap.size (.int .i64 n0) (.int .i64 n1) (.int .i64 n2) (.int .i64 n3) (.slice n4 n5 n6) := by rw [hV5]; exact heap_alloc_new w5 _
        obtain ⟨d0, d1, d2, d3, d4⟩ := five hX5
        have hs5 : V5.heap.size = w5.heap.size + 1 := by rw [hV5]; simp
        obtain ⟨pc0, pc1, pc2⟩ := three_cells ((hb5.block pb (by have := HL5.out.ep; omega)).trans HL5.out.p)
        obtain ⟨pf0, pf1, pf2⟩ := frz3 ((hb5.block pb (by have := HL5.out.ep; omega)).trans HL5.out.p)
        have hrow := HP5.out.row
        rw [HJL.out] at hrow
        have HR6 : Hid ((V5.alloc (.cells #[.int .i64 n0, .int .i64 n1, .int .i64 n2, .int .i64 n3, .slice n4 n5 n6] 49)).ownsRow (w.heap.size + 3) 49 5 (.slice ra i rc) i (MS.flatMap Iv.cs)) := (row_kept hrow (fun q hq => hb5.block q (hrow.lt q hq).2)).alloc _
        have HL6 : Hid ((V5.alloc (.cells #[.int .i64 n0, .int .i64 n1, .int .i64 n2, .int .i64 n3, .slice n4 n5 n6] 49)).ownsRow 0 49 5 (.slice (some ⟨V5.heap.size, 0, none⟩) 1 1) 1 (Iv.cs ⟨n0, n1, n2, n3, n4, n5, n6⟩)) := World.ownsRow_lit (base := 0) (e := 49) (size := 5) V5 #[.int .i64 n0, .int .i64 n1, .int .i64 n2, .int .i64 n3, .slice n4 n5 n6] 1 (Nat.zero_le _) (by unfold maxLen; omega) rfl
        have hbs : w.heap.size + 3 ≤ (V5.alloc (.cells #[.int .i64 n0, .int .i64 n1, .int .i64 n2, .int .i64 n3, .slice n4 n5 n6] 49)).heap.size := by simp; omega
        have hb6 : Below w5.heap.size w5 (V5.alloc (.cells #[.int .i64 n0, .int .i64 n1, .int .i64 n2, .int .i64 n3, .slice n4 n5 n6] 49)) := hb5.alloc (by omega) _
        have HB6 := hid hb6
        have hpbl : pb < w5.heap.size := by have := HL5.out.ep; omega
        have hpb3 : pb < w.heap.size + 3 := by have := HL5.out.ep; omega
        have hne : (Value.slice ra i rc).ownBlock ≠ some pb := fun e => by have := (hrow.lt pb e).1; omega
        have HNE := hid hne
        have HROW := hid hrow
        rw [← hV5]
        have hs6 : w5.heap.size < V5.heap.size := by omega
        clear hV5 hX5 hrow hb6 hb5 hne hs5
        go_wp2_with (at_builtin; refine wpList_append_row rfl (.tmp 112) (.tmp 114) 22 rfl (w.heap.size + 3) 49 i51 Z5 5 56 Tryd.underlying22 hi51 hz510 hz511 hz512 rfl (by decide) (.slice ra i rc) i (MS.flatMap Iv.cs) rfl HR6.out (.slice (some ⟨V5.heap.size, 0, none⟩) 1 1) 1 0 (Iv.cs ⟨n0, n1, n2, n3, n4, n5, n6⟩) rfl HL6.out (by intro h; omega) (one5 _) (by unfold maxLen; omega) (by omega) hbs ?_; intro v7 w7 ho7 hf7 hn7; obtain ⟨x7, d7, rfl, hx7⟩ := row_shape ho7.out; have e2 : w7.heap[pb]? = w5.heap[pb]? := (hf7.out.block pb (by (try simp) <;> omega) HNE.out).trans (HB6.out.block pb hpbl); have p1 := (cell_eq e2 0).trans (three_cells HL5.out.p).1; have p2 := (frz_eq e2 0).trans (frz3 HL5.out.p).1; clear e2 hx7 hn7)
        have old7 : ∀ q, q < w5.heap.size → (Value.slice ra i rc).ownBlock ≠ some q → w7.heap[q]? = w5.heap[q]? := fun q hq hn => (hf7.out.block q (by have := HB6.out.size; omega) hn).trans (HB6.out.block q hq)
        have hlow : ∀ q, q < w.heap.size + 3 → w7.heap[q]? = w5.heap[q]? := fun q hq => old7 q (by omega) (fun e => by have := (HROW.out.lt q e).1; omega)
        have hz7 : w5.heap.size ≤ w7.heap.size := by have := hf7.out.size; have := HB6.out.size; omega
        have hB7 : Below w.heap.size w w7 := ⟨hf7.out.os.trans (HB6.out.os.trans HL5.out.be.os), hf7.out.tape.trans (HB6.out.tape.trans HL5.out.be.tape), hf7.out.output.trans (HB6.out.output.trans HL5.out.be.output), Nat.le_trans HL5.out.be.size hz7, fun q hq => (hlow q (by omega)).trans (HL5.out.be.block q hq)⟩
        have hPG := HP5.out.push HB6.out hf7.out (by rw [HJL.out]; exact ho7.out) HI5.out
        have hPG2 : Hid (PG (w7.setCell ⟨pb, 0, none⟩ (.slice x7 (i + 1) d7)) (w.heap.size + 3) (.slice x7 (i + 1) d7) (MS ++ [(⟨n0, n1, n2, n3, n4, n5, n6⟩ : Iv)]) (J ++ [I])) := hPG.kept (fun q hq _ => Below.heap_setCell _ _ _ _ (show q ≠ pb by omega))
        refine ⟨⟨i + 1, J ++ [I], MS ++ [(⟨n0, n1, n2, n3, n4, n5, n6⟩ : Iv)], m', x7, d7, by push_cast; rfl, by omega, hid (by show _ = _; rw [List.length_append, HJL.out]; rfl), ((HL5.out.old hlow hB7).set0 _), hPG2.out, HIO5.out, hid (by have := HRP.out; have := HRP5.out; omega)⟩, by simp [intOf]; omega⟩
      · have b1 : decide ((i : Int) < (k : Int)) = false := by simp; omega
        have b2 : ¬ (i : Int) < (k : Int) := by omega
        obtain rfl : i = k := by omega
        have C29 := rcheck9 (c := rc) (s := (v2 : Int)) (k := (v1 : Int)) (HP.out.pi HJL.out.symm)
        have HRE : Hid (restP C5 L5 L5 (l'.drop 4) = some ((J, (v2 : Int), (v1 : Int)), u)) := by
          show _ = _
          rw [HBO.out, HIO.out.done]
          rfl
        have HBL := hid (body_left HRE.out)
        obtain ⟨c0, c1, c2⟩ := three_cells HL.out.p
        obtain ⟨mb, hmb⟩ : ∃ mb, mb = mayB J (v2 : Int) (v1 : Int) := ⟨_, rfl⟩
        rw [← hmb] at C29
        have HMB := hid hmb
        clear hmb
        go_upto_region 20 with (go_at_call 29; (with_reducible refine C29.mono ?_); rintro e w6 ⟨rfl, hb6⟩; have HLF := hid (HL.out.old (fun b hb => hb6.block b (by have := HL.out.lt; omega)) (HL.out.be.trans (Joins.below_le hb6 HL.out.be.size))); have HP6 := hid (HP.out.kept (fun b _ hb => hb6.block b hb)); clear hb6 C29)
        obtain ⟨k3, f3, hl3⟩ := HD.out.box _ _ HLF.out.st
        have k4 : w6.cell? ⟨rb, 3, none⟩ = some (.bool false) := k3
        clear k3
        obtain ⟨p, hup, hpl, k2⟩ := HLF.out.st.at'
        obtain ⟨r0, r1, r2⟩ := three_cells HLF.out.res
        obtain ⟨t0, t1, t2⟩ := frz3 HLF.out.res
        obtain ⟨c0, c1, c2⟩ := three_cells HLF.out.p
        have HUP := hid hup
        have hpm : p ≤ m := by have := HLM.out; omega
        clear hup hpl
        by_cases hpk : p < m
        · have b3 : decide ((p : Int) < (m : Int)) = true := by simp; omega
          have b4 : (p : Int) < (m : Int) := by omega
          have HNO : Hid (bodyP C5 L5 L5 (l'.drop 4) = none) := by
            show _ = _
            rw [HBL.out, if_neg]
            rintro ⟨hu, _⟩
            have hq := congrArg List.length (HUP.out.symm.trans hu)
            rw [List.length_drop, List.length_nil] at hq
            have := HLM.out
            omega
          go_wp2
          all_goals
            refine bodyPost_ret (res18 _ _ w.heap.size nilS zI zI (.int .i64 101) rfl rfl (all3 HLF.out.res _ _ _)) rfl ?_
            exact ⟨((HLF.out.be.setCell (Nat.le_refl _) _).setCell (Nat.le_refl _) _).setCell (Nat.le_refl _) _, .inl ⟨HNO.out, rfl⟩⟩
        · have b3 : decide ((p : Int) < (m : Int)) = false := by simp; omega
          have b4 : ¬ (p : Int) < (m : Int) := by omega
          have hu : u = [] := by rw [HUP.out]; exact List.drop_eq_nil_of_le (by have := HLM.out; omega)
          cases mb with
          | false =>
            have HNO : Hid (bodyP C5 L5 L5 (l'.drop 4) = none) := by
              show _ = _
              rw [HBL.out, if_neg]
              rintro ⟨_, h⟩
              rw [← HMB.out] at h
              cases h
            go_wp2
            all_goals
              refine bodyPost_ret (res18 _ _ w.heap.size nilS zI zI (.int .i64 101) rfl rfl (all3 HLF.out.res _ _ _)) rfl ?_
              exact ⟨((HLF.out.be.setCell (Nat.le_refl _) _).setCell (Nat.le_refl _) _).setCell (Nat.le_refl _) _, .inl ⟨HNO.out, rfl⟩⟩
          | true =>
            have HYE : Hid (bodyP C5 L5 L5 (l'.drop 4) = some (J, (v2 : Int), (v1 : Int))) := by
              show _ = _
              rw [HBL.out, if_pos ⟨hu, HMB.out.symm⟩]
            clear hu
            go_wp2
            all_goals
              refine bodyPost_ret (res18 _ _ w.heap.size (.slice ra i rc) (.int .i64 (v2 : Int)) (.int .i64 (v1 : Int)) (.int .i64 0) rfl rfl (all3 HLF.out.res _ _ _)) rfl ?_
              have hB6 := HLF.out.be
              refine ⟨((hB6.setCell (Nat.le_refl _) _).setCell (Nat.le_refl _) _).setCell (Nat.le_refl _) _, .inr ⟨ra, i, rc, (v2 : Int), (v1 : Int), J, HYE.out, rfl, ?_⟩⟩
              exact (HP6.out.kept (fun q hq _ => set3_old (by omega) _ _ _)).pi HJL.out.symm
/-- what the document's Load answers -/
def LoadD (l : List Nat) (w : World) (e : Ending) (w' : World) : Prop := Below w.heap.size w w' ∧
  ((8388608 < l.length ∧ e = noP 2) ∨ (l.length ≤ 8388608 ∧ loadP C5 L5 L5 l = none ∧ e = noP 101) ∨ (l.length ≤ 8388608 ∧ ∃ ad n c s k J, loadP C5 L5 L5 l = some (J, s, k) ∧ e = .returned (.tuple #[pv ad n c s k, zI]) ∧ PI w' w'.heap.size ad n J))
/-- THE DOCUMENT'S Load OF ANY BYTES -/
theorem load18 {w : World} {ad : Option Addr} {n c : Nat} {l : List Nat} (h : BA w w.heap.size ad l) (hn : n = l.length) (hcp : n ≤ c) (hlt : ∀ x ∈ l, x < 256) : Calls Tryd.prog 18 #[.slice ad n c] w (LoadD l w) := by
  by_cases h8 : 8388608 < n
  · refine (load18_long (ad := ad) (c := c) h8).mono ?_
    rintro e w' ⟨rfl, hb⟩
    exact ⟨hb, .inl ⟨by omega, rfl⟩⟩
  by_cases h9 : n < 8
  · refine (load18_short (ad := ad) (c := c) h9).mono ?_
    rintro e w' ⟨rfl, hb⟩
    refine ⟨hb, .inr (.inl ⟨by omega, ?_, rfl⟩)⟩
    unfold loadP innerP
    rw [if_neg (by omega)]
    rfl
  obtain ⟨b, o, rfl, hb, hc⟩ : ∃ b o, ad = some ⟨b, o, none⟩ ∧ b < w.heap.size ∧ ∀ k (h : k < l.length), w.cell? ⟨b, o + k, none⟩ = some (.int .u8 (l[k] : Int)) := by
    rcases h with e | e
    · rw [e] at hn; simp at hn; omega
    · exact e
  obtain ⟨m, rfl⟩ : ∃ m, n = m + 4 := ⟨n - 4, by omega⟩
  have hl4 : l.length - 4 = m := by omega
  by_cases hd : l.take 4 = headB
  · have hdl : (l.drop m).length = 4 := by rw [List.length_drop]; omega
    obtain ⟨y0, y1, y2, y3, hy⟩ : ∃ y0 y1 y2 y3, l.drop m = [y0, y1, y2, y3] := by
      match l.drop m, hdl with
      | [y0, y1, y2, y3], _ => exact ⟨y0, y1, y2, y3, rfl⟩
    by_cases hs : sum4 (crcSum (l.take m)) = [y0, y1, y2, y3]
    · have hi : innerP l = some ((l.take m).drop 4) := by unfold innerP; rw [hl4, if_pos ⟨by omega, hd, by rw [hs, hy]⟩]
      refine (load18_body (m := m) hn (by omega) hcp (by omega) hb hlt hc hd hy hs).mono ?_
      rintro e w' ⟨hB, ⟨h1, rfl⟩ | ⟨ad, n, c, s, k, J, h1, rfl, h2⟩⟩
      · exact ⟨hB, .inr (.inl ⟨by omega, by unfold loadP; rw [hi]; exact h1, rfl⟩)⟩
      · exact ⟨hB, .inr (.inr ⟨by omega, ad, n, c, s, k, J, by unfold loadP; rw [hi]; exact h1, rfl, h2⟩)⟩
    · refine (load18_sum (m := m) hn (by omega) hcp (by omega) hb hlt hc hd hy hs).mono ?_
      rintro e w' ⟨rfl, hB⟩
      refine ⟨hB, .inr (.inl ⟨by omega, ?_, rfl⟩)⟩
      unfold loadP innerP
      rw [hl4, if_neg (fun hx => hs (by rw [hx.2.2, hy]))]
      rfl
  · have c0 := hc 0 (by omega)
    have c1 := hc 1 (by omega)
    have c2 := hc 2 (by omega)
    have c3 := hc 3 (by omega)
    refine (load18_head (x0 := l[0]) (x1 := l[1]) (x2 := l[2]) (x3 := l[3]) (by omega) hcp (by omega) hb (by simpa using c0) c1 c2 c3 ?_).mono ?_
    · rintro ⟨e0, e1, e2, e3⟩
      apply hd
      apply List.ext_getElem
      · simp; omega
      · intro i h1 h2
        rw [List.getElem_take]
        have : i < 4 := by simpa using h2
        obtain rfl | rfl | rfl | rfl : i = 0 ∨ i = 1 ∨ i = 2 ∨ i = 3 := by omega
        · exact e0
        · exact e1
        · exact e2
        · exact e3
    · rintro e w' ⟨rfl, hB⟩
      refine ⟨hB, .inr (.inl ⟨by omega, ?_, rfl⟩)⟩
      unfold loadP innerP
      rw [if_neg (fun hx => hd hx.2.1)]
      rfl
end Go.Proofs.YteanndophopplaaDoor
