/- HELPERS: the document's Size of a tree. -/
import Derived.Test.YtnecakampgdhcaaSc
import Derived.Test.YtnecakampgdhcaaMG
/- HELPERS: the document's reckoning of a simple form: sums, rows. -/
namespace Go.Proofs.Ytnecakampgdhcaa
open Go.RowKit
set_option linter.unusedVariables false
set_option linter.unusedSimpArgs false
/-- a sum: kind, nodes, Subs, depth -/
structure S4 where
  k : Int
  n : Nat
  s : Nat
  d : Nat
abbrev S4.v (S : S4) : Value := .agg #[.int .i64 S.k, .int .i64 (S.n : Int), .int .i64 (S.s : Int), .int .i64 (S.d : Int)]
abbrev S4.c (S : S4) : Array Value := #[.int .i64 S.k, .int .i64 (S.n : Int), .int .i64 (S.s : Int), .int .i64 (S.d : Int)]
def sumOf (c : Nat) (t : Tn) : S4 := ⟨t.kind, min t.nodes c, min t.subs.length c, t.depth⟩
/-- a row: how many Subs, their nodes, how deep; the last one -/
structure R7 where
  s : Nat
  n : Nat
  d : Nat
  l : S4
abbrev R7.c (r : R7) : Array Value := #[.int .i64 (r.s : Int), .int .i64 (r.n : Int), .int .i64 (r.d : Int), .int .i64 r.l.k, .int .i64 (r.l.n : Int), .int .i64 (r.l.s : Int), .int .i64 (r.l.d : Int)]
/-- a row that has these trees -/
structure RowOf (lid : Nat) (us : List Tn) (r : R7) : Prop where
  s : r.s = min us.length lid
  n : r.n ≤ lid ∧ min (r.n + 1) lid = min (nodesL us + 1) lid
  d : r.d = depthL us
  l : us.length = 1 → ∃ u, us = [u] ∧ r.l = sumOf lid u
abbrev r0 : R7 := ⟨0, 0, 0, ⟨0, 0, 0, 0⟩⟩
theorem row_none (lid : Nat) : RowOf lid [] r0 := ⟨by simp, ⟨Nat.zero_le _, rfl⟩, rfl, fun h => by simp at h⟩
/-- a form, so many times, flat -/
def addR (lid : Nat) (r : R7) (x : S4) (m : Nat) (k : Int) : R7 := if m = 0 then r else if x.k = k then ⟨min (r.s + m * x.s) lid, min (r.n + m * (x.n - 1)) lid, max r.d (x.d - 1), r.l⟩ else ⟨min (r.s + m) lid, min (r.n + m * x.n) lid, max r.d x.d, x⟩
theorem nf_subs {t : Tn} (h : Nf t) (hk : t.kind = 4 ∨ t.kind = 5) : 2 ≤ t.subs.length := by
  cases h with
  | leaf h1 hn => simp only [Tn.kind] at hk; omega
  | cat h2 h' hs => exact h2
  | alt h2 h' hs => exact h2
  | loop h' hy => simp only [Tn.kind] at hk; omega
  | grp hn hy => simp only [Tn.kind] at hk; omega
theorem add_row {lid : Nat} (h2l : 2 ≤ lid) {us : List Tn} {r : R7} (h : RowOf lid us r) {t : Tn} (ht : Nf t) (m : Nat) {k : Int} (hk : k = 4 ∨ k = 5) : RowOf lid (us ++ (List.replicate m (within k t)).flatten) (addR lid r (sumOf lid t) m k) := by
  unfold addR
  by_cases h0 : m = 0
  · subst h0; simpa using h
  rw [if_neg h0]
  have hm : 1 ≤ m := by omega
  have hw := within_nodes k t
  have hd := within_depth k t
  have hpos := t.pos
  by_cases hkk : t.kind = k
  · rw [if_pos (show (sumOf lid t).k = k from hkk)]
    rw [if_pos hkk] at hw hd
    have h2 := nf_subs ht (by omega)
    have hwl : (within k t).length = t.subs.length := by unfold within; rw [if_pos hkk]
    refine ⟨?_, ⟨by simp only; omega, ?_⟩, ?_, fun h1 => ?_⟩
    · simp only [sumOf, List.length_append, flat_rep_len, hwl, h.s]
      by_cases hb : t.subs.length ≤ lid
      · rw [Nat.min_eq_left hb]; omega
      · have h3 : lid ≤ m * t.subs.length := Nat.le_trans (by omega) (Nat.le_mul_of_pos_left _ hm)
        have h4 : lid ≤ m * min t.subs.length lid := by rw [Nat.min_eq_right (by omega)]; exact Nat.le_mul_of_pos_left _ hm
        omega
    · simp only [sumOf, nodesL_append, nodesL_rep, hw]
      have hn := h.n
      by_cases hb : t.nodes ≤ lid
      · rw [Nat.min_eq_left hb]; omega
      · have h3 : lid ≤ m * (t.nodes - 1) := Nat.le_trans (by omega) (Nat.le_mul_of_pos_left _ hm)
        have h4 : lid - 1 ≤ m * (min t.nodes lid - 1) := by rw [Nat.min_eq_right (by omega)]; exact Nat.le_mul_of_pos_left _ hm
        omega
    · simp only [sumOf, depthL_append, depthL_rep _ _ hm, hd, h.d]
    · exfalso
      rw [List.length_append, flat_rep_len, hwl] at h1
      have := Nat.le_mul_of_pos_left t.subs.length hm
      omega
  · rw [if_neg (show ¬ (sumOf lid t).k = k from hkk)]
    rw [if_neg hkk] at hw hd
    have hwl : within k t = [t] := by unfold within; rw [if_neg hkk]
    refine ⟨?_, ⟨by simp only; omega, ?_⟩, ?_, fun h1 => ?_⟩
    · simp only [List.length_append, flat_rep_len, hwl, h.s, List.length_cons, List.length_nil]; omega
    · simp only [sumOf, nodesL_append, nodesL_rep, hw]
      have hn := h.n
      by_cases hb : t.nodes ≤ lid
      · rw [Nat.min_eq_left hb]; omega
      · have h3 : lid ≤ m * t.nodes := Nat.le_trans (by omega) (Nat.le_mul_of_pos_left _ hm)
        have h4 : lid ≤ m * min t.nodes lid := by rw [Nat.min_eq_right (by omega)]; exact Nat.le_mul_of_pos_left _ hm
        omega
    · simp only [sumOf, depthL_append, depthL_rep _ _ hm, hd, h.d]
    · rw [List.length_append, flat_rep_len, hwl] at h1
      simp only [List.length_cons, List.length_nil] at h1
      have e1 : m = 1 := by omega
      have e2 : us = [] := List.length_eq_zero_iff.1 (by omega)
      subst e1 e2
      exact ⟨t, by simp [hwl], rfl⟩
def joinR (lid : Nat) (r : R7) (x : S4) (m : Nat) : R7 := if x.k = 1 then r else addR lid r x m 4
theorem join_row {lid : Nat} (h2l : 2 ≤ lid) {l : List (Tn × Nat)} {r : R7} (h : RowOf lid (rowS 4 (l.filter keep)) r) {t : Tn} (ht : Nf t) (m : Nat) : RowOf lid (rowS 4 ((l ++ [(t, m)]).filter keep)) (joinR lid r (sumOf lid t) m) := by
  rw [List.filter_append, rowS_append]
  unfold joinR
  by_cases h1 : t.kind = 1
  · have hk : keep (t, m) = false := by simp [keep, h1]
    rw [if_pos (show (sumOf lid t).k = 1 from h1)]
    simpa [List.filter, hk, rowS] using h
  · rw [if_neg (show ¬ (sumOf lid t).k = 1 from h1)]
    by_cases h0 : m = 0
    · have hk : keep (t, m) = false := by simp [keep, h0]
      have : addR lid r (sumOf lid t) m 4 = r := by unfold addR; rw [if_pos h0]
      rw [this]
      simpa [List.filter, hk, rowS] using h
    · have hk : keep (t, m) = true := by simp [keep, h1]; omega
      have e : rowS 4 ([(t, m)].filter keep) = (List.replicate m (within 4 t)).flatten := by simp [List.filter, hk, rowS]
      rw [e]
      exact add_row h2l h ht m (.inl rfl)
/-- the JOIN, by its Subs -/
theorem joinT_us {l : List (Tn × Nat)} (hl : ∀ x ∈ l, Nf x.1) : joinT l = (match rowS 4 (l.filter keep) with | [] => emptyT | [u] => u | us => zN 4 us) := by
  have hf : ∀ x ∈ l.filter keep, Nf x.1 ∧ 0 < x.2 := fun x hx => by
    rw [List.mem_filter] at hx
    refine ⟨hl x hx.1, ?_⟩
    have := hx.2
    simp only [keep, Bool.and_eq_true, decide_eq_true_eq] at this
    exact this.1
  have hlen := rowS_len (k := 4) (l := l.filter keep) fun x hx => (nf_within (.inl rfl) (hf x hx).1).1
  unfold joinT joinK
  generalize l.filter keep = K at hf hlen ⊢
  by_cases h0 : timesOf K = 0
  · have : K = [] := by
      cases K with
      | nil => rfl
      | cons x K => simp only [timesOf] at h0; have := (hf x (by simp)).2; omega
    subst this
    rw [if_pos h0]
    rfl
  · rw [if_neg h0]
    by_cases h1 : timesOf K = 1
    · rw [if_pos h1]
      obtain ⟨x, rfl⟩ : ∃ x, K = [x] := by
        cases K with
        | nil => simp [timesOf] at h1
        | cons x K =>
          cases K with
          | nil => exact ⟨x, rfl⟩
          | cons y K => simp only [timesOf] at h1; have := (hf x (by simp)).2; have := (hf y (by simp)).2; omega
      have hx1 : x.2 = 1 := by simpa [timesOf] using h1
      have e : rowS 4 [x] = within 4 x.1 := by rw [rowS_cons, hx1]; simp [rowS]
      rw [e]
      simp only [List.headD_cons]
      have hn := (hf x (by simp)).1
      generalize x.1 = u at hn ⊢
      by_cases hk : u.kind = 4
      · have e2 : within 4 u = u.subs := by unfold within; rw [if_pos hk]
        rw [e2]
        cases hn with
        | leaf h1 hn => simp only [Tn.kind] at hk; omega
        | @cat s h2 h' hs =>
          match s, h2 with
          | a :: b :: s, _ => rfl
        | alt h2 h' hs => simp only [Tn.kind] at hk; omega
        | loop h' hy => simp only [Tn.kind] at hk; omega
        | grp hn hy => simp only [Tn.kind] at hk; omega
      · have e2 : within 4 u = [u] := by unfold within; rw [if_neg hk]
        rw [e2]
    · rw [if_neg h1]
      have h2 : 2 ≤ (rowS 4 K).length := by omega
      show zN 4 (rowS 4 K) = _
      match hr : rowS 4 K, h2 with
      | a :: b :: s, _ => rfl
/-- what joined answers -/
def joinedR (lid : Nat) (r : R7) : S4 := if r.s = 0 then ⟨1, 1, 0, 1⟩ else if r.s = 1 then r.l else ⟨4, min (r.n + 1) lid, r.s, r.d + 1⟩
theorem joined_sum {lid : Nat} (h2l : 2 ≤ lid) {l : List (Tn × Nat)} (hl : ∀ x ∈ l, Nf x.1) {r : R7} (h : RowOf lid (rowS 4 (l.filter keep)) r) : joinedR lid r = sumOf lid (joinT l) := by
  rw [joinT_us hl]
  unfold joinedR
  generalize rowS 4 (l.filter keep) = us at h ⊢
  match us, h with
  | [], h =>
    have hs := h.s
    simp at hs
    rw [if_pos hs]
    simp only [sumOf, Tn.kind, Tn.subs, Tn.nodes, Tn.depth, nodesL, depthL, List.length_nil]
    congr 1 <;> omega
  | [u], h =>
    have hs := h.s
    simp at hs
    have hs1 : r.s = 1 := by omega
    rw [if_neg (by omega), if_pos hs1]
    obtain ⟨u', e, hl⟩ := h.l rfl
    simp at e
    rw [hl, e]
  | a :: b :: us, h =>
    have hs := h.s
    have hlen : (a :: b :: us).length = us.length + 2 := rfl
    rw [hlen] at hs
    rw [if_neg (by omega), if_neg (by omega)]
    have hn := h.n.2
    have hd := h.d
    simp only [sumOf, Tn.kind, Tn.subs, Tn.nodes, Tn.depth, hlen]
    rw [hs, hd]
    congr 1 <;> omega
set_option maxRecDepth 100000 in
set_option maxHeartbeats 4000000 in
theorem empty96 (w : World) : Calls Try.prog 77 #[] w fun e w' => e = .returned (S4.v ⟨1, 1, 0, 1⟩) ∧ Below w.heap.size w w' := by
  go_enter Try.func77, Try.ntmps77
  go_wp2
  all_goals refine bodyPost_ret (results_cell_row rfl _ _ w.heap.size 67 _ (0, 0) _ rfl (heap_alloc_new w _) Try.underlying67 rfl (by kernel_rfl)) rfl ⟨rfl, Joins.below_alloc1 w _⟩
set_option maxRecDepth 100000 in
set_option maxHeartbeats 4000000 in
theorem over69 (k : Int) (S : S4) (w : World) (hn : S.n ≤ 1099511627776) (hd : S.d ≤ 4000000000) : Calls Try.prog 51 #[.int .i64 k, S.v] w fun e w' => e = .returned (S4.v ⟨k, min (S.n + 1) 1099511627776, 1, S.d + 1⟩) ∧ Below w.heap.size w w' := by
  obtain ⟨sk, n, s, d⟩ := S
  dsimp only at hn hd ⊢
  have e1 : ((min (n + 1) 1099511627776 : Nat) : Int) = min ((n : Int) + 1) 1099511627776 := by omega
  have a1 : IntKind.i64.wrap ((n : Int) + 1) = (n : Int) + 1 := by simp [IntKind.wrap, IntKind.bits, IntKind.signed]; omega
  have a2 : IntKind.i64.wrap ((d : Int) + 1) = (d : Int) + 1 := by simp [IntKind.wrap, IntKind.bits, IntKind.signed]; omega
  show Calls Try.prog 51 _ w fun e w' => e = .returned (.agg #[.int .i64 k, .int .i64 ((min (n + 1) 1099511627776 : Nat) : Int), .int .i64 ((1 : Nat) : Int), .int .i64 ((d + 1 : Nat) : Int)]) ∧ _
  rw [e1]
  go_enter Try.func51, Try.ntmps51
  go_wp2
  all_goals
    refine bodyPost_ret (results_cell_row rfl _ _ (w.heap.size + 1) 67 _ (0, 0) _ rfl (two_new w _ _ _) Try.underlying67 rfl (by kernel_rfl)) rfl ⟨?_, below_two' w _ _⟩
    have e2 : ((d + 1 : Nat) : Int) = (d : Int) + 1 := by omega
    rw [e2]
    rfl
abbrev BR (w : World) (r : Nat) (x : R7) : Prop := w.heap[r]? = some (.cells x.c 94 (0, 0))
/-- bounds that a row and a sum keep -/
structure OkR (x : R7) : Prop where
  s : x.s ≤ 1099511627776
  n : x.n ≤ 1099511627776
  d : x.d ≤ 4000000000
structure OkS (S : S4) : Prop where
  n1 : 1 ≤ S.n
  n : S.n ≤ 1099511627776
  s : S.s ≤ 1099511627776
  d1 : 1 ≤ S.d
  d : S.d ≤ 4000000000
theorem chg_set {w W : World} {r : Nat} (h : Chg w W [r] [r]) (o : Nat) (v : Value) : Chg w (W.setCell ⟨r, o, none⟩ v) [r] [r] :=
  ⟨h.os, h.tape, h.output, by have := h.size; simp [World.setCell]; omega, fun k hk hn => (Below.heap_setCell _ _ _ _ (fun e => hn (by simp at e; simp [e]))).trans (h.block k hk hn), fun k hk => .inl hk⟩
theorem chg_setd {w W : World} {r : Nat} (h : Chg w W [r] [r]) (o : Nat) (v : Value) : Chg w (W.setCell ⟨r, o, none⟩ v).drew [r] [r] := by
  have h' := chg_set h o v
  exact ⟨h'.os, h'.tape, h'.output, h'.size, h'.block, h'.new⟩
set_option maxRecDepth 100000 in
set_option maxHeartbeats 8000000 in
theorem add72 (r : Nat) (x : R7) (S : S4) (m : Nat) (k : Int) (w : World) (hr : BR w r x) (hx : OkR x) (hS : OkS S) (hm : m ≤ 1000) :
    Calls Try.prog 54 #[pt r, S.v, .int .i64 (m : Int), .int .i64 k] w fun e w' => e = .returned (.tuple #[]) ∧ BR w' r (addR 1099511627776 x S m k) ∧ Chg w w' [r] [r] := by
  obtain ⟨xs, xn, xd, ⟨lk, ln, ls, ld⟩⟩ := x
  obtain ⟨sk, n, s, d⟩ := S
  obtain ⟨hx1, hx2, hx3⟩ := hx
  obtain ⟨hS1, hS2, hS3, hS4, hS5⟩ := hS
  dsimp only at hx1 hx2 hx3 hS1 hS2 hS3 hS4 hS5 hr
  obtain ⟨W, hW⟩ : ∃ W, W = w.alloc (.cells #[.int .i64 sk, .int .i64 (n : Int), .int .i64 (s : Int), .int .i64 (d : Int)] 67) := ⟨_, rfl⟩
  have hrl : r < w.heap.size := (Array.getElem?_eq_some_iff.1 hr).1
  have hbW : Below w.heap.size w W := by rw [hW]; exact Joins.below_alloc1 w _
  have hcW : Chg w W [r] [r] := by rw [hW]; exact (Chg.refl w _).alloc _
  have hrW : BR W r ⟨xs, xn, xd, ⟨lk, ln, ls, ld⟩⟩ := (hbW.block r hrl).trans hr
  have hzW : W.heap[w.heap.size]? = some (.cells #[.int .i64 sk, .int .i64 (n : Int), .int .i64 (s : Int), .int .i64 (d : Int)] 67 (0, 0)) := by rw [hW]; exact heap_alloc_new w _
  obtain ⟨z, hz⟩ : ∃ z, z = w.heap.size := ⟨_, rfl⟩
  rw [← hz] at hzW hrl
  have z0 := Joins.cell_of_block hzW 0
  have z1 := Joins.cell_of_block hzW 1
  have z2 := Joins.cell_of_block hzW 2
  have z3 := Joins.cell_of_block hzW 3
  have c0 := Joins.cell_of_block hrW 0
  have c1 := Joins.cell_of_block hrW 1
  have c2 := Joins.cell_of_block hrW 2
  have c3 := Joins.cell_of_block hrW 3
  have c4 := Joins.cell_of_block hrW 4
  have c5 := Joins.cell_of_block hrW 5
  have c6 := Joins.cell_of_block hrW 6
  have f0 := Joins.unfrozen_of_block hrW 0
  have f1 := Joins.unfrozen_of_block hrW 1
  have f2 := Joins.unfrozen_of_block hrW 2
  have f3 := Joins.unfrozen_of_block hrW 3
  have f4 := Joins.unfrozen_of_block hrW 4
  have f5 := Joins.unfrozen_of_block hrW 5
  have f6 := Joins.unfrozen_of_block hrW 6
  have HRW := hid hrW
  have HCW := hid hcW
  have HZW := hid hzW
  clear hr hbW hcW hrW hzW
  by_cases h0 : m = 0
  · have g0 : ((m : Int) == 0) = true := by simp [h0]
    have H0 := hid h0
    clear h0
    go_enter Try.func54, Try.ntmps54
    go_upto_region 1 with fail
    rw [← hz, ← hW]
    clear hW hz
    go_wp2
    all_goals first | go_end0 | (refine bodyPost_ret (results_none rfl _ _ _) rfl ?_)
    all_goals exact ⟨rfl, by unfold addR; rw [if_pos H0.out]; exact HRW.out, HCW.out⟩
  have g0 : ((m : Int) == 0) = false := by simp; omega
  by_cases hk : sk = k
  · have gk : (sk == k) = true := by simpa using hk
    have hms : m * s ≤ 1000 * 1099511627776 := Nat.mul_le_mul hm hS3
    have hmn : m * (n - 1) ≤ 1000 * 1099511627776 := Nat.mul_le_mul hm (by omega)
    have p1 : (m : Int) * (s : Int) = ((m * s : Nat) : Int) := by push_cast; rfl
    have p2 : (m : Int) * ((n : Int) - 1) = ((m * (n - 1) : Nat) : Int) := by push_cast [hS1]; rfl
    have a1 : IntKind.i64.wrap ((m : Int) * (s : Int)) = (m : Int) * (s : Int) := by rw [p1]; exact wrapN _ (by omega)
    have a2 : IntKind.i64.wrap ((xs : Int) + (m : Int) * (s : Int)) = (xs : Int) + (m : Int) * (s : Int) := by rw [p1]; exact wrapNN _ _ (by omega)
    have a3 : IntKind.i64.wrap ((n : Int) - 1) = (n : Int) - 1 := by simp [IntKind.wrap, IntKind.bits, IntKind.signed]; omega
    have a4 : IntKind.i64.wrap ((m : Int) * ((n : Int) - 1)) = (m : Int) * ((n : Int) - 1) := by rw [p2]; exact wrapN _ (by omega)
    have a5 : IntKind.i64.wrap ((xn : Int) + (m : Int) * ((n : Int) - 1)) = (xn : Int) + (m : Int) * ((n : Int) - 1) := by rw [p2]; exact wrapNN _ _ (by omega)
    have a6 : IntKind.i64.wrap ((d : Int) - 1) = (d : Int) - 1 := by simp [IntKind.wrap, IntKind.bits, IntKind.signed]; omega
    have HF : Hid (addR 1099511627776 ⟨xs, xn, xd, ⟨lk, ln, ls, ld⟩⟩ ⟨sk, n, s, d⟩ m k = ⟨min (xs + m * s) 1099511627776, min (xn + m * (n - 1)) 1099511627776, max xd (d - 1), ⟨lk, ln, ls, ld⟩⟩) := by unfold addR; rw [if_neg h0, if_pos hk]; exact rfl
    have e1 : ((min (xs + m * s) 1099511627776 : Nat) : Int) = min ((xs : Int) + (m : Int) * (s : Int)) 1099511627776 := by rw [p1]; omega
    have e2 : ((min (xn + m * (n - 1)) 1099511627776 : Nat) : Int) = min ((xn : Int) + (m : Int) * ((n : Int) - 1)) 1099511627776 := by rw [p2]; omega
    have e3 : ((max xd (d - 1) : Nat) : Int) = max (xd : Int) ((d : Int) - 1) := by omega
    have E1 := hid e1
    have E2 := hid e2
    have E3 := hid e3
    clear e1 e2 e3 p1 p2 hms hmn hk
    go_enter Try.func54, Try.ntmps54
    go_upto_region 1 with fail
    rw [← hz, ← hW]
    clear hW hz
    go_upto_region 3 with fail
    go_region
    obtain ⟨V1, hV1⟩ : ∃ V1, V1 = (W.setCell ⟨r, 0, none⟩ (.int .i64 (min ((xs : Int) + (m : Int) * (s : Int)) 1099511627776))).drew := ⟨_, rfl⟩
    rw [← hV1]
    have hrV1 : V1.heap[r]? = some (.cells #[.int .i64 (min ((xs : Int) + (m : Int) * (s : Int)) 1099511627776), .int .i64 (xn : Int), .int .i64 (xd : Int), .int .i64 lk, .int .i64 (ln : Int), .int .i64 (ls : Int), .int .i64 (ld : Int)] 94 (0, 0)) := by rw [hV1]; exact Joins.block_setCell (w := W) (i := 0) HRW.out _
    have hzV1 : V1.heap[z]? = some (.cells #[.int .i64 sk, .int .i64 (n : Int), .int .i64 (s : Int), .int .i64 (d : Int)] 67 (0, 0)) := by rw [hV1]; exact (Below.heap_setCell _ _ _ _ (fun e => by simp only at e; omega)).trans HZW.out
    have hcV1 : Chg w V1 [r] [r] := by rw [hV1]; exact chg_setd HCW.out 0 _
    clear z0 z1 z2 z3 c0 c1 c2 c3 c4 c5 c6 f0 f1 f2 f3 f4 f5 f6
    have z0 := Joins.cell_of_block hzV1 0
    have z1 := Joins.cell_of_block hzV1 1
    have z2 := Joins.cell_of_block hzV1 2
    have z3 := Joins.cell_of_block hzV1 3
    have c0 := Joins.cell_of_block hrV1 0
    have c1 := Joins.cell_of_block hrV1 1
    have c2 := Joins.cell_of_block hrV1 2
    have c3 := Joins.cell_of_block hrV1 3
    have c4 := Joins.cell_of_block hrV1 4
    have c5 := Joins.cell_of_block hrV1 5
    have c6 := Joins.cell_of_block hrV1 6
    have f0 := Joins.unfrozen_of_block hrV1 0
    have f1 := Joins.unfrozen_of_block hrV1 1
    have f2 := Joins.unfrozen_of_block hrV1 2
    have f3 := Joins.unfrozen_of_block hrV1 3
    have f4 := Joins.unfrozen_of_block hrV1 4
    have f5 := Joins.unfrozen_of_block hrV1 5
    have f6 := Joins.unfrozen_of_block hrV1 6
    have HRV1 := hid hrV1
    have HZV1 := hid hzV1
    have HCV1 := hid hcV1
    clear hV1 hrV1 hzV1 hcV1
    go_upto_region 4 with fail
    go_region
    obtain ⟨V2, hV2⟩ : ∃ V2, V2 = (V1.setCell ⟨r, 1, none⟩ (.int .i64 (min ((xn : Int) + (m : Int) * ((n : Int) - 1)) 1099511627776))).drew := ⟨_, rfl⟩
    rw [← hV2]
    have hrV2 : V2.heap[r]? = some (.cells #[.int .i64 (min ((xs : Int) + (m : Int) * (s : Int)) 1099511627776), .int .i64 (min ((xn : Int) + (m : Int) * ((n : Int) - 1)) 1099511627776), .int .i64 (xd : Int), .int .i64 lk, .int .i64 (ln : Int), .int .i64 (ls : Int), .int .i64 (ld : Int)] 94 (0, 0)) := by rw [hV2]; exact Joins.block_setCell (w := V1) (i := 1) HRV1.out _
    have hzV2 : V2.heap[z]? = some (.cells #[.int .i64 sk, .int .i64 (n : Int), .int .i64 (s : Int), .int .i64 (d : Int)] 67 (0, 0)) := by rw [hV2]; exact (Below.heap_setCell _ _ _ _ (fun e => by simp only at e; omega)).trans HZV1.out
    have hcV2 : Chg w V2 [r] [r] := by rw [hV2]; exact chg_setd HCV1.out 1 _
    clear z0 z1 z2 z3 c0 c1 c2 c3 c4 c5 c6 f0 f1 f2 f3 f4 f5 f6
    have z0 := Joins.cell_of_block hzV2 0
    have z1 := Joins.cell_of_block hzV2 1
    have z2 := Joins.cell_of_block hzV2 2
    have z3 := Joins.cell_of_block hzV2 3
    have c0 := Joins.cell_of_block hrV2 0
    have c1 := Joins.cell_of_block hrV2 1
    have c2 := Joins.cell_of_block hrV2 2
    have c3 := Joins.cell_of_block hrV2 3
    have c4 := Joins.cell_of_block hrV2 4
    have c5 := Joins.cell_of_block hrV2 5
    have c6 := Joins.cell_of_block hrV2 6
    have f0 := Joins.unfrozen_of_block hrV2 0
    have f1 := Joins.unfrozen_of_block hrV2 1
    have f2 := Joins.unfrozen_of_block hrV2 2
    have f3 := Joins.unfrozen_of_block hrV2 3
    have f4 := Joins.unfrozen_of_block hrV2 4
    have f5 := Joins.unfrozen_of_block hrV2 5
    have f6 := Joins.unfrozen_of_block hrV2 6
    have HRV2 := hid hrV2
    have HZV2 := hid hzV2
    have HCV2 := hid hcV2
    clear hV2 hrV2 hzV2 hcV2
    go_upto_region 5 with fail
    go_region
    obtain ⟨V3, hV3⟩ : ∃ V3, V3 = (V2.setCell ⟨r, 2, none⟩ (.int .i64 (max (xd : Int) ((d : Int) - 1)))).drew := ⟨_, rfl⟩
    rw [← hV3]
    have hrV3 : V3.heap[r]? = some (.cells #[.int .i64 (min ((xs : Int) + (m : Int) * (s : Int)) 1099511627776), .int .i64 (min ((xn : Int) + (m : Int) * ((n : Int) - 1)) 1099511627776), .int .i64 (max (xd : Int) ((d : Int) - 1)), .int .i64 lk, .int .i64 (ln : Int), .int .i64 (ls : Int), .int .i64 (ld : Int)] 94 (0, 0)) := by rw [hV3]; exact Joins.block_setCell (w := V2) (i := 2) HRV2.out _
    have hzV3 : V3.heap[z]? = some (.cells #[.int .i64 sk, .int .i64 (n : Int), .int .i64 (s : Int), .int .i64 (d : Int)] 67 (0, 0)) := by rw [hV3]; exact (Below.heap_setCell _ _ _ _ (fun e => by simp only at e; omega)).trans HZV2.out
    have hcV3 : Chg w V3 [r] [r] := by rw [hV3]; exact chg_setd HCV2.out 2 _
    clear z0 z1 z2 z3 c0 c1 c2 c3 c4 c5 c6 f0 f1 f2 f3 f4 f5 f6
    have z0 := Joins.cell_of_block hzV3 0
    have z1 := Joins.cell_of_block hzV3 1
    have z2 := Joins.cell_of_block hzV3 2
    have z3 := Joins.cell_of_block hzV3 3
    have c0 := Joins.cell_of_block hrV3 0
    have c1 := Joins.cell_of_block hrV3 1
    have c2 := Joins.cell_of_block hrV3 2
    have c3 := Joins.cell_of_block hrV3 3
    have c4 := Joins.cell_of_block hrV3 4
    have c5 := Joins.cell_of_block hrV3 5
    have c6 := Joins.cell_of_block hrV3 6
    have f0 := Joins.unfrozen_of_block hrV3 0
    have f1 := Joins.unfrozen_of_block hrV3 1
    have f2 := Joins.unfrozen_of_block hrV3 2
    have f3 := Joins.unfrozen_of_block hrV3 3
    have f4 := Joins.unfrozen_of_block hrV3 4
    have f5 := Joins.unfrozen_of_block hrV3 5
    have f6 := Joins.unfrozen_of_block hrV3 6
    have HRV3 := hid hrV3
    have HZV3 := hid hzV3
    have HCV3 := hid hcV3
    clear hV3 hrV3 hzV3 hcV3
    go_wp2
    all_goals first | go_end0 | (refine bodyPost_ret (results_none rfl _ _ _) rfl ?_)
    all_goals
      refine ⟨rfl, ?_, HCV3.out⟩
      rw [HF.out]
      show _ = some (Obj.cells #[.int .i64 ((min (xs + m * s) 1099511627776 : Nat) : Int), .int .i64 ((min (xn + m * (n - 1)) 1099511627776 : Nat) : Int), .int .i64 ((max xd (d - 1) : Nat) : Int), .int .i64 lk, .int .i64 (ln : Int), .int .i64 (ls : Int), .int .i64 (ld : Int)] 94 (0, 0))
      rw [E1.out, E2.out, E3.out]
      exact HRV3.out
  · have gk : (sk == k) = false := by simpa using hk
    have hmn : m * n ≤ 1000 * 1099511627776 := Nat.mul_le_mul hm hS2
    have p2 : (m : Int) * (n : Int) = ((m * n : Nat) : Int) := by push_cast; rfl
    have a2 : IntKind.i64.wrap ((xs : Int) + (m : Int)) = (xs : Int) + (m : Int) := by simp [IntKind.wrap, IntKind.bits, IntKind.signed]; omega
    have a4 : IntKind.i64.wrap ((m : Int) * (n : Int)) = (m : Int) * (n : Int) := by rw [p2]; exact wrapN _ (by omega)
    have a5 : IntKind.i64.wrap ((xn : Int) + (m : Int) * (n : Int)) = (xn : Int) + (m : Int) * (n : Int) := by rw [p2]; exact wrapNN _ _ (by omega)
    have HF : Hid (addR 1099511627776 ⟨xs, xn, xd, ⟨lk, ln, ls, ld⟩⟩ ⟨sk, n, s, d⟩ m k = ⟨min (xs + m) 1099511627776, min (xn + m * n) 1099511627776, max xd d, ⟨sk, n, s, d⟩⟩) := by unfold addR; rw [if_neg h0, if_neg hk]; exact rfl
    have e1 : ((min (xs + m) 1099511627776 : Nat) : Int) = min ((xs : Int) + (m : Int)) 1099511627776 := by omega
    have e2 : ((min (xn + m * n) 1099511627776 : Nat) : Int) = min ((xn : Int) + (m : Int) * (n : Int)) 1099511627776 := by rw [p2]; omega
    have e3 : ((max xd d : Nat) : Int) = max (xd : Int) (d : Int) := by omega
    have E1 := hid e1
    have E2 := hid e2
    have E3 := hid e3
    clear e1 e2 e3 p2 hmn hk
    go_enter Try.func54, Try.ntmps54
    go_upto_region 1 with fail
    rw [← hz, ← hW]
    clear hW hz
    go_upto_region 7 with fail
    obtain ⟨V1, hV1⟩ : ∃ V1, V1 = (W.setCell ⟨r, 0, none⟩ (.int .i64 (min ((xs : Int) + (m : Int)) 1099511627776))) := ⟨_, rfl⟩
    rw [← hV1]
    have hrV1 : V1.heap[r]? = some (.cells #[.int .i64 (min ((xs : Int) + (m : Int)) 1099511627776), .int .i64 (xn : Int), .int .i64 (xd : Int), .int .i64 lk, .int .i64 (ln : Int), .int .i64 (ls : Int), .int .i64 (ld : Int)] 94 (0, 0)) := by rw [hV1]; exact Joins.block_setCell (w := W) (i := 0) HRW.out _
    have hzV1 : V1.heap[z]? = some (.cells #[.int .i64 sk, .int .i64 (n : Int), .int .i64 (s : Int), .int .i64 (d : Int)] 67 (0, 0)) := by rw [hV1]; exact (Below.heap_setCell _ _ _ _ (fun e => by simp only at e; omega)).trans HZW.out
    have hcV1 : Chg w V1 [r] [r] := by rw [hV1]; exact chg_set HCW.out 0 _
    clear z0 z1 z2 z3 c0 c1 c2 c3 c4 c5 c6 f0 f1 f2 f3 f4 f5 f6
    have z0 := Joins.cell_of_block hzV1 0
    have z1 := Joins.cell_of_block hzV1 1
    have z2 := Joins.cell_of_block hzV1 2
    have z3 := Joins.cell_of_block hzV1 3
    have c0 := Joins.cell_of_block hrV1 0
    have c1 := Joins.cell_of_block hrV1 1
    have c2 := Joins.cell_of_block hrV1 2
    have c3 := Joins.cell_of_block hrV1 3
    have c4 := Joins.cell_of_block hrV1 4
    have c5 := Joins.cell_of_block hrV1 5
    have c6 := Joins.cell_of_block hrV1 6
    have f0 := Joins.unfrozen_of_block hrV1 0
    have f1 := Joins.unfrozen_of_block hrV1 1
    have f2 := Joins.unfrozen_of_block hrV1 2
    have f3 := Joins.unfrozen_of_block hrV1 3
    have f4 := Joins.unfrozen_of_block hrV1 4
    have f5 := Joins.unfrozen_of_block hrV1 5
    have f6 := Joins.unfrozen_of_block hrV1 6
    have HRV1 := hid hrV1
    have HZV1 := hid hzV1
    have HCV1 := hid hcV1
    clear hV1 hrV1 hzV1 hcV1
    go_region
    obtain ⟨V2, hV2⟩ : ∃ V2, V2 = (V1.setCell ⟨r, 1, none⟩ (.int .i64 (min ((xn : Int) + (m : Int) * (n : Int)) 1099511627776))).drew := ⟨_, rfl⟩
    rw [← hV2]
    have hrV2 : V2.heap[r]? = some (.cells #[.int .i64 (min ((xs : Int) + (m : Int)) 1099511627776), .int .i64 (min ((xn : Int) + (m : Int) * (n : Int)) 1099511627776), .int .i64 (xd : Int), .int .i64 lk, .int .i64 (ln : Int), .int .i64 (ls : Int), .int .i64 (ld : Int)] 94 (0, 0)) := by rw [hV2]; exact Joins.block_setCell (w := V1) (i := 1) HRV1.out _
    have hzV2 : V2.heap[z]? = some (.cells #[.int .i64 sk, .int .i64 (n : Int), .int .i64 (s : Int), .int .i64 (d : Int)] 67 (0, 0)) := by rw [hV2]; exact (Below.heap_setCell _ _ _ _ (fun e => by simp only at e; omega)).trans HZV1.out
    have hcV2 : Chg w V2 [r] [r] := by rw [hV2]; exact chg_setd HCV1.out 1 _
    clear z0 z1 z2 z3 c0 c1 c2 c3 c4 c5 c6 f0 f1 f2 f3 f4 f5 f6
    have z0 := Joins.cell_of_block hzV2 0
    have z1 := Joins.cell_of_block hzV2 1
    have z2 := Joins.cell_of_block hzV2 2
    have z3 := Joins.cell_of_block hzV2 3
    have c0 := Joins.cell_of_block hrV2 0
    have c1 := Joins.cell_of_block hrV2 1
    have c2 := Joins.cell_of_block hrV2 2
    have c3 := Joins.cell_of_block hrV2 3
    have c4 := Joins.cell_of_block hrV2 4
    have c5 := Joins.cell_of_block hrV2 5
    have c6 := Joins.cell_of_block hrV2 6
    have f0 := Joins.unfrozen_of_block hrV2 0
    have f1 := Joins.unfrozen_of_block hrV2 1
    have f2 := Joins.unfrozen_of_block hrV2 2
    have f3 := Joins.unfrozen_of_block hrV2 3
    have f4 := Joins.unfrozen_of_block hrV2 4
    have f5 := Joins.unfrozen_of_block hrV2 5
    have f6 := Joins.unfrozen_of_block hrV2 6
    have HRV2 := hid hrV2
    have HZV2 := hid hzV2
    have HCV2 := hid hcV2
    clear hV2 hrV2 hzV2 hcV2
    go_upto_region 8 with fail
    go_region
    obtain ⟨V3, hV3⟩ : ∃ V3, V3 = (V2.setCell ⟨r, 2, none⟩ (.int .i64 (max (xd : Int) (d : Int)))).drew := ⟨_, rfl⟩
    rw [← hV3]
    have hrV3 : V3.heap[r]? = some (.cells #[.int .i64 (min ((xs : Int) + (m : Int)) 1099511627776), .int .i64 (min ((xn : Int) + (m : Int) * (n : Int)) 1099511627776), .int .i64 (max (xd : Int) (d : Int)), .int .i64 lk, .int .i64 (ln : Int), .int .i64 (ls : Int), .int .i64 (ld : Int)] 94 (0, 0)) := by rw [hV3]; exact Joins.block_setCell (w := V2) (i := 2) HRV2.out _
    have hzV3 : V3.heap[z]? = some (.cells #[.int .i64 sk, .int .i64 (n : Int), .int .i64 (s : Int), .int .i64 (d : Int)] 67 (0, 0)) := by rw [hV3]; exact (Below.heap_setCell _ _ _ _ (fun e => by simp only at e; omega)).trans HZV2.out
    have hcV3 : Chg w V3 [r] [r] := by rw [hV3]; exact chg_setd HCV2.out 2 _
    clear z0 z1 z2 z3 c0 c1 c2 c3 c4 c5 c6 f0 f1 f2 f3 f4 f5 f6
    have z0 := Joins.cell_of_block hzV3 0
    have z1 := Joins.cell_of_block hzV3 1
    have z2 := Joins.cell_of_block hzV3 2
    have z3 := Joins.cell_of_block hzV3 3
    have c0 := Joins.cell_of_block hrV3 0
    have c1 := Joins.cell_of_block hrV3 1
    have c2 := Joins.cell_of_block hrV3 2
    have c3 := Joins.cell_of_block hrV3 3
    have c4 := Joins.cell_of_block hrV3 4
    have c5 := Joins.cell_of_block hrV3 5
    have c6 := Joins.cell_of_block hrV3 6
    have f0 := Joins.unfrozen_of_block hrV3 0
    have f1 := Joins.unfrozen_of_block hrV3 1
    have f2 := Joins.unfrozen_of_block hrV3 2
    have f3 := Joins.unfrozen_of_block hrV3 3
    have f4 := Joins.unfrozen_of_block hrV3 4
    have f5 := Joins.unfrozen_of_block hrV3 5
    have f6 := Joins.unfrozen_of_block hrV3 6
    have HRV3 := hid hrV3
    have HZV3 := hid hzV3
    have HCV3 := hid hcV3
    clear hV3 hrV3 hzV3 hcV3
    go_wp2
    all_goals first | go_end0 | (refine bodyPost_ret (results_none rfl _ _ _) rfl ?_)
    all_goals
      refine ⟨rfl, ?_, chg_set (chg_set (chg_set (chg_set HCV3.out 3 _) 4 _) 5 _) 6 _⟩
      rw [HF.out]
      show _ = some (Obj.cells #[.int .i64 ((min (xs + m) 1099511627776 : Nat) : Int), .int .i64 ((min (xn + m * n) 1099511627776 : Nat) : Int), .int .i64 ((max xd d : Nat) : Int), .int .i64 sk, .int .i64 (n : Int), .int .i64 (s : Int), .int .i64 (d : Int)] 94 (0, 0))
      rw [E1.out, E2.out, E3.out]
      have h3 := Joins.block_setCell (i := 3) HRV3.out (.int .i64 sk)
      have h4 := Joins.block_setCell (i := 4) h3 (.int .i64 (n : Int))
      have h5 := Joins.block_setCell (i := 5) h4 (.int .i64 (s : Int))
      have h6 := Joins.block_setCell (i := 6) h5 (.int .i64 (d : Int))
      exact h6
end Go.Proofs.Ytnecakampgdhcaa
/- HELPERS: the document's reckoning: joins. -/
namespace Go.Proofs.Ytnecakampgdhcaa
open Go.RowKit
set_option linter.unusedVariables false
set_option linter.unusedSimpArgs false
abbrev LID : Nat := 1099511627776
theorem oks {t : Tn} (h : t.depth ≤ 4000000000) : OkS (sumOf 1099511627776 t) := by
  have := t.pos
  have := t.depth_subs
  exact ⟨by simp only [sumOf]; omega, by simp only [sumOf]; omega, by simp only [sumOf]; omega, by simp only [sumOf]; omega, h⟩
theorem okr {us : List Tn} {x : R7} (h : RowOf 1099511627776 us x) (hd : depthL us ≤ 4000000000) : OkR x := ⟨by rw [h.s]; omega, h.n.1, by rw [h.d]; exact hd⟩
set_option maxRecDepth 100000 in
set_option maxHeartbeats 4000000 in
theorem join71 (r : Nat) (x : R7) (S : S4) (m : Nat) (w : World) (hr : BR w r x) (hx : OkR x) (hS : OkS S) (hm : m ≤ 1000) :
    Calls Try.prog 53 #[pt r, S.v, .int .i64 (m : Int)] w fun e w' => e = .returned (.tuple #[]) ∧ BR w' r (joinR 1099511627776 x S m) ∧ Chg w w' [r] [r] := by
  have hrl : r < w.heap.size := (Array.getElem?_eq_some_iff.1 hr).1
  obtain ⟨sk, n, s, d⟩ := S
  obtain ⟨W, hW⟩ : ∃ W, W = w.alloc (.cells #[.int .i64 sk, .int .i64 (n : Int), .int .i64 (s : Int), .int .i64 (d : Int)] 67) := ⟨_, rfl⟩
  have hcW : Chg w W [r] [r] := by rw [hW]; exact (Chg.refl w _).alloc _
  have hrW : BR W r x := by rw [hW]; exact (heap_alloc_old w _ hrl).trans hr
  have hzW : W.heap[w.heap.size]? = some (.cells #[.int .i64 sk, .int .i64 (n : Int), .int .i64 (s : Int), .int .i64 (d : Int)] 67 (0, 0)) := by rw [hW]; exact heap_alloc_new w _
  obtain ⟨z, hz⟩ : ∃ z, z = w.heap.size := ⟨_, rfl⟩
  rw [← hz] at hzW
  have z0 := Joins.cell_of_block hzW 0
  have z1 := Joins.cell_of_block hzW 1
  have z2 := Joins.cell_of_block hzW 2
  have z3 := Joins.cell_of_block hzW 3
  have HC := add72 r x ⟨sk, n, s, d⟩ m 4 W hrW hx hS hm
  have HRW := hid hrW
  have HCW := hid hcW
  clear hr hrW hcW hzW
  by_cases hk : sk = 1
  · have gk : (sk != 1) = false := by simp [hk]
    have HJ : Hid (joinR 1099511627776 x ⟨sk, n, s, d⟩ m = x) := by unfold joinR; rw [if_pos hk]; exact rfl
    clear hk
    go_enter Try.func53, Try.ntmps53
    go_upto_region 1 with fail
    rw [← hz, ← hW]
    clear hW hz
    go_wp2
    all_goals first | go_end0 | (refine bodyPost_ret (results_none rfl _ _ _) rfl ?_)
    all_goals exact ⟨rfl, by rw [HJ.out]; exact HRW.out, HCW.out⟩
  · have gk : (sk != 1) = true := by simp [hk]
    have HJ : Hid (joinR 1099511627776 x ⟨sk, n, s, d⟩ m = addR 1099511627776 x ⟨sk, n, s, d⟩ m 4) := by unfold joinR; rw [if_neg hk]; exact rfl
    clear hk
    go_enter Try.func53, Try.ntmps53
    go_upto_region 1 with fail
    rw [← hz, ← hW]
    clear hW hz
    go_wp2_with (first | (go_at_call 54; (with_reducible refine HC.mono ?_); rintro e w2 ⟨rfl, hr2, hc2⟩; have HR2 := hid hr2; have HC2 := hid hc2; clear hr2 hc2 HC))
    all_goals first | go_end0 | (refine bodyPost_ret (results_none rfl _ _ _) rfl ?_)
    all_goals exact ⟨rfl, by rw [HJ.out]; exact HR2.out, HCW.out.trans HC2.out⟩
theorem four_set (X : World) (b : Nat) {c0 c1 c2 c3 : Value} {t : TypeId} (v0 v1 v2 v3 : Value) (h : X.heap[b]? = some (.cells #[c0, c1, c2, c3] t (0, 0))) : ((((X.setCell ⟨b, 0, none⟩ v0).setCell ⟨b, 1, none⟩ v1).setCell ⟨b, 2, none⟩ v2).setCell ⟨b, 3, none⟩ v3).heap[b]? = some (.cells #[v0, v1, v2, v3] t (0, 0)) ∧ (∀ c, c ≠ b → ((((X.setCell ⟨b, 0, none⟩ v0).setCell ⟨b, 1, none⟩ v1).setCell ⟨b, 2, none⟩ v2).setCell ⟨b, 3, none⟩ v3).heap[c]? = X.heap[c]?) ∧ (∀ B0 W0, Below B0 W0 X → B0 ≤ b → Below B0 W0 ((((X.setCell ⟨b, 0, none⟩ v0).setCell ⟨b, 1, none⟩ v1).setCell ⟨b, 2, none⟩ v2).setCell ⟨b, 3, none⟩ v3)) := by
  have h0 : (X.setCell ⟨b, 0, none⟩ v0).heap[b]? = some (.cells #[v0, c1, c2, c3] t (0, 0)) := Joins.block_setCell (i := 0) h v0
  have h1 : ((X.setCell ⟨b, 0, none⟩ v0).setCell ⟨b, 1, none⟩ v1).heap[b]? = some (.cells #[v0, v1, c2, c3] t (0, 0)) := Joins.block_setCell (i := 1) h0 v1
  have h2 : (((X.setCell ⟨b, 0, none⟩ v0).setCell ⟨b, 1, none⟩ v1).setCell ⟨b, 2, none⟩ v2).heap[b]? = some (.cells #[v0, v1, v2, c3] t (0, 0)) := Joins.block_setCell (i := 2) h1 v2
  refine ⟨Joins.block_setCell (i := 3) h2 v3, fun c hc => ?_, fun B0 W0 hB hb => ?_⟩
  · exact (Below.heap_setCell _ _ _ _ hc).trans ((Below.heap_setCell _ _ _ _ hc).trans ((Below.heap_setCell _ _ _ _ hc).trans (Below.heap_setCell _ _ _ _ hc)))
  · exact (((hB.setCell (by exact hb) _).setCell (by exact hb) _).setCell (by exact hb) _).setCell (by exact hb) _
set_option maxRecDepth 100000 in
set_option maxHeartbeats 4000000 in
theorem joined73 (r : Nat) (x : R7) (w : World) (hr : BR w r x) (hx : OkR x) : Calls Try.prog 55 #[pt r] w fun e w' => e = .returned (S4.v (joinedR 1099511627776 x)) ∧ Below w.heap.size w w' := by
  have hrl : r < w.heap.size := (Array.getElem?_eq_some_iff.1 hr).1
  obtain ⟨xs, xn, xd, ⟨lk, ln, ls, ld⟩⟩ := x
  obtain ⟨hx1, hx2, hx3⟩ := hx
  dsimp only at hx1 hx2 hx3 hr
  obtain ⟨W, hW⟩ : ∃ W, W = w.alloc (.cells #[.int .i64 0, .int .i64 0, .int .i64 0, .int .i64 0] 67) := ⟨_, rfl⟩
  have hbW : Below w.heap.size w W := by rw [hW]; exact Joins.below_alloc1 w _
  have hsW : W.heap.size = w.heap.size + 1 := by rw [hW]; simp
  have hrW : BR W r ⟨xs, xn, xd, ⟨lk, ln, ls, ld⟩⟩ := (hbW.block r hrl).trans hr
  have hzW : W.heap[w.heap.size]? = some (.cells #[.int .i64 0, .int .i64 0, .int .i64 0, .int .i64 0] 67 (0, 0)) := by rw [hW]; exact heap_alloc_new w _
  obtain ⟨z, hz⟩ : ∃ z, z = w.heap.size := ⟨_, rfl⟩
  rw [← hz] at hzW hsW hrl
  have c0 := Joins.cell_of_block hrW 0
  have c1 := Joins.cell_of_block hrW 1
  have c2 := Joins.cell_of_block hrW 2
  have c3 := Joins.cell_of_block hrW 3
  have c4 := Joins.cell_of_block hrW 4
  have c5 := Joins.cell_of_block hrW 5
  have c6 := Joins.cell_of_block hrW 6
  have HZW := hid hzW
  have HBW := hid hbW
  have HZ := hid hz
  have HSW := hid hsW
  have HCE := empty96 W
  have z0 := Joins.cell_of_block hzW 0
  have z1 := Joins.cell_of_block hzW 1
  have z2 := Joins.cell_of_block hzW 2
  have z3 := Joins.cell_of_block hzW 3
  have f0 := Joins.unfrozen_of_block hzW 0
  have f1 := Joins.unfrozen_of_block hzW 1
  have f2 := Joins.unfrozen_of_block hzW 2
  have f3 := Joins.unfrozen_of_block hzW 3
  clear hr hbW hrW hzW hsW
  by_cases h0 : xs = 0
  · have g0 : ((xs : Int) == 0) = true := by simp [h0]
    have HJ : Hid (joinedR 1099511627776 ⟨xs, xn, xd, ⟨lk, ln, ls, ld⟩⟩ = ⟨1, 1, 0, 1⟩) := by unfold joinedR; rw [if_pos h0]; exact rfl
    rw [HJ.out]
    clear h0
    go_enter Try.func55, Try.ntmps55
    go_upto_region 1 with fail
    rw [← hz, ← hW]
    clear hW hz
    go_wp2_with (first | (go_at_call 77; (with_reducible refine HCE.mono ?_); rintro e w2 ⟨rfl, hb2⟩; have hz2 := (hb2.block z (by have := HSW.out; omega)).trans HZW.out; clear z0 z1 z2 z3 f0 f1 f2 f3; have z0 := Joins.cell_of_block hz2 0; have z1 := Joins.cell_of_block hz2 1; have z2 := Joins.cell_of_block hz2 2; have z3 := Joins.cell_of_block hz2 3; have f0 := Joins.unfrozen_of_block hz2 0; have f1 := Joins.unfrozen_of_block hz2 1; have f2 := Joins.unfrozen_of_block hz2 2; have f3 := Joins.unfrozen_of_block hz2 3; have HZ2 := hid hz2; have HB2 := hid hb2; clear hb2 hz2 HCE))
    all_goals
      obtain ⟨y1, y2, y3⟩ := four_set w2 z (.int .i64 1) (.int .i64 1) (.int .i64 0) (.int .i64 1) HZ2.out
      refine bodyPost_ret (results_cell_row rfl _ _ z 67 _ (0, 0) _ rfl y1 Try.underlying67 rfl (by kernel_rfl)) rfl ⟨rfl, ?_⟩
      exact y3 _ _ (HBW.out.trans (Joins.below_le HB2.out HBW.out.size)) (by have := HZ.out; omega)
  have g0 : ((xs : Int) == 0) = false := by simp; omega
  by_cases h1 : xs = 1
  · have g1 : ((xs : Int) == 1) = true := by simp [h1]
    have HJ : Hid (joinedR 1099511627776 ⟨xs, xn, xd, ⟨lk, ln, ls, ld⟩⟩ = ⟨lk, ln, ls, ld⟩) := by unfold joinedR; rw [if_neg h0, if_pos h1]; exact rfl
    rw [HJ.out]
    clear h0 h1
    go_enter Try.func55, Try.ntmps55
    go_upto_region 1 with fail
    rw [← hz, ← hW]
    clear hW hz
    go_wp2
    all_goals
      obtain ⟨y1, y2, y3⟩ := four_set W z (.int .i64 lk) (.int .i64 (ln : Int)) (.int .i64 (ls : Int)) (.int .i64 (ld : Int)) HZW.out
      refine bodyPost_ret (results_cell_row rfl _ _ z 67 _ (0, 0) _ rfl y1 Try.underlying67 rfl (by kernel_rfl)) rfl ⟨rfl, ?_⟩
      exact y3 _ _ HBW.out (by have := HZ.out; omega)
  have g1 : ((xs : Int) == 1) = false := by simp; omega
  have HJ : Hid (joinedR 1099511627776 ⟨xs, xn, xd, ⟨lk, ln, ls, ld⟩⟩ = ⟨4, min (xn + 1) 1099511627776, xs, xd + 1⟩) := by unfold joinedR; rw [if_neg h0, if_neg h1]; exact rfl
  rw [HJ.out]
  have a1 : IntKind.i64.wrap ((xn : Int) + 1) = (xn : Int) + 1 := by simp [IntKind.wrap, IntKind.bits, IntKind.signed]; omega
  have a2 : IntKind.i64.wrap ((xd : Int) + 1) = (xd : Int) + 1 := by simp [IntKind.wrap, IntKind.bits, IntKind.signed]; omega
  have e1 : ((min (xn + 1) 1099511627776 : Nat) : Int) = min ((xn : Int) + 1) 1099511627776 := by omega
  have e2 : ((xd + 1 : Nat) : Int) = (xd : Int) + 1 := by omega
  show Calls Try.prog 55 _ w fun e w' => e = .returned (.agg #[.int .i64 4, .int .i64 ((min (xn + 1) 1099511627776 : Nat) : Int), .int .i64 (xs : Int), .int .i64 ((xd + 1 : Nat) : Int)]) ∧ _
  rw [e1, e2]
  obtain ⟨mm, hmm⟩ : ∃ mm, min ((xn : Int) + 1) 1099511627776 = mm := ⟨_, rfl⟩
  rw [hmm]
  clear e1 e2 h0 h1
  go_enter Try.func55, Try.ntmps55
  go_upto_region 1 with fail
  rw [← hz, ← hW]
  clear hW hz
  go_upto_region 5 with fail
  go_region
  all_goals go_wp2
  all_goals
    obtain ⟨y1, y2, y3⟩ := four_set W z (.int .i64 4) (.int .i64 mm) (.int .i64 (xs : Int)) (.int .i64 ((xd : Int) + 1)) HZW.out
    have hb := y3 _ _ HBW.out (by have := HZ.out; omega)
    have hb2 : Below w.heap.size w ((((W.setCell ⟨z, 0, none⟩ (.int .i64 4)).setCell ⟨z, 1, none⟩ (.int .i64 mm)).setCell ⟨z, 2, none⟩ (.int .i64 (xs : Int))).setCell ⟨z, 3, none⟩ (.int .i64 ((xd : Int) + 1))).drew := ⟨hb.os, hb.tape, hb.output, hb.size, hb.block⟩
    have y1' : ((((W.setCell ⟨z, 0, none⟩ (.int .i64 4)).setCell ⟨z, 1, none⟩ (.int .i64 mm)).setCell ⟨z, 2, none⟩ (.int .i64 (xs : Int))).setCell ⟨z, 3, none⟩ (.int .i64 ((xd : Int) + 1))).drew.heap[z]? = some (.cells #[.int .i64 4, .int .i64 mm, .int .i64 (xs : Int), .int .i64 ((xd : Int) + 1)] 67 (0, 0)) := y1
    generalize ((((W.setCell ⟨z, 0, none⟩ (.int .i64 4)).setCell ⟨z, 1, none⟩ (.int .i64 mm)).setCell ⟨z, 2, none⟩ (.int .i64 (xs : Int))).setCell ⟨z, 3, none⟩ (.int .i64 ((xd : Int) + 1))).drew = U at hb2 y1' ⊢
    exact bodyPost_ret (results_cell_row rfl _ _ z 67 _ (0, 0) _ rfl y1' Try.underlying67 rfl (by kernel_rfl)) rfl ⟨rfl, hb2⟩
end Go.Proofs.Ytnecakampgdhcaa
/- HELPERS: the document's reckoning of a repeat. -/
namespace Go.Proofs.Ytnecakampgdhcaa
open Go.RowKit
set_option linter.unusedVariables false
set_option linter.unusedSimpArgs false
abbrev B4 (w : World) (b : Nat) (S : S4) : Prop := w.heap[b]? = some (.cells S.c 67 (0, 0))
theorem four {w : World} {b : Nat} {S : S4} (h : B4 w b S) : w.cell? ⟨b, 0, none⟩ = some (.int .i64 S.k) ∧ w.cell? ⟨b, 1, none⟩ = some (.int .i64 (S.n : Int)) ∧ w.cell? ⟨b, 2, none⟩ = some (.int .i64 (S.s : Int)) ∧ w.cell? ⟨b, 3, none⟩ = some (.int .i64 (S.d : Int)) :=
  ⟨Joins.cell_of_block h 0, Joins.cell_of_block h 1, Joins.cell_of_block h 2, Joins.cell_of_block h 3⟩
theorem fourF {w : World} {b : Nat} {S : S4} (h : B4 w b S) : w.frozen? ⟨b, 0, none⟩ = false ∧ w.frozen? ⟨b, 1, none⟩ = false ∧ w.frozen? ⟨b, 2, none⟩ = false ∧ w.frozen? ⟨b, 3, none⟩ = false :=
  ⟨Joins.unfrozen_of_block h 0, Joins.unfrozen_of_block h 1, Joins.unfrozen_of_block h 2, Joins.unfrozen_of_block h 3⟩
theorem sum_loop (mn mx : Int) (lz : Bool) (y : Tn) : sumOf 1099511627776 (loopT mn mx lz y) = ⟨6, min ((sumOf 1099511627776 y).n + 1) 1099511627776, 1, (sumOf 1099511627776 y).d + 1⟩ := by
  have h1 := loopT_nodes mn mx lz y
  have h2 := loopT_depth mn mx lz y
  unfold sumOf
  rw [h1, h2]
  simp only [Tn.kind, Tn.subs, List.length_cons, List.length_nil]
  congr 1 <;> omega
theorem two_row {y o : Tn} (hy : Nf y) (ho : Nf o) (q m : Nat) : RowOf 1099511627776 (rowS 4 ([(y, q), (o, m)].filter keep)) (joinR 1099511627776 (joinR 1099511627776 r0 (sumOf 1099511627776 y) q) (sumOf 1099511627776 o) m) := by
  have h1 := join_row (lid := 1099511627776) (by omega) (l := []) (r := r0) (by simpa [rowS] using row_none 1099511627776) hy q
  exact join_row (by omega) (l := [(y, q)]) h1 ho m
theorem two_okr {y o : Tn} (hy : Nf y) (ho : Nf o) (q m : Nat) (dy : y.depth ≤ 4000000000) (dO : o.depth ≤ 4000000000) : OkR (joinR 1099511627776 (joinR 1099511627776 r0 (sumOf 1099511627776 y) q) (sumOf 1099511627776 o) m) :=
  okr (two_row hy ho q m) (rowS_dle 4 _ fun x hx => by
    have := (List.mem_filter.1 hx).1
    simp at this
    rcases this with rfl | rfl
    · exact dy
    · exact dO)
theorem one_okr {y : Tn} (hy : Nf y) (q : Nat) (dy : y.depth ≤ 4000000000) : OkR (joinR 1099511627776 r0 (sumOf 1099511627776 y) q) :=
  okr (join_row (lid := 1099511627776) (by omega) (l := []) (r := r0) (by simpa [rowS] using row_none 1099511627776) hy q) (rowS_dle 4 _ fun x hx => by
    have := (List.mem_filter.1 hx).1
    simp at this
    subst this
    exact dy)
theorem r0_ok : OkR r0 := ⟨by simp, by simp, by simp⟩
theorem two_sum {y o : Tn} (hy : Nf y) (ho : Nf o) (q m : Nat) : joinedR 1099511627776 (joinR 1099511627776 (joinR 1099511627776 r0 (sumOf 1099511627776 y) q) (sumOf 1099511627776 o) m) = sumOf 1099511627776 (joinT [(y, q), (o, m)]) :=
  joined_sum (by omega) (fun x hx => by simp at hx; rcases hx with rfl | rfl; exact hy; exact ho) (two_row hy ho q m)
/-- the repeat, as the document joins it -/
theorem rep_star {y : Tn} {mn : Int} (lz : Bool) (h : 0 ≤ mn) : sumOf 1099511627776 (repT y mn (-1) lz) = sumOf 1099511627776 (joinT [(y, (max (mn - 1) 0).toNat), (loopT 1 (-1) lz y, 1)]) := by
  unfold repT
  rw [if_neg (by simp)]
  by_cases h0 : mn = 0
  · subst h0
    rw [if_pos rfl]
    have k6 : keep (loopT 1 (-1) lz y, 1) = true := by simp [keep, Tn.kind]
    have k0 : keep (y, 0) = false := by simp [keep]
    have e : joinT [(y, (max ((0 : Int) - 1) 0).toNat), (loopT 1 (-1) lz y, 1)] = loopT 1 (-1) lz y := by
      simp only [show (max ((0 : Int) - 1) 0).toNat = 0 from rfl, joinT, List.filter_cons, List.filter_nil, k0, k6, if_true, Bool.false_eq_true, if_false]
      rfl
    rw [e, sum_loop, sum_loop]
  · rw [if_neg h0, show (max (mn - 1) 0).toNat = (mn - 1).toNat by omega]
/-- boxes beside a row that is joined to stay -/
theorem kept4 {w V V' : World} {b x r z : Nat} {So Z : S4} (h : Chg V V' [b] [b]) (hx : B4 V x So) (hr : B4 V r Z) (hxb : x ≠ b) (hrb : r ≠ b) (hB : Below z w V) (hb : z ≤ b) (hzr : z ≤ r) : B4 V' x So ∧ B4 V' r Z ∧ V.heap.size ≤ V'.heap.size ∧ Below z w V' := by
  have l1 : x < V.heap.size := (Array.getElem?_eq_some_iff.1 hx).1
  have l2 : r < V.heap.size := (Array.getElem?_eq_some_iff.1 hr).1
  exact ⟨(h.block x l1 (by simp; exact hxb)).trans hx, (h.block r l2 (by simp; exact hrb)).trans hr, h.size, hB.trans (h.below (by omega) (by simp; exact hb))⟩
theorem four_end {w w6 : World} {z r : Nat} {Z T : S4} (h : B4 w6 r Z) (hB : Below z w w6) (hr : z ≤ r) : B4 ((((w6.setCell ⟨r, 0, none⟩ (.int .i64 T.k)).setCell ⟨r, 1, none⟩ (.int .i64 (T.n : Int))).setCell ⟨r, 2, none⟩ (.int .i64 (T.s : Int))).setCell ⟨r, 3, none⟩ (.int .i64 (T.d : Int))) r T ∧ Below z w ((((w6.setCell ⟨r, 0, none⟩ (.int .i64 T.k)).setCell ⟨r, 1, none⟩ (.int .i64 (T.n : Int))).setCell ⟨r, 2, none⟩ (.int .i64 (T.s : Int))).setCell ⟨r, 3, none⟩ (.int .i64 (T.d : Int))) := by
  obtain ⟨y1, y2, y3⟩ := four_set w6 r (.int .i64 T.k) (.int .i64 (T.n : Int)) (.int .i64 (T.s : Int)) (.int .i64 (T.d : Int)) h
  exact ⟨y1, y3 _ _ hB hr⟩
/-- what stands while options are put one within another -/
structure RQ (w : World) (z x7 : Nat) (S : S4) (R1 : R7) (N : Nv) (T : S4) (wq : World) : Prop where
  hz : z = w.heap.size
  hx : z + 1 + 1 + 1 < x7
  node : BN wq z N
  sum : B4 wq (z + 1) S
  res : B4 wq (z + 1 + 1) ⟨0, 0, 0, 0⟩
  row : BR wq (z + 1 + 1 + 1) R1
  opt : B4 wq x7 T
  below : Below z w wq
theorem RQ.size {w : World} {z x7 : Nat} {S : S4} {R1 : R7} {N : Nv} {T : S4} {wq : World} (h : RQ w z x7 S R1 N T wq) : x7 < wq.heap.size := (Array.getElem?_eq_some_iff.1 h.opt).1
theorem RQ.low {w : World} {z x7 : Nat} {S : S4} {R1 : R7} {N : Nv} {T : S4} {wq : World} (h : RQ w z x7 S R1 N T wq) {w' : World} (hb : Below (x7 + 1) wq w') : RQ w z x7 S R1 N T w' := by
  have hx := h.hx
  exact ⟨h.hz, h.hx, (hb.block _ (by omega)).trans h.node, (hb.block _ (by omega)).trans h.sum, (hb.block _ (by omega)).trans h.res, (hb.block _ (by omega)).trans h.row, (hb.block _ (by omega)).trans h.opt, h.below.trans (Joins.below_le hb (by omega))⟩
theorem RQ.chg {w : World} {z x7 b : Nat} {S : S4} {R1 : R7} {N : Nv} {T : S4} {wq w' : World} (h : RQ w z x7 S R1 N T wq) (hc : Chg wq w' [b] [b]) (hb : x7 < b) : RQ w z x7 S R1 N T w' :=
  h.low (hc.below (by have := h.size; omega) (by simp; omega))
theorem RQ.set {w : World} {z x7 : Nat} {S : S4} {R1 : R7} {N : Nv} {T : S4} {wq : World} (h : RQ w z x7 S R1 N T wq) (T' : S4) : RQ w z x7 S R1 N T' ((((wq.setCell ⟨x7, 0, none⟩ (.int .i64 T'.k)).setCell ⟨x7, 1, none⟩ (.int .i64 (T'.n : Int))).setCell ⟨x7, 2, none⟩ (.int .i64 (T'.s : Int))).setCell ⟨x7, 3, none⟩ (.int .i64 (T'.d : Int))) := by
  have hx := h.hx
  obtain ⟨y1, y2, y3⟩ := four_set wq x7 (.int .i64 T'.k) (.int .i64 (T'.n : Int)) (.int .i64 (T'.s : Int)) (.int .i64 (T'.d : Int)) h.opt
  exact ⟨h.hz, h.hx, (y2 _ (by omega)).trans h.node, (y2 _ (by omega)).trans h.sum, (y2 _ (by omega)).trans h.res, (y2 _ (by omega)).trans h.row, y1, y3 _ _ h.below (by omega)⟩
theorem opt_depth_le (y : Tn) (lz : Bool) (hd : y.depth ≤ 1000000000) {i : Nat} (hi : i ≤ 1000) : (optT y lz i).depth ≤ 1000003000 := by
  cases i with
  | zero => exact by rw [show optT y lz 0 = emptyT from rfl, show emptyT.depth = 1 from by simp [Tn.depth, depthL]]; omega
  | succ i =>
    rw [optT_depth]
    have : (1 + if y.kind = 1 then 0 else 1) ≤ 2 := by split <;> omega
    have := Nat.mul_le_mul_left i this
    omega
theorem join_dle {y o : Tn} : (joinT [(y, 1), (o, 1)]).depth ≤ max y.depth o.depth + 1 := joinT_dle _ fun x hx => by
  simp at hx
  rcases hx with rfl | rfl
  · exact Nat.le_max_left _ _
  · exact Nat.le_max_right _ _
/-- the next option -/
theorem opt_next (y : Tn) (lz : Bool) (hy : Nf y) (i : Nat) : sumOf 1099511627776 (optT y lz (i + 1)) = (let X := if i = 0 then sumOf 1099511627776 y else joinedR 1099511627776 (joinR 1099511627776 (joinR 1099511627776 r0 (sumOf 1099511627776 y) 1) (sumOf 1099511627776 (optT y lz i)) 1); (⟨6, min (X.n + 1) 1099511627776, 1, X.d + 1⟩ : S4)) := by
  cases i with
  | zero => rw [if_pos rfl]; exact sum_loop 0 1 lz y
  | succ i =>
    rw [if_neg (by omega), two_sum hy (nf_opt lz hy _), optT_step]
    exact sum_loop 0 1 lz _
theorem sum_empty : sumOf 1099511627776 emptyT = ⟨1, 1, 0, 1⟩ := by simp [sumOf, Tn.nodes, nodesL, Tn.depth, depthL, Tn.kind, Tn.subs]
set_option maxRecDepth 100000 in
set_option maxHeartbeats 8000000 in
theorem repeat70 (N : Nv) (y : Tn) (w : World) (hy : Nf y) (hd : y.depth ≤ 1000000000) (h1 : 0 ≤ N.a4) (h2 : N.a4 ≤ 1000) (h3 : N.a5 = -1 ∨ N.a4 ≤ N.a5 ∧ N.a5 ≤ 1000) :
    Calls Try.prog 52 #[N.v, S4.v (sumOf 1099511627776 y)] w fun e w' => e = .returned (S4.v (sumOf 1099511627776 (repT y N.a4 N.a5 N.a6))) ∧ Below w.heap.size w w' := by
  obtain ⟨k, e1, e2, e3, a2, s1, s2, s3, a4, mx, lz, a7, a8⟩ := N
  dsimp only at h1 h2 h3 ⊢
  obtain ⟨p, rfl⟩ : ∃ p : Nat, a4 = (p : Int) := ⟨a4.toNat, by omega⟩
  obtain ⟨S, hS⟩ : ∃ S, S = sumOf 1099511627776 y := ⟨_, rfl⟩
  rw [← hS]
  have hokS : OkS S := by rw [hS]; exact oks (by omega)
  obtain ⟨A, hA⟩ : ∃ A, A = (w.alloc (.cells #[.int .i64 k, .slice e1 e2 e3, .int .i64 a2, .slice s1 s2 s3, .int .i64 (p : Int), .int .i64 mx, .bool lz, .int .i64 a7, .string a8] 39)).alloc (.cells S.c 67) := ⟨_, rfl⟩
  obtain ⟨W, hW⟩ : ∃ W, W = (A.alloc (.cells #[.int .i64 0, .int .i64 0, .int .i64 0, .int .i64 0] 67)).alloc (.cells #[.int .i64 0, .int .i64 0, .int .i64 0, .int .i64 0, .int .i64 0, .int .i64 0, .int .i64 0] 94) := ⟨_, rfl⟩
  have hAs : A.heap.size = w.heap.size + 1 + 1 := by rw [hA]; simp
  have hA0 : BN A w.heap.size ⟨k, e1, e2, e3, a2, s1, s2, s3, (p : Int), mx, lz, a7, a8⟩ := by rw [hA]; exact (heap_alloc_old _ _ (by simp)).trans (heap_alloc_new w _)
  have hA1 : B4 A (w.heap.size + 1) S := by rw [hA]; exact two_new w _ _ _
  have hbA : Below w.heap.size w A := by rw [hA]; exact below_two' w _ _
  have hbW : Below A.heap.size A W := by rw [hW]; exact below_two' A _ _
  have hW2 : B4 W A.heap.size ⟨0, 0, 0, 0⟩ := by rw [hW]; exact (heap_alloc_old _ _ (by simp)).trans (heap_alloc_new A _)
  have hW3 : BR W (A.heap.size + 1) r0 := by rw [hW]; exact two_new A _ _ _
  have hsW : W.heap.size = w.heap.size + 1 + 1 + 1 + 1 := by rw [hW]; simp [hAs]
  have hW0 := (hbW.block w.heap.size (by omega)).trans hA0
  have hW1 := (hbW.block (w.heap.size + 1) (by omega)).trans hA1
  have hbw : Below w.heap.size w W := hbA.trans (Joins.below_le hbW (by omega))
  rw [hAs] at hW2 hW3
  rw [hA] at hW
  obtain ⟨z, hz⟩ : ∃ z, z = w.heap.size := ⟨_, rfl⟩
  rw [← hz] at hW0 hW1 hW2 hW3 hsW
  have HC := over69 6 S W hokS.n hokS.d
  obtain ⟨So, hSo⟩ : ∃ So : S4, So = ⟨6, min (S.n + 1) 1099511627776, 1, S.d + 1⟩ := ⟨_, rfl⟩
  rw [← hSo] at HC
  have HSo : Hid (So = sumOf 1099511627776 (loopT 1 (-1) lz y)) := by rw [hSo, hS]; exact (sum_loop 1 (-1) lz y).symm
  have HS := hid hS
  have W0 := hid hW0
  have W1 := hid hW1
  have W2 := hid hW2
  have W3 := hid hW3
  have HBW := hid hbw
  have HZ := hid hz
  have HSW := hid hsW
  have HOK := hid hokS
  have HNY := hid hy
  obtain ⟨z0, z1, z2, z3⟩ := four hW1
  clear hA hAs hA0 hA1 hbA hbW hW0 hW1 hW2 hW3 hbw hsW hSo hokS hS hy
  obtain ⟨RT, hRT⟩ : ∃ RT, RT = sumOf 1099511627776 (repT y (p : Int) mx lz) := ⟨_, rfl⟩
  rw [← hRT]
  have HRT := hid hRT
  clear hRT
  go_enter Try.func52, Try.ntmps52
  go_upto_region 2 with fail
  rw [← hz, ← hW]
  clear hW hz
  go_upto_region 3 with (first | (go_at_call 51; (with_reducible refine HC.mono ?_); rintro e w1 ⟨rfl, hb1⟩; have HB1 := hid hb1; clear hb1 HC))
  obtain ⟨V, hV⟩ : ∃ V, V = w1.alloc (.cells So.c 67) := ⟨_, rfl⟩
  obtain ⟨x1, hx1⟩ : ∃ x1, x1 = w1.heap.size := ⟨_, rfl⟩
  rw [← hV, ← hx1]
  have hbV : Below w1.heap.size w1 V := by rw [hV]; exact Joins.below_alloc1 w1 _
  have hbWV : Below W.heap.size W V := HB1.out.trans (Joins.below_le hbV HB1.out.size)
  have hx1V : B4 V x1 So := by rw [hV, hx1]; exact heap_alloc_new w1 _
  have hsV : V.heap.size = x1 + 1 := by rw [hV, hx1]; simp
  have hx1W : W.heap.size ≤ x1 := by rw [hx1]; exact HB1.out.size
  have VW0 := hid ((hbWV.block z (by have := HSW.out; omega)).trans W0.out)
  have VW1 := hid ((hbWV.block (z + 1) (by have := HSW.out; omega)).trans W1.out)
  have VW2 := hid ((hbWV.block (z + 1 + 1) (by have := HSW.out; omega)).trans W2.out)
  have VW3 := hid ((hbWV.block (z + 1 + 1 + 1) (by have := HSW.out; omega)).trans W3.out)
  have HBV := hid (HBW.out.trans (Joins.below_le hbWV HBW.out.size))
  have HX1 := hid hx1V
  have HSV := hid hsV
  clear z0 z1 z2 z3 hV hx1 hbV hbWV hx1V hsV W0 W1 W2 W3 HB1 HBW
  obtain ⟨z0, z1, z2, z3⟩ := four VW1.out
  obtain ⟨q0, q1, q2, q3, q4, q5, q6, q7, q8⟩ := nine' VW0.out
  by_cases hmx : mx = -1
  · subst hmx
    obtain ⟨q, hq⟩ : ∃ q : Nat, max ((p : Int) - 1) 0 = (q : Int) := ⟨(max ((p : Int) - 1) 0).toNat, by omega⟩
    have hw : IntKind.i64.wrap ((p : Int) - 1) = (p : Int) - 1 := by simp [IntKind.wrap, IntKind.bits, IntKind.signed]; omega
    have HQ := hid hq
    have hqb : q ≤ 1000 := by omega
    have HC4 := join71 (z + 1 + 1 + 1) r0 S q V VW3.out r0_ok HOK.out hqb
    rw [← HQ.out] at HC4
    clear hq
    go_upto_region 5 with (first | (go_at_call 53; (with_reducible refine HC4.mono ?_); rintro e w4 ⟨rfl, hr4, hc4⟩; have HR4 := hid hr4; have HK4 := hid hc4; clear hr4 hc4 HC4))
    obtain ⟨HX4, HZ4, HS4, HB4⟩ := kept4 (b := z + 1 + 1 + 1) (x := x1) (r := z + 1 + 1) HK4.out HX1.out VW2.out (by have := HSW.out; omega) (by omega) HBV.out (by have := HZ.out; omega) (by have := HZ.out; omega)
    have hok4 : OkR (joinR 1099511627776 r0 S q) := by rw [HS.out]; exact one_okr HNY.out q (by omega)
    have HC5 : Calls Try.prog 53 #[.pointer (some ⟨z + 1 + 1 + 1, 0, none⟩), So.v, .int .i64 1] w4 _ := join71 (z + 1 + 1 + 1) _ So 1 w4 HR4.out hok4 (by rw [HSo.out]; exact oks (by rw [loopT_depth]; omega)) (by omega)
    have HX4' := hid HX4
    have HZ4' := hid HZ4
    have HB4' := hid HB4
    clear HX4 HZ4 HB4 hok4 z0 z1 z2 z3 q0 q1 q2 q3 q4 q5 q6 q7 q8 HK4 HR4
    obtain ⟨z0, z1, z2, z3⟩ := four HX4'.out
    go_upto_region 6 with (first | (go_at_call 53; (with_reducible refine HC5.mono ?_); rintro e w5 ⟨rfl, hr5, hc5⟩; have HR5 := hid hr5; have HK5 := hid hc5; clear hr5 hc5 HC5))
    obtain ⟨HX5, HZ5, HS5, HB5⟩ := kept4 (b := z + 1 + 1 + 1) (x := x1) (r := z + 1 + 1) HK5.out HX4'.out HZ4'.out (by have := HSW.out; omega) (by omega) HB4'.out (by have := HZ.out; omega) (by have := HZ.out; omega)
    have hok5 : OkR (joinR 1099511627776 (joinR 1099511627776 r0 S q) So 1) := by
      rw [HS.out, HSo.out]
      exact two_okr HNY.out (show Nf (loopT 1 (-1) lz y) from .loop (.inr (.inr ⟨rfl, rfl⟩)) HNY.out) q 1 (by omega) (by rw [loopT_depth]; omega)
    have HC6 := joined73 (z + 1 + 1 + 1) _ w5 HR5.out hok5
    have HJ : RT = joinedR 1099511627776 (joinR 1099511627776 (joinR 1099511627776 r0 S q) So 1) := by
      rw [HRT.out, rep_star lz (by omega), HS.out, HSo.out, two_sum HNY.out (show Nf (loopT 1 (-1) lz y) from .loop (.inr (.inr ⟨rfl, rfl⟩)) HNY.out), HQ.out]
      rfl
    rw [← HJ] at HC6
    have HZ5' := hid HZ5
    have HB5' := hid HB5
    clear HX5 HZ5 HB5 hok5 HJ z0 z1 z2 z3 HK5 HR5 HS5 HX4' HZ4' HB4' HS4
    go_wp2_with (first | (go_at_call 55; (with_reducible refine HC6.mono ?_); rintro e w6 ⟨rfl, hb6⟩; have hz6 := (hb6.block (z + 1 + 1) (Array.getElem?_eq_some_iff.1 HZ5'.out).1).trans HZ5'.out; obtain ⟨z0, z1, z2, z3⟩ := four hz6; obtain ⟨f0, f1, f2, f3⟩ := fourF hz6; have HZ6 := hid hz6; have HB6 := hid (HB5'.out.trans (Joins.below_le hb6 HB5'.out.size)); clear hz6 hb6 HC6))
    all_goals
      obtain ⟨y1, y3⟩ := four_end (T := RT) HZ6.out HB6.out (by have := HZ.out; omega)
      exact bodyPost_ret (results_cell_row rfl _ _ (z + 1 + 1) 67 _ (0, 0) _ rfl y1 Try.underlying67 rfl (by kernel_rfl)) rfl ⟨rfl, y3⟩
  · obtain ⟨h3, h4⟩ : (p : Int) ≤ mx ∧ mx ≤ 1000 := by omega
    obtain ⟨n, hm⟩ : ∃ n : Nat, mx = ((p + n : Nat) : Int) := ⟨(mx - p).toNat, by omega⟩
    have g0 : (mx == -1) = false := by rw [hm]; simp; omega
    have hsub : IntKind.i64.wrap (mx - (p : Int)) = (n : Int) := by rw [hm]; simp [IntKind.wrap, IntKind.bits, IntKind.signed]; omega
    have hn : n ≤ 1000 := by omega
    have HM := hid hm
    have HC4 := join71 (z + 1 + 1 + 1) r0 S p V VW3.out r0_ok HOK.out (by omega)
    clear hm hmx h3 h4
    go_upto_region 8 with (first | (go_at_call 53; (with_reducible refine HC4.mono ?_); rintro e w4 ⟨rfl, hr4, hc4⟩; have HR4 := hid hr4; have HK4 := hid hc4; clear hr4 hc4 HC4))
    obtain ⟨HX4, HZ4, HS4, HB4⟩ := kept4 (b := z + 1 + 1 + 1) (x := z + 1) (r := z + 1 + 1) HK4.out VW1.out VW2.out (by omega) (by omega) HBV.out (by have := HZ.out; omega) (by have := HZ.out; omega)
    have hN4 : BN w4 z ⟨k, e1, e2, e3, a2, s1, s2, s3, (p : Int), mx, lz, a7, a8⟩ := (HK4.out.block z (by have := HSV.out; have := HSW.out; omega) (by simp; omega)).trans VW0.out
    obtain ⟨R1, hR1⟩ : ∃ R1, R1 = joinR 1099511627776 r0 S p := ⟨_, rfl⟩
    have hR4 := HR4.out
    rw [← hR1] at hR4
    have HE := empty96 w4
    have HR1 := hid hR1
    have HR4' := hid hR4
    have HX4' := hid HX4
    have HZ4' := hid HZ4
    have HB4' := hid HB4
    have HN4 := hid hN4
    clear hR1 hR4 HR4 HX4 HZ4 HB4 hN4 HK4 z0 z1 z2 z3 q0 q1 q2 q3 q4 q5 q6 q7 q8
    go_upto_region 9 with (first | (go_at_call 77; (with_reducible refine HE.mono ?_); rintro e w5 ⟨rfl, hb5⟩; have HB5 := hid hb5; clear hb5 HE))
    obtain ⟨U, hU⟩ : ∃ U, U = w5.alloc (.cells #[.int .i64 1, .int .i64 1, .int .i64 0, .int .i64 1] 67) := ⟨_, rfl⟩
    obtain ⟨x7, hx7⟩ : ∃ x7, x7 = w5.heap.size := ⟨_, rfl⟩
    rw [← hU, ← hx7]
    have hx7l : z + 1 + 1 + 1 < x7 := by have := HSV.out; have := HSW.out; have := HB5.out.size; omega
    have hbU : Below w4.heap.size w4 U := by rw [hU]; exact HB5.out.trans (Joins.below_le (Joins.below_alloc1 w5 _) HB5.out.size)
    have l3 : z + 1 + 1 + 1 < w4.heap.size := by have := HSV.out; have := HSW.out; omega
    have hQ : RQ w z x7 S R1 ⟨k, e1, e2, e3, a2, s1, s2, s3, (p : Int), mx, lz, a7, a8⟩ (sumOf 1099511627776 (optT y lz 0)) U := by
      have hz := HZ.out
      refine ⟨hz, hx7l, (hbU.block z (by omega)).trans HN4.out, (hbU.block _ (by omega)).trans HX4'.out, (hbU.block _ (by omega)).trans HZ4'.out, (hbU.block _ (by omega)).trans HR4'.out, ?_, ?_⟩
      · rw [show optT y lz 0 = emptyT from rfl, sum_empty, hU, hx7]; exact heap_alloc_new w5 _
      · have := HB4'.out.trans (Joins.below_le hbU HB4'.out.size); rw [hz]; exact this
    have HQ := hid hQ
    clear hQ hU hx7 hx7l hbU l3 HB5 HN4 HX4' HZ4' HR4' HB4' HS4 HSV HX1 hx1W HBV VW0 VW1 VW2 VW3
    go_wp2_with fail
    go_loopw [8] (fun v wq => ∃ i : Nat, v = .int .i64 ((i : Int) + 1) ∧ i ≤ n ∧ Hid (RQ w z x7 S R1 ⟨k, e1, e2, e3, a2, s1, s2, s3, (p : Int), mx, lz, a7, a8⟩ (sumOf 1099511627776 (optT y lz i)) wq)) (fun v _ => n + 1 - (intOf v).toNat)
    case atStart => exact ⟨0, rfl, by omega, HQ⟩
    case round =>
      obtain ⟨i, rfl, hi, HQI⟩ := hrel
      obtain ⟨q0, q1, q2, q3, q4, q5, q6, q7, q8⟩ := nine' HQI.out.node
      by_cases hil : i < n
      · have b1 : decide ((i : Int) + 1 ≤ (n : Int)) = true := by simp; omega
        have b2 : (i : Int) + 1 ≤ (n : Int) := by omega
        have ad1 : IntKind.i64.wrap ((i : Int) + 1 + 1) = (i : Int) + 1 + 1 := by simp [IntKind.wrap, IntKind.bits, IntKind.signed]; omega
        go_upto_region 13 with fail
        obtain ⟨I0, hI⟩ : ∃ I0, I0 = wr.alloc (.cells #[.int .i64 0, .int .i64 0, .int .i64 0, .int .i64 0, .int .i64 0, .int .i64 0, .int .i64 0] 94) := ⟨_, rfl⟩
        obtain ⟨x9, hx9⟩ : ∃ x9, x9 = wr.heap.size := ⟨_, rfl⟩
        rw [← hI, ← hx9]
        have hl9 : x7 < x9 := by rw [hx9]; exact HQI.out.size
        have hQ1 : RQ w z x7 S R1 ⟨k, e1, e2, e3, a2, s1, s2, s3, (p : Int), mx, lz, a7, a8⟩ (sumOf 1099511627776 (optT y lz i)) I0 := HQI.out.low (by rw [hI]; exact Joins.below_le (Joins.below_alloc1 wr _) (by omega))
        have hr1 : BR I0 x9 r0 := by rw [hI, hx9]; exact heap_alloc_new wr _
        have HC1 : Calls Try.prog 53 #[.pointer (some ⟨x9, 0, none⟩), S.v, .int .i64 1] I0 _ := join71 x9 r0 S 1 I0 hr1 r0_ok HOK.out (by omega)
        obtain ⟨T, hT⟩ : ∃ T, T = sumOf 1099511627776 (optT y lz i) := ⟨_, rfl⟩
        rw [← hT] at hQ1
        have hokT : OkS T := by rw [hT]; exact oks (by have := opt_depth_le y lz hd (i := i) (by omega); omega)
        have HT := hid hT
        have HOT := hid hokT
        have HQ1 := hid hQ1
        have HL9 := hid hl9
        clear hI hx9 hQ1 hr1 hT hokT hl9 q0 q1 q2 q3 q4 q5 q6 q7 q8 HQI
        obtain ⟨z0, z1, z2, z3⟩ := four HQ1.out.sum
        go_upto_region 14 with (first | (go_at_call 53; (with_reducible refine HC1.mono ?_); rintro e w2 ⟨rfl, hr2, hc2⟩; have HR2 := hid hr2; have HK2 := hid hc2; clear hr2 hc2 HC1))
        have HQ2 := hid (HQ1.out.chg HK2.out HL9.out)
        have HC2 : Calls Try.prog 53 #[.pointer (some ⟨x9, 0, none⟩), T.v, .int .i64 1] w2 _ := join71 x9 _ T 1 w2 HR2.out (by rw [HS.out]; exact one_okr HNY.out 1 (by omega)) HOT.out (by omega)
        clear z0 z1 z2 z3 HR2 HK2 HQ1
        obtain ⟨z0, z1, z2, z3⟩ := four HQ2.out.opt
        go_upto_region 15 with (first | (go_at_call 53; (with_reducible refine HC2.mono ?_); rintro e w3 ⟨rfl, hr3, hc3⟩; have HR3 := hid hr3; have HK3 := hid hc3; clear hr3 hc3 HC2))
        have HQ3 := hid (HQ2.out.chg HK3.out HL9.out)
        have HC3 := joined73 x9 _ w3 HR3.out (by rw [HS.out, HT.out]; exact two_okr HNY.out (nf_opt lz HNY.out i) 1 1 (by omega) (by have := opt_depth_le y lz hd (i := i) (by omega); omega))
        obtain ⟨J, hJ⟩ : ∃ J, J = joinedR 1099511627776 (joinR 1099511627776 (joinR 1099511627776 r0 S 1) T 1) := ⟨_, rfl⟩
        rw [← hJ] at HC3
        have HJ := hid hJ
        clear z0 z1 z2 z3 HR3 HK3 HQ2 hJ
        go_upto_region 16 with (first | (go_at_call 55; (with_reducible refine HC3.mono ?_); rintro e w5 ⟨rfl, hb5⟩; have HB5 := hid hb5; clear hb5 HC3))
        obtain ⟨X0, hX⟩ : ∃ X0, X0 = w5.alloc (.cells #[.int .i64 J.k, .int .i64 (J.n : Int), .int .i64 (J.s : Int), .int .i64 (J.d : Int)] 67) := ⟨_, rfl⟩
        obtain ⟨x10, hx10⟩ : ∃ x10, x10 = w5.heap.size := ⟨_, rfl⟩
        rw [← hX, ← hx10]
        have hl10 : x7 < x10 := by rw [hx10]; have := HB5.out.size; have := HQ3.out.size; omega
        have hQX : RQ w z x7 S R1 ⟨k, e1, e2, e3, a2, s1, s2, s3, (p : Int), mx, lz, a7, a8⟩ T X0 := HQ3.out.low (by rw [hX]; exact Joins.below_le (HB5.out.trans (Joins.below_le (Joins.below_alloc1 w5 _) HB5.out.size)) (by have := HQ3.out.size; omega))
        have hX10 : B4 X0 x10 J := by rw [hX, hx10]; exact heap_alloc_new w5 _
        have hokJ : OkS J := by
          rw [HJ.out, HS.out, HT.out, two_sum HNY.out (nf_opt lz HNY.out i)]
          exact oks (by have := opt_depth_le y lz hd (i := i) (by omega); have := join_dle (y := y) (o := optT y lz i); omega)
        have HQX := hid hQX
        have HX10 := hid hX10
        have HL10 := hid hl10
        have HOJ := hid hokJ
        clear hX hx10 hl10 hQX hX10 hokJ HB5 HQ3
        by_cases hi0 : i = 0
        · have gi : ((i : Int) + 1 == 1) = true := by simp; omega
          obtain ⟨z0, z1, z2, z3⟩ := four HQX.out.sum
          obtain ⟨f0, f1, f2, f3⟩ := fourF HX10.out
          obtain ⟨Y0, hY⟩ : ∃ Y0, Y0 = ((((X0.setCell ⟨x10, 0, none⟩ (.int .i64 S.k)).setCell ⟨x10, 1, none⟩ (.int .i64 (S.n : Int))).setCell ⟨x10, 2, none⟩ (.int .i64 (S.s : Int))).setCell ⟨x10, 3, none⟩ (.int .i64 (S.d : Int))) := ⟨_, rfl⟩
          obtain ⟨c0, c1, c2, c3⟩ := four HX10.out
          have HI0 := hid hi0
          clear hi0
          go_upto_region 18 with fail
          rw [← hY]
          obtain ⟨y1, y2, y3⟩ := four_set X0 x10 (.int .i64 S.k) (.int .i64 (S.n : Int)) (.int .i64 (S.s : Int)) (.int .i64 (S.d : Int)) HX10.out
          have hbY := y3 _ _ (Below.refl (x7 + 1) X0) (by have := HL10.out; omega)
          rw [← hY] at y1 hbY
          have HQY := hid (HQX.out.low hbY)
          clear z0 z1 z2 z3 f0 f1 f2 f3 c0 c1 c2 c3 hY y2 y3 hbY
          obtain ⟨z0, z1, z2, z3⟩ := four (S := S) y1
          clear y1
          have HCO := over69 6 S Y0 HOK.out.n HOK.out.d
          obtain ⟨O, hO⟩ : ∃ O : S4, O = ⟨6, min (S.n + 1) 1099511627776, 1, S.d + 1⟩ := ⟨_, rfl⟩
          rw [← hO] at HCO
          have HO := hid hO
          clear hO
          go_wp2_with (first | (go_at_call 51; (with_reducible refine HCO.mono ?_); rintro e w6 ⟨rfl, hb6⟩; have hQ6 := HQY.out.low (Joins.below_le hb6 (by have := HQY.out.size; omega)); clear z0 z1 z2 z3; obtain ⟨z0, z1, z2, z3⟩ := four hQ6.opt; obtain ⟨f0, f1, f2, f3⟩ := fourF hQ6.opt; have HQ6 := hid hQ6; clear hQ6 hb6 HCO))
          have hfin := HQ6.out.set O
          have hOe : O = sumOf 1099511627776 (optT y lz (i + 1)) := by
            rw [opt_next y lz HNY.out i, HO.out]
            rw [if_pos HI0.out, ← HS.out]
          refine ⟨⟨i + 1, by push_cast; rfl, by omega, ?_⟩, by simp [intOf]; omega⟩
          rw [← hOe]
          exact hid hfin
        · have gi : ((i : Int) + 1 == 1) = false := by simp; omega
          obtain ⟨z0, z1, z2, z3⟩ := four HX10.out
          have HI0 := hid hi0
          clear hi0
          go_upto_region 18 with fail
          have HQY := HQX
          clear HQX
          have HCO := over69 6 J X0 HOJ.out.n HOJ.out.d
          obtain ⟨O, hO⟩ : ∃ O : S4, O = ⟨6, min (J.n + 1) 1099511627776, 1, J.d + 1⟩ := ⟨_, rfl⟩
          rw [← hO] at HCO
          have HO := hid hO
          clear hO
          go_wp2_with (first | (go_at_call 51; (with_reducible refine HCO.mono ?_); rintro e w6 ⟨rfl, hb6⟩; have hQ6 := HQY.out.low (Joins.below_le hb6 (by have := HQY.out.size; omega)); clear z0 z1 z2 z3; obtain ⟨z0, z1, z2, z3⟩ := four hQ6.opt; obtain ⟨f0, f1, f2, f3⟩ := fourF hQ6.opt; have HQ6 := hid hQ6; clear hQ6 hb6 HCO))
          have hfin := HQ6.out.set O
          have hOe : O = sumOf 1099511627776 (optT y lz (i + 1)) := by
            rw [opt_next y lz HNY.out i, HO.out]
            rw [if_neg HI0.out, ← HS.out, ← HT.out, ← HJ.out]
          refine ⟨⟨i + 1, by push_cast; rfl, by omega, ?_⟩, by simp [intOf]; omega⟩
          rw [← hOe]
          exact hid hfin
      · obtain rfl : i = n := by omega
        have b1 : decide ((i : Int) + 1 ≤ (i : Int)) = false := decide_eq_false (by omega)
        have HQ7 := HQI
        obtain ⟨T, hT⟩ : ∃ T, T = sumOf 1099511627776 (optT y lz i) := ⟨_, rfl⟩
        rw [← hT] at HQ7
        have hokT : OkS T := by rw [hT]; exact oks (by have := opt_depth_le y lz hd (i := i) (by omega); omega)
        obtain ⟨z0, z1, z2, z3⟩ := four HQ7.out.opt
        have HC1 : Calls Try.prog 53 #[.pointer (some ⟨z + 1 + 1 + 1, 0, none⟩), T.v, .int .i64 1] wr _ := join71 (z + 1 + 1 + 1) R1 T 1 wr HQ7.out.row (by rw [HR1.out, HS.out]; exact one_okr HNY.out p (by omega)) hokT (by omega)
        have HT := hid hT
        clear hT hokT HQI
        go_upto_region 20 with (first | (go_at_call 53; (with_reducible refine HC1.mono ?_); rintro e w3 ⟨rfl, hr3, hc3⟩; have HR3 := hid hr3; have HK3 := hid hc3; clear hr3 hc3 HC1))
        obtain ⟨HX5, HZ5, HS5, HB5⟩ := kept4 (b := z + 1 + 1 + 1) (x := x7) (r := z + 1 + 1) HK3.out HQ7.out.opt HQ7.out.res (by have := HQ7.out.hx; omega) (by omega) HQ7.out.below (by omega) (by omega)
        have hok5 : OkR (joinR 1099511627776 R1 T 1) := by
          rw [HR1.out, HS.out, HT.out]
          exact two_okr HNY.out (nf_opt lz HNY.out i) p 1 (by omega) (by have := opt_depth_le y lz hd (i := i) (by omega); omega)
        have HC6 := joined73 (z + 1 + 1 + 1) _ w3 HR3.out hok5
        have HJ : RT = joinedR 1099511627776 (joinR 1099511627776 R1 T 1) := by
          rw [HRT.out, HR1.out, HS.out, HT.out, two_sum HNY.out (nf_opt lz HNY.out i), HM.out]
          unfold repT
          rw [if_pos (by omega), show ((p : Int)).toNat = p by omega, show (((p + i : Nat) : Int) - (p : Int)).toNat = i by omega]
        rw [← HJ] at HC6
        have HZ5' := hid HZ5
        have HB5' := hid HB5
        clear HX5 HZ5 HB5 hok5 HJ z0 z1 z2 z3 HK3 HR3 HS5 q0 q1 q2 q3 q4 q5 q6 q7 q8
        go_wp2_with (first | (go_at_call 55; (with_reducible refine HC6.mono ?_); rintro e w6 ⟨rfl, hb6⟩; have hz6 := (hb6.block (z + 1 + 1) (Array.getElem?_eq_some_iff.1 HZ5'.out).1).trans HZ5'.out; obtain ⟨z0, z1, z2, z3⟩ := four hz6; obtain ⟨f0, f1, f2, f3⟩ := fourF hz6; have HZ6 := hid hz6; have HB6 := hid (HB5'.out.trans (Joins.below_le hb6 (by have := (Array.getElem?_eq_some_iff.1 HZ5'.out).1; omega))); clear hz6 hb6 HC6))
        all_goals
          obtain ⟨y1, y3⟩ := four_end (T := RT) HZ6.out HB6.out (by omega)
          replace y3 := Joins.below_le y3 (show w.heap.size ≤ z by have := HZ.out; omega)
          exact bodyPost_ret (results_cell_row rfl _ _ (z + 1 + 1) 67 _ (0, 0) _ rfl y1 Try.underlying67 rfl (by kernel_rfl)) rfl ⟨rfl, y3⟩
end Go.Proofs.Ytnecakampgdhcaa
/- HELPERS: the document's reckoning of a tree. -/
namespace Go.Proofs.Ytnecakampgdhcaa
open Go.RowKit
set_option linter.unusedVariables false
set_option linter.unusedSimpArgs false
/-- what stands while a row is reckoned -/
structure RK (w : World) (z : Nat) (N : Nv) (r : R7) (wq : World) : Prop where
  hz : z = w.heap.size
  node : BN wq z N
  res : B4 wq (z + 1) ⟨0, 0, 0, 0⟩
  row : BR wq (z + 1 + 1) r
  below : Below z w wq
theorem RK.size {w : World} {z : Nat} {N : Nv} {r : R7} {wq : World} (h : RK w z N r wq) : z + 1 + 1 < wq.heap.size := (Array.getElem?_eq_some_iff.1 h.row).1
theorem RK.low {w : World} {z : Nat} {N : Nv} {r : R7} {wq w' : World} (h : RK w z N r wq) (hb : Below (z + 1 + 1 + 1) wq w') : RK w z N r w' :=
  ⟨h.hz, (hb.block _ (by omega)).trans h.node, (hb.block _ (by omega)).trans h.res, (hb.block _ (by omega)).trans h.row, h.below.trans (Joins.below_le hb (by omega))⟩
theorem RK.chg {w : World} {z : Nat} {N : Nv} {r r' : R7} {wq w' : World} (h : RK w z N r wq) (hc : Chg wq w' [z + 1 + 1] [z + 1 + 1]) (hr : BR w' (z + 1 + 1) r') : RK w z N r' w' := by
  have hs := h.size
  exact ⟨h.hz, (hc.block _ (by omega) (by simp; omega)).trans h.node, (hc.block _ (by omega) (by simp)).trans h.res, hr, h.below.trans (hc.below (by omega) (by simp; omega))⟩
theorem ones_take (ts : List Tn) (i : Nat) (h : i < ts.length) : ones (SL (ts.take (i + 1))) = ones (SL (ts.take i)) ++ [((ts[i]).S, 1)] := by
  rw [SL_map, SL_map, List.take_succ_eq_append_getElem h]
  simp only [ones, List.map_append, List.map_cons, List.map_nil]
theorem take_deep {ts : List Tn} {M : Nat} (h : ∀ i (hi : i < ts.length), (ts[i]).S.depth ≤ M) (n : Nat) : ∀ x ∈ ones (SL (ts.take n)), x.1.depth ≤ M := fun x hx => by
  obtain ⟨u, hu, rfl⟩ := List.mem_map.1 hx
  rw [SL_map] at hu
  obtain ⟨v, hv, rfl⟩ := List.mem_map.1 hu
  obtain ⟨j, hj, rfl⟩ := List.getElem_of_mem (List.mem_of_mem_take hv)
  exact h j hj
theorem take_nf {ts : List Tn} (h : ∀ i (hi : i < ts.length), Nf (ts[i]).S) (n : Nat) : ∀ x ∈ ones (SL (ts.take n)), Nf x.1 := fun x hx => by
  obtain ⟨u, hu, rfl⟩ := List.mem_map.1 hx
  rw [SL_map] at hu
  obtain ⟨v, hv, rfl⟩ := List.mem_map.1 hu
  obtain ⟨j, hj, rfl⟩ := List.getElem_of_mem (List.mem_of_mem_take hv)
  exact h j hj
theorem sum_group (y : Tn) (ix : Int) (nm : ByteArray) : sumOf 1099511627776 (.mk 7 [] 0 [y] 0 0 false ix nm) = ⟨7, min ((sumOf 1099511627776 y).n + 1) 1099511627776, 1, (sumOf 1099511627776 y).d + 1⟩ := by
  have h1 : (Tn.mk 7 [] 0 [y] 0 0 false ix nm).nodes = y.nodes + 1 := by simp [Tn.nodes, nodesL]; omega
  have h2 : (Tn.mk 7 [] 0 [y] 0 0 false ix nm).depth = y.depth + 1 := by simp [Tn.depth, depthL]; omega
  unfold sumOf
  rw [h1, h2]
  simp only [Tn.kind, Tn.subs, List.length_cons, List.length_nil]
  congr 1 <;> omega
set_option maxRecDepth 100000 in
set_option maxHeartbeats 8000000 in
theorem reckon50 {w0 : World} {B : Nat} {N : Nv} {t : Tn} (h : TI w0 B N t) : t.fine = true → t.depth ≤ 100000 → ∀ (w : World), B ≤ w.heap.size → (∀ b, b < B → w.heap[b]? = w0.heap[b]?) →
    Calls Try.prog 35 #[N.v] w fun e w' => e = .returned (S4.v (sumOf 1099511627776 t.S)) ∧ Below w.heap.size w w' := by
  induction h with
  | @mk N R ts ND ok hr hR hRk hs hS hk ih =>
  intro hf hdp w hB hw
  have hdS : (Tn.mk N.k R N.a2 ts N.a4 N.a5 N.a6 N.a7 N.a8).depth = 1 + depthL ts := by simp only [Tn.depth]
  rw [hdS] at hdp
  simp only [Tn.fine, Bool.and_eq_true] at hf
  have hfk := fine_kind hf.1
  have ihS : ∀ i (hi : i < ts.length), ∀ w1 : World, B ≤ w1.heap.size → (∀ b, b < B → w1.heap[b]? = w0.heap[b]?) → Calls Try.prog 35 #[(ND i).v] w1 fun e w' => e = .returned (S4.v (sumOf 1099511627776 (ts[i]).S)) ∧ Below w1.heap.size w1 w' := fun i hi =>
    ih i hi (fineL_get hf.2 i hi) (by have := depthL_mem (List.getElem_mem hi); omega)
  have hSd : ∀ i (hi : i < ts.length), (ts[i]).S.depth ≤ 1000000000 := fun i hi => by
    have := S_depth ts[i] (fineL_get hf.2 i hi)
    have := depthL_mem (List.getElem_mem hi)
    omega
  have hNf : ∀ i (hi : i < ts.length), Nf (ts[i]).S := fun i hi => nf_S _ (fineL_get hf.2 i hi)
  have hm2 : N.s2 ≤ 9223372036854775807 := by have := ok.s; have : maxLen = 9223372036854775807 := rfl; omega
  obtain ⟨k, r1, r2, r3, a2, s1, s2, s3, a4, a5, a6, a7, a8⟩ := N
  dsimp only at hs hS hfk hr hm2 ⊢
  obtain ⟨W, hW⟩ : ∃ W, W = (w.alloc (.cells #[.int .i64 k, .slice r1 r2 r3, .int .i64 a2, .slice s1 s2 s3, .int .i64 a4, .int .i64 a5, .bool a6, .int .i64 a7, .string a8] 39)).alloc (.cells #[.int .i64 0, .int .i64 0, .int .i64 0, .int .i64 0] 67) := ⟨_, rfl⟩
  have hBW : Below w.heap.size w W := by rw [hW]; exact below_two' w _ _
  have hSW : W.heap.size = w.heap.size + 1 + 1 := by rw [hW]; simp
  have hBN : BN W w.heap.size ⟨k, r1, r2, r3, a2, s1, s2, s3, a4, a5, a6, a7, a8⟩ := by rw [hW]; exact (heap_alloc_old _ _ (by simp)).trans (heap_alloc_new w _)
  have hZW : B4 W (w.heap.size + 1) ⟨0, 0, 0, 0⟩ := by rw [hW]; exact two_new w _ _ _
  obtain ⟨z, hz⟩ : ∃ z, z = w.heap.size := ⟨_, rfl⟩
  rw [← hz] at hBN hSW hZW
  have hwW : ∀ b, b < B → W.heap[b]? = w0.heap[b]? := fun b hb => (hBW.block b (by omega)).trans (hw b hb)
  obtain ⟨q0, q1, q2, q3, q4, q5, q6, q7, q8⟩ := nine' hBN
  have hsub : 0 < s2 → ∃ b o, s1 = some ⟨b, o, none⟩ ∧ b < B ∧ ∀ i, i < s2 → N9 w0 b o i (ND i) := fun hp => by
    obtain ⟨b, o, h1, h2, h3⟩ := hS (by omega)
    exact ⟨b, o, h1, by omega, fun i hi => h3 i (by omega)⟩
  have HBN := hid hBN
  have HBW := hid hBW
  have HSW := hid hSW
  have HZW := hid hZW
  have HZ := hid hz
  have HWW := hid hwW
  have HIS := hid ihS
  have HSD := hid hSd
  have HNF := hid hNf
  have HSUB := hid hsub
  have HL := hid hs
  have HBB := hid hB
  have HFK := hid hfk
  have HW0 := hid hw
  clear hw hBN hBW hSW hZW hwW ihS hSd hNf hsub ok hr hs hR hRk hS hk ih hf hdp hdS hfk hB
  by_cases k7 : k = 7
  · subst k7
    have hlt : 0 < ts.length := by have := HFK.out; have := HL.out; omega
    have hSS : (Tn.mk 7 R a2 ts a4 a5 a6 a7 a8).S = .mk 7 [] 0 [(ts[0]'hlt).S] 0 0 false a7 a8 := by simp only [Tn.S]; rw [if_neg (by decide), if_neg (by decide), if_neg (by decide), if_pos trivial, SL_head hlt]
    rw [hSS]
    clear hSS
    have hfk : s2 = 1 := by have := HFK.out; have := HL.out; omega
    obtain ⟨b, o, hs1, hbl, h9⟩ := HSUB.out (by omega)
    subst hs1 hfk
    have hM := h9 0 (by omega)
    obtain ⟨M, hMe⟩ : ∃ M, M = ND 0 := ⟨_, rfl⟩
    rw [← hMe] at hM
    have HME := hid hMe
    obtain ⟨n0, n1, n2, n3, n4, n5, n6, n7, n8⟩ := hM.kept (HWW.out b hbl)
    simp only [Nat.zero_mul, Nat.add_zero] at n0 n1 n2 n3 n4 n5 n6 n7 n8
    clear h9 hMe hM
    obtain ⟨T, hT⟩ : ∃ T, T = sumOf 1099511627776 (ts[0]'hlt).S := ⟨_, rfl⟩
    have HC := HIS.out 0 hlt W (by have := HBB.out; have := HSW.out; have := HZ.out; omega) HWW.out
    rw [← hT, ← HME.out] at HC
    have hokT : OkS T := by rw [hT]; exact oks (by have := HSD.out 0 hlt; omega)
    have HT := hid hT
    have HOT := hid hokT
    obtain ⟨RT, hRT⟩ : ∃ RT, RT = sumOf 1099511627776 (Tn.mk 7 [] 0 [(ts[0]'hlt).S] 0 0 false a7 a8) := ⟨_, rfl⟩
    rw [← hRT]
    have HRT := hid hRT
    clear hT hokT hRT
    go_enter Try.func35, Try.ntmps35
    go_upto_region 1 with fail
    rw [← hz, ← hW]
    clear hW hz
    go_wp2_with (first | (go_at_call 35; (with_reducible refine HC.mono ?_); rintro e w1 ⟨rfl, hb1⟩; have HC2 := over69 7 T w1 HOT.out.n HOT.out.d; rw [show (⟨7, min (T.n + 1) 1099511627776, 1, T.d + 1⟩ : S4) = RT by rw [HRT.out, sum_group, ← HT.out]] at HC2; have hz1 := (hb1.block (z + 1) (by have := HSW.out; omega)).trans HZW.out; have hn1 := (hb1.block z (by have := HSW.out; omega)).trans HBN.out; have HZ1 := hid hz1; have HB1 := hid (HBW.out.trans (Joins.below_le hb1 HBW.out.size)); clear q0 q1 q2 q3 q4 q5 q6 q7 q8 n0 n1 n2 n3 n4 n5 n6 n7 n8; obtain ⟨q0, q1, q2, q3, q4, q5, q6, q7, q8⟩ := nine' hn1; clear hn1 hz1 hb1 HC) | (go_at_call 51; (with_reducible refine HC2.mono ?_); rintro e w2 ⟨rfl, hb2⟩; have hz2 := (hb2.block (z + 1) (Array.getElem?_eq_some_iff.1 HZ1.out).1).trans HZ1.out; obtain ⟨z0, z1, z2, z3⟩ := four hz2; obtain ⟨f0, f1, f2, f3⟩ := fourF hz2; have HZ2 := hid hz2; have HB2 := hid (HB1.out.trans (Joins.below_le hb2 HB1.out.size)); clear hz2 hb2 HC2))
    all_goals
      obtain ⟨y1, y3⟩ := four_end (T := RT) HZ2.out HB2.out (by have := HZ.out; omega)
      exact bodyPost_ret (results_cell_row rfl _ _ (z + 1) 67 _ (0, 0) _ rfl y1 Try.underlying67 rfl (by kernel_rfl)) rfl ⟨rfl, y3⟩
  · have g7 : (k == 7) = false := by simp [k7]
    by_cases k6 : k = 6
    · subst k6
      have hlt : 0 < ts.length := by have := HFK.out; have := HL.out; omega
      have hSS : (Tn.mk 6 R a2 ts a4 a5 a6 a7 a8).S = repT (ts[0]'hlt).S a4 a5 a6 := by simp only [Tn.S]; rw [if_neg (by decide), if_neg (by decide), if_pos trivial, SL_head hlt]
      rw [hSS]
      clear hSS
      have hfk : s2 = 1 := by have := HFK.out; have := HL.out; omega
      have HF6 : Hid (0 ≤ a4 ∧ a4 ≤ 1000 ∧ (a5 = -1 ∨ a4 ≤ a5 ∧ a5 ≤ 1000)) := hid (by have := HFK.out; have := HL.out; omega)
      obtain ⟨b, o, hs1, hbl, h9⟩ := HSUB.out (by omega)
      subst hs1 hfk
      have hM := h9 0 (by omega)
      obtain ⟨M, hMe⟩ : ∃ M, M = ND 0 := ⟨_, rfl⟩
      rw [← hMe] at hM
      have HME := hid hMe
      obtain ⟨n0, n1, n2, n3, n4, n5, n6, n7, n8⟩ := hM.kept (HWW.out b hbl)
      simp only [Nat.zero_mul, Nat.add_zero] at n0 n1 n2 n3 n4 n5 n6 n7 n8
      have HMM := hid hM
      clear h9 hMe hM
      obtain ⟨T, hT⟩ : ∃ T, T = sumOf 1099511627776 (ts[0]'hlt).S := ⟨_, rfl⟩
      have HC := HIS.out 0 hlt W.drew (by show B ≤ W.heap.size; have := HBB.out; have := HSW.out; have := HZ.out; omega) HWW.out
      rw [← hT, ← HME.out] at HC
      have hokT : OkS T := by rw [hT]; exact oks (by have := HSD.out 0 hlt; omega)
      have HT := hid hT
      have HOT := hid hokT
      obtain ⟨RT, hRT⟩ : ∃ RT, RT = sumOf 1099511627776 (repT (ts[0]'hlt).S a4 a5 a6) := ⟨_, rfl⟩
      rw [← hRT]
      have HRT := hid hRT
      have hS : ∀ w3 : World, (∀ k, k < z + 1 → w3.heap[k]? = W.heap[k]?) → w3.cell? ⟨z, 0, none⟩ = some (.int .i64 6) ∧ w3.cell? ⟨z, 1, none⟩ = some (.slice r1 r2 r3) ∧ w3.cell? ⟨z, 2, none⟩ = some (.int .i64 a2) ∧ w3.cell? ⟨z, 3, none⟩ = some (.slice (some ⟨b, o, none⟩) 1 s3) ∧ w3.cell? ⟨z, 4, none⟩ = some (.int .i64 a4) ∧ w3.cell? ⟨z, 5, none⟩ = some (.int .i64 a5) ∧ w3.cell? ⟨z, 6, none⟩ = some (.bool a6) ∧ w3.cell? ⟨z, 7, none⟩ = some (.int .i64 a7) ∧ w3.cell? ⟨z, 8, none⟩ = some (.string a8) ∧ w3.cell? ⟨b, o, none⟩ = some (.int .i64 M.k) ∧ w3.cell? ⟨b, o + 1, none⟩ = some (.slice M.r1 M.r2 M.r3) ∧ w3.cell? ⟨b, o + 2, none⟩ = some (.int .i64 M.a2) ∧ w3.cell? ⟨b, o + 3, none⟩ = some (.slice M.s1 M.s2 M.s3) ∧ w3.cell? ⟨b, o + 4, none⟩ = some (.int .i64 M.a4) ∧ w3.cell? ⟨b, o + 5, none⟩ = some (.int .i64 M.a5) ∧ w3.cell? ⟨b, o + 6, none⟩ = some (.bool M.a6) ∧ w3.cell? ⟨b, o + 7, none⟩ = some (.int .i64 M.a7) ∧ w3.cell? ⟨b, o + 8, none⟩ = some (.string M.a8) := fun w3 h3 => by
        have hq3 := (h3 z (by omega)).trans HBN.out
        obtain ⟨q0, q1, q2, q3, q4, q5, q6, q7, q8⟩ := nine' hq3
        obtain ⟨n0, n1, n2, n3, n4, n5, n6, n7, n8⟩ := HMM.out.kept ((h3 b (by have := HBB.out; have := HZ.out; omega)).trans (HWW.out b hbl))
        simp only [Nat.zero_mul, Nat.add_zero] at n0 n1 n2 n3 n4 n5 n6 n7 n8
        exact ⟨q0, q1, q2, q3, q4, q5, q6, q7, q8, n0, n1, n2, n3, n4, n5, n6, n7, n8⟩
      have HS3 := hid hS
      have HD := hid (below_drew W)
      clear hT hokT hRT hS n0 n1 n2 n3 n4 n5 n6 n7 n8
      go_enter Try.func35, Try.ntmps35
      go_upto_region 1 with fail
      rw [← hz, ← hW]
      clear hW hz
      go_upto_region 5 with fail
      go_region_held2 (fun w3 => w3.cell? ⟨z, 0, none⟩ = some (.int .i64 6) ∧ w3.cell? ⟨z, 1, none⟩ = some (.slice r1 r2 r3) ∧ w3.cell? ⟨z, 2, none⟩ = some (.int .i64 a2) ∧ w3.cell? ⟨z, 3, none⟩ = some (.slice (some ⟨b, o, none⟩) 1 s3) ∧ w3.cell? ⟨z, 4, none⟩ = some (.int .i64 a4) ∧ w3.cell? ⟨z, 5, none⟩ = some (.int .i64 a5) ∧ w3.cell? ⟨z, 6, none⟩ = some (.bool a6) ∧ w3.cell? ⟨z, 7, none⟩ = some (.int .i64 a7) ∧ w3.cell? ⟨z, 8, none⟩ = some (.string a8) ∧ w3.cell? ⟨b, o, none⟩ = some (.int .i64 M.k) ∧ w3.cell? ⟨b, o + 1, none⟩ = some (.slice M.r1 M.r2 M.r3) ∧ w3.cell? ⟨b, o + 2, none⟩ = some (.int .i64 M.a2) ∧ w3.cell? ⟨b, o + 3, none⟩ = some (.slice M.s1 M.s2 M.s3) ∧ w3.cell? ⟨b, o + 4, none⟩ = some (.int .i64 M.a4) ∧ w3.cell? ⟨b, o + 5, none⟩ = some (.int .i64 M.a5) ∧ w3.cell? ⟨b, o + 6, none⟩ = some (.bool M.a6) ∧ w3.cell? ⟨b, o + 7, none⟩ = some (.int .i64 M.a7) ∧ w3.cell? ⟨b, o + 8, none⟩ = some (.string M.a8))
        (first | exact HS3.out _ (fun k hk => HD.out.block k (by have := HSW.out; omega)) | exact HS3.out _ (fun k hk => HB1.out.block k (by have := HSW.out; omega)) | exact HS3.out _ (fun k hk => HB2.out.block k (by have := HSW.out; omega)) | exact HS3.out _ (fun k hk => ((four_set w2 (z + 1) (.int .i64 RT.k) (.int .i64 (RT.n : Int)) (.int .i64 (RT.s : Int)) (.int .i64 (RT.d : Int)) HZ2.out).2.1 k (by omega)).trans (HB2.out.block k (by have := HSW.out; omega))))
        (first | (go_at_call 35; (with_reducible refine HC.mono ?_); rintro e w1 ⟨rfl, hb1⟩; have HC2 := repeat70 ⟨6, r1, r2, r3, a2, some ⟨b, o, none⟩, 1, s3, a4, a5, a6, a7, a8⟩ (ts[0]'hlt).S w1 (HNF.out 0 hlt) (HSD.out 0 hlt) HF6.out.1 HF6.out.2.1 HF6.out.2.2; rw [← HT.out, ← HRT.out] at HC2; have HB1 := hid (HD.out.trans (Joins.below_le hb1 HD.out.size)); clear hb1 HC) | (go_at_call 52; (with_reducible refine HC2.mono ?_); rintro e w2 ⟨rfl, hb2⟩; have HB2 := hid (HB1.out.trans (Joins.below_le hb2 HB1.out.size)); have hz2 := (HB2.out.block (z + 1) (by have := HSW.out; omega)).trans HZW.out; obtain ⟨c0, c1, c2, c3⟩ := four hz2; obtain ⟨f0, f1, f2, f3⟩ := fourF hz2; have HZ2 := hid hz2; clear hz2 hb2 HC2))
      all_goals
        obtain ⟨y1, y3⟩ := four_end (T := RT) HZ2.out (HBW.out.trans (Joins.below_le HB2.out HBW.out.size)) (by have := HZ.out; omega)
        go_wp2
        exact bodyPost_ret (results_cell_row rfl _ _ (z + 1) 67 _ (0, 0) _ rfl y1 Try.underlying67 rfl (by kernel_rfl)) rfl ⟨rfl, y3⟩
    · have g6 : (k == 6) = false := by simp [k6]
      by_cases k45 : k = 4 ∨ k = 5
      · by_cases k4 : k = 4
        · subst k4
          have hSS : (Tn.mk 4 R a2 ts a4 a5 a6 a7 a8).S = joinT (ones (SL ts)) := by simp [Tn.S]
          rw [hSS]
          clear hSS k7 k6 k45 
          obtain ⟨V, hV⟩ : ∃ V, V = W.alloc (.cells #[.int .i64 0, .int .i64 0, .int .i64 0, .int .i64 0, .int .i64 0, .int .i64 0, .int .i64 0] 94) := ⟨_, rfl⟩
          have hK : RK w z ⟨4, r1, r2, r3, a2, s1, s2, s3, a4, a5, a6, a7, a8⟩ r0 V := by
            have hz' := HZ.out
            have hsw := HSW.out
            refine ⟨hz', ?_, ?_, ?_, ?_⟩
            · rw [hV]; exact (heap_alloc_old _ _ (by omega)).trans HBN.out
            · rw [hV]; exact (heap_alloc_old _ _ (by omega)).trans HZW.out
            · rw [hV, ← hsw]; exact heap_alloc_new W _
            · rw [hV, hz']; exact HBW.out.trans (Joins.below_le (Joins.below_alloc1 W _) HBW.out.size)
          have HK := hid hK
          have HV := hid hV
          have hsW := HSW.out
          clear hK hV
          go_enter Try.func35, Try.ntmps35
          go_upto_region 1 with fail
          rw [← hz, ← hW]
          clear hW hz
          go_wp2_with fail
          rw [← HV.out]
          clear hsW HBN HZW HBW
          go_loopw [4] (fun v wq => ∃ i : Nat, v = .int .i64 (i : Int) ∧ i ≤ s2 ∧ ∃ r : R7, Hid (RowOf 1099511627776 (rowS 4 ((ones (SL (ts.take i))).filter keep)) r) ∧ Hid (RK w z ⟨4, r1, r2, r3, a2, s1, s2, s3, a4, a5, a6, a7, a8⟩ r wq)) (fun v _ => s2 - (intOf v).toNat)
          case atStart => exact ⟨0, rfl, by omega, r0, hid (by simpa [rowS, SL] using row_none 1099511627776), HK⟩
          case round =>
            obtain ⟨i, rfl, hi, r, HRO, HKI⟩ := hrel
            clear q0 q1 q2 q3 q4 q5 q6 q7 q8
            obtain ⟨q0, q1, q2, q3, q4, q5, q6, q7, q8⟩ := nine' HKI.out.node
            have hokr : OkR r := okr HRO.out (Nat.le_trans (rowS_dle 4 _ fun x hx => take_deep HSD.out i x (List.mem_filter.1 hx).1) (by omega : 1000000000 ≤ 4000000000))
            have HOR := hid hokr
            clear hokr
            by_cases hil : i < s2
            · have b1 : decide ((i : Int) < (s2 : Int)) = true := by simp; omega
              have b2 : (i : Int) < (s2 : Int) := by omega
              have ad1 : IntKind.i64.wrap ((i : Int) + 1) = (i : Int) + 1 := by simp [IntKind.wrap, IntKind.bits, IntKind.signed]; omega
              have hlt : i < ts.length := by have := HL.out; omega
              obtain ⟨b, o, rfl, hbl, h9⟩ := HSUB.out (by omega)
              have hw0 : ∀ b, b < B → wr.heap[b]? = w0.heap[b]? := fun b hb => (HKI.out.below.block b (by have := HBB.out; have := HZ.out; omega)).trans (HW0.out b hb)
              obtain ⟨n0, n1, n2, n3, n4, n5, n6, n7, n8⟩ := (h9 i hil).kept (hw0 b hbl)
              have HC := HIS.out i hlt wr (by have := HKI.out.size; have := HBB.out; have := HZ.out; omega) hw0
              obtain ⟨T, hT⟩ : ∃ T, T = sumOf 1099511627776 (ts[i]).S := ⟨_, rfl⟩
              obtain ⟨M, hM⟩ : ∃ M, M = ND i := ⟨_, rfl⟩
              rw [← hT, ← hM] at HC
              rw [← hM] at n0 n1 n2 n3 n4 n5 n6 n7 n8
              have hokT : OkS T := by rw [hT]; exact oks (by have := HSD.out i hlt; omega)
              have HT := hid hT
              have HOT := hid hokT
              clear hT hokT hM h9 hw0
              go_upto_region 13 with (first | (go_at_call 35; (with_reducible refine HC.mono ?_); rintro e w1 ⟨rfl, hb1⟩; have HB1 := hid hb1; clear hb1 HC))
              obtain ⟨X, hX⟩ : ∃ X, X = w1.alloc (.cells T.c 67) := ⟨_, rfl⟩
              obtain ⟨x5, hx5⟩ : ∃ x5, x5 = w1.heap.size := ⟨_, rfl⟩
              rw [← hX, ← hx5]
              have hKX : RK w z ⟨4, r1, r2, r3, a2, some ⟨b, o, none⟩, s2, s3, a4, a5, a6, a7, a8⟩ r X := HKI.out.low (by rw [hX]; exact Joins.below_le (HB1.out.trans (Joins.below_le (Joins.below_alloc1 w1 _) HB1.out.size)) (by have := HKI.out.size; omega))
              have hx5X : B4 X x5 T := by rw [hX, hx5]; exact heap_alloc_new w1 _
              have HCJ : Calls Try.prog 53 #[.pointer (some ⟨z + 1 + 1, 0, none⟩), T.v, .int .i64 1] X _ := join71 (z + 1 + 1) r T 1 X hKX.row HOR.out HOT.out (by omega)
              have HKX := hid hKX
              clear q0 q1 q2 q3 q4 q5 q6 q7 q8 n0 n1 n2 n3 n4 n5 n6 n7 n8 hX hx5 HB1 HKI hKX
              obtain ⟨q0, q1, q2, q3, q4, q5, q6, q7, q8⟩ := nine' HKX.out.node
              obtain ⟨z0, z1, z2, z3⟩ := four hx5X
              clear hx5X
              go_wp2_with (first | (go_at_call 53; (with_reducible refine HCJ.mono ?_); rintro e w2 ⟨rfl, hr2, hc2⟩; have HR2 := hid hr2; have HK2 := hid hc2; clear hr2 hc2 HCJ))
              refine ⟨⟨i + 1, by push_cast; rfl, by omega, _, hid ?_, hid (HKX.out.chg HK2.out HR2.out)⟩, by simp [intOf]; omega⟩
              rw [HT.out, ones_take ts i hlt]
              exact join_row (by omega) HRO.out (HNF.out i hlt) 1
            · have b1 : decide ((i : Int) < (s2 : Int)) = false := by simp; omega
              obtain rfl : i = s2 := by omega
              have HC6 := joined73 (z + 1 + 1) r wr HKI.out.row HOR.out
              have HJ : joinedR 1099511627776 r = sumOf 1099511627776 (joinT (ones (SL ts))) := by
                have h := HRO.out
                rw [List.take_of_length_le (by have := HL.out; omega)] at h
                exact joined_sum (by omega) (fun x hx => take_nf HNF.out ts.length x (by rw [List.take_length]; exact hx)) h
              rw [HJ] at HC6
              clear HJ
              obtain ⟨RT, hRT⟩ : ∃ RT, RT = sumOf 1099511627776 (joinT (ones (SL ts))) := ⟨_, rfl⟩
              rw [← hRT] at HC6
              have HRT := hid hRT
              clear hRT
              go_wp2_with (first | (go_at_call 55; (with_reducible refine HC6.mono ?_); rintro e w6 ⟨rfl, hb6⟩; have hK6 := HKI.out.low (Joins.below_le hb6 (by have := HKI.out.size; omega)); obtain ⟨z0, z1, z2, z3⟩ := four hK6.res; obtain ⟨f0, f1, f2, f3⟩ := fourF hK6.res; have HK6 := hid hK6; clear hK6 hb6 HC6))
              all_goals
                obtain ⟨y1, y3⟩ := four_end (T := RT) HK6.out.res HK6.out.below (by omega)
                replace y3 := Joins.below_le y3 (show w.heap.size ≤ z by have := HZ.out; omega)
                refine bodyPost_ret (results_cell_row rfl _ _ (z + 1) 67 _ (0, 0) _ rfl y1 Try.underlying67 rfl (by kernel_rfl)) rfl ⟨?_, y3⟩
                rw [← HRT.out]
        · obtain rfl : k = 5 := by omega
          have hSS : (Tn.mk 5 R a2 ts a4 a5 a6 a7 a8).S = rowT 5 (ones (SL ts)) := by simp [Tn.S]
          rw [hSS]
          clear hSS k7 k6 k45 k4
          obtain ⟨V, hV⟩ : ∃ V, V = W.alloc (.cells #[.int .i64 0, .int .i64 0, .int .i64 0, .int .i64 0, .int .i64 0, .int .i64 0, .int .i64 0] 94) := ⟨_, rfl⟩
          have hK : RK w z ⟨5, r1, r2, r3, a2, s1, s2, s3, a4, a5, a6, a7, a8⟩ r0 V := by
            have hz' := HZ.out
            have hsw := HSW.out
            refine ⟨hz', ?_, ?_, ?_, ?_⟩
            · rw [hV]; exact (heap_alloc_old _ _ (by omega)).trans HBN.out
            · rw [hV]; exact (heap_alloc_old _ _ (by omega)).trans HZW.out
            · rw [hV, ← hsw]; exact heap_alloc_new W _
            · rw [hV, hz']; exact HBW.out.trans (Joins.below_le (Joins.below_alloc1 W _) HBW.out.size)
          have HK := hid hK
          have HV := hid hV
          have hsW := HSW.out
          clear hK hV
          go_enter Try.func35, Try.ntmps35
          go_upto_region 1 with fail
          rw [← hz, ← hW]
          clear hW hz
          go_wp2_with fail
          rw [← HV.out]
          clear hsW HBN HZW HBW
          go_loopw [4] (fun v wq => ∃ i : Nat, v = .int .i64 (i : Int) ∧ i ≤ s2 ∧ ∃ r : R7, Hid (RowOf 1099511627776 (rowS 5 (ones (SL (ts.take i)))) r) ∧ Hid (RK w z ⟨5, r1, r2, r3, a2, s1, s2, s3, a4, a5, a6, a7, a8⟩ r wq)) (fun v _ => s2 - (intOf v).toNat)
          case atStart => exact ⟨0, rfl, by omega, r0, hid (by simpa [rowS, SL] using row_none 1099511627776), HK⟩
          case round =>
            obtain ⟨i, rfl, hi, r, HRO, HKI⟩ := hrel
            clear q0 q1 q2 q3 q4 q5 q6 q7 q8
            obtain ⟨q0, q1, q2, q3, q4, q5, q6, q7, q8⟩ := nine' HKI.out.node
            have hokr : OkR r := okr HRO.out (Nat.le_trans (rowS_dle 5 _ (take_deep HSD.out i)) (by omega : 1000000000 ≤ 4000000000))
            have HOR := hid hokr
            clear hokr
            by_cases hil : i < s2
            · have b1 : decide ((i : Int) < (s2 : Int)) = true := by simp; omega
              have b2 : (i : Int) < (s2 : Int) := by omega
              have ad1 : IntKind.i64.wrap ((i : Int) + 1) = (i : Int) + 1 := by simp [IntKind.wrap, IntKind.bits, IntKind.signed]; omega
              have hlt : i < ts.length := by have := HL.out; omega
              obtain ⟨b, o, rfl, hbl, h9⟩ := HSUB.out (by omega)
              have hw0 : ∀ b, b < B → wr.heap[b]? = w0.heap[b]? := fun b hb => (HKI.out.below.block b (by have := HBB.out; have := HZ.out; omega)).trans (HW0.out b hb)
              obtain ⟨n0, n1, n2, n3, n4, n5, n6, n7, n8⟩ := (h9 i hil).kept (hw0 b hbl)
              have HC := HIS.out i hlt wr (by have := HKI.out.size; have := HBB.out; have := HZ.out; omega) hw0
              obtain ⟨T, hT⟩ : ∃ T, T = sumOf 1099511627776 (ts[i]).S := ⟨_, rfl⟩
              obtain ⟨M, hM⟩ : ∃ M, M = ND i := ⟨_, rfl⟩
              rw [← hT, ← hM] at HC
              rw [← hM] at n0 n1 n2 n3 n4 n5 n6 n7 n8
              have hokT : OkS T := by rw [hT]; exact oks (by have := HSD.out i hlt; omega)
              have HT := hid hT
              have HOT := hid hokT
              clear hT hokT hM h9 hw0
              go_upto_region 13 with (first | (go_at_call 35; (with_reducible refine HC.mono ?_); rintro e w1 ⟨rfl, hb1⟩; have HB1 := hid hb1; clear hb1 HC))
              obtain ⟨X, hX⟩ : ∃ X, X = w1.alloc (.cells T.c 67) := ⟨_, rfl⟩
              obtain ⟨x5, hx5⟩ : ∃ x5, x5 = w1.heap.size := ⟨_, rfl⟩
              rw [← hX, ← hx5]
              have hKX : RK w z ⟨5, r1, r2, r3, a2, some ⟨b, o, none⟩, s2, s3, a4, a5, a6, a7, a8⟩ r X := HKI.out.low (by rw [hX]; exact Joins.below_le (HB1.out.trans (Joins.below_le (Joins.below_alloc1 w1 _) HB1.out.size)) (by have := HKI.out.size; omega))
              have hx5X : B4 X x5 T := by rw [hX, hx5]; exact heap_alloc_new w1 _
              have HCJ : Calls Try.prog 54 #[.pointer (some ⟨z + 1 + 1, 0, none⟩), T.v, .int .i64 1, .int .i64 5] X _ := add72 (z + 1 + 1) r T 1 5 X hKX.row HOR.out HOT.out (by omega)
              have HKX := hid hKX
              clear q0 q1 q2 q3 q4 q5 q6 q7 q8 n0 n1 n2 n3 n4 n5 n6 n7 n8 hX hx5 HB1 HKI hKX
              obtain ⟨q0, q1, q2, q3, q4, q5, q6, q7, q8⟩ := nine' HKX.out.node
              obtain ⟨z0, z1, z2, z3⟩ := four hx5X
              clear hx5X
              go_wp2_with (first | (go_at_call 54; (with_reducible refine HCJ.mono ?_); rintro e w2 ⟨rfl, hr2, hc2⟩; have HR2 := hid hr2; have HK2 := hid hc2; clear hr2 hc2 HCJ))
              refine ⟨⟨i + 1, by push_cast; rfl, by omega, _, hid ?_, hid (HKX.out.chg HK2.out HR2.out)⟩, by simp [intOf]; omega⟩
              rw [HT.out, ones_take ts i hlt]
              rw [rowS_append]
              have h := add_row (by omega) HRO.out (HNF.out i hlt) 1 (k := 5) (.inr rfl)
              simpa [rowS] using h
            · have b1 : decide ((i : Int) < (s2 : Int)) = false := by simp; omega
              obtain rfl : i = s2 := by omega
              obtain ⟨rs, rn, rd, rl⟩ := r
              have hRT : sumOf 1099511627776 (rowT 5 (ones (SL ts))) = ⟨5, min (rn + 1) 1099511627776, rs, rd + 1⟩ := by
                have h := HRO.out
                rw [List.take_of_length_le (by have := HL.out; omega)] at h
                have e1 := h.s
                have e2 := h.n.2
                have e3 := h.d
                dsimp only at e1 e2 e3
                unfold sumOf
                rw [rowT_nodes, rowT_depth]
                have e4 : (rowT 5 (ones (SL ts))).subs = rowS 5 (ones (SL ts)) := rfl
                rw [e4]
                have e5 : (rowT 5 (ones (SL ts))).kind = 5 := rfl
                rw [e5]
                congr 1 <;> omega
              have hor := HOR.out
              have o1 := hor.s
              have o2 := hor.n
              have o3 := hor.d
              dsimp only at o1 o2 o3
              have w1 : IntKind.i64.wrap ((rn : Int) + 1) = (rn : Int) + 1 := by simp [IntKind.wrap, IntKind.bits, IntKind.signed]; omega
              have w2 : IntKind.i64.wrap ((rd : Int) + 1) = (rd : Int) + 1 := by simp [IntKind.wrap, IntKind.bits, IntKind.signed]; omega
              have c0 := Joins.cell_of_block HKI.out.row 0
              have c1 := Joins.cell_of_block HKI.out.row 1
              have c2 := Joins.cell_of_block HKI.out.row 2
              obtain ⟨z0, z1, z2, z3⟩ := four HKI.out.res
              obtain ⟨f0, f1, f2, f3⟩ := fourF HKI.out.res
              have hmm : ((min (rn + 1) 1099511627776 : Nat) : Int) = min ((rn : Int) + 1) 1099511627776 := by omega
              obtain ⟨mn, hmn⟩ : ∃ mn : Nat, mn = min (rn + 1) 1099511627776 := ⟨_, rfl⟩
              rw [← hmn] at hRT hmm
              have hm' := hmm.symm
              have HRT := hid hRT
              have HMN := hid hmn
              clear hRT hor hmm hmn
              go_wp2
              go_region
              all_goals go_wp2
              all_goals
                obtain ⟨y1, y2, y3⟩ := four_set wr (z + 1) (.int .i64 5) (.int .i64 (mn : Int)) (.int .i64 (rs : Int)) (.int .i64 ((rd : Int) + 1)) HKI.out.res
                have hb := y3 _ _ HKI.out.below (by omega)
                have hb2 : Below w.heap.size w ((((wr.setCell ⟨z + 1, 0, none⟩ (.int .i64 5)).setCell ⟨z + 1, 1, none⟩ (.int .i64 (mn : Int))).setCell ⟨z + 1, 2, none⟩ (.int .i64 (rs : Int))).setCell ⟨z + 1, 3, none⟩ (.int .i64 ((rd : Int) + 1))).drew := Joins.below_le ⟨hb.os, hb.tape, hb.output, hb.size, hb.block⟩ (show w.heap.size ≤ z by have := HZ.out; omega)
                have y1' : ((((wr.setCell ⟨z + 1, 0, none⟩ (.int .i64 5)).setCell ⟨z + 1, 1, none⟩ (.int .i64 (mn : Int))).setCell ⟨z + 1, 2, none⟩ (.int .i64 (rs : Int))).setCell ⟨z + 1, 3, none⟩ (.int .i64 ((rd : Int) + 1))).drew.heap[z + 1]? = some (.cells #[.int .i64 5, .int .i64 (mn : Int), .int .i64 (rs : Int), .int .i64 ((rd : Int) + 1)] 67 (0, 0)) := y1
                generalize ((((wr.setCell ⟨z + 1, 0, none⟩ (.int .i64 5)).setCell ⟨z + 1, 1, none⟩ (.int .i64 (mn : Int))).setCell ⟨z + 1, 2, none⟩ (.int .i64 (rs : Int))).setCell ⟨z + 1, 3, none⟩ (.int .i64 ((rd : Int) + 1))).drew = U at hb2 y1' ⊢
                refine bodyPost_ret (results_cell_row rfl _ _ (z + 1) 67 _ (0, 0) _ rfl y1' Try.underlying67 rfl (by kernel_rfl)) rfl ⟨?_, hb2⟩
                rw [HRT.out]
                rfl
      · have g4 : (k == 4) = false := by simp; omega
        have g5 : (k == 5) = false := by simp; omega
        have hSS : (Tn.mk k R a2 ts a4 a5 a6 a7 a8).S = .mk k R a2 [] a4 a5 a6 a7 a8 := by simp only [Tn.S]; rw [if_neg (by omega), if_neg (by omega), if_neg k6, if_neg k7]
        have hRT : sumOf 1099511627776 (Tn.mk k R a2 [] a4 a5 a6 a7 a8) = ⟨k, 1, 0, 1⟩ := by simp [sumOf, Tn.nodes, nodesL, Tn.depth, depthL, Tn.kind, Tn.subs]
        rw [hSS, hRT]
        obtain ⟨c0, c1, c2, c3⟩ := four HZW.out
        obtain ⟨f0, f1, f2, f3⟩ := fourF HZW.out
        clear hSS hRT k7 k6 k45
        go_enter Try.func35, Try.ntmps35
        go_upto_region 1 with fail
        rw [← hz, ← hW]
        clear hW hz
        go_wp2
        all_goals
          obtain ⟨y1, y3⟩ := four_end (T := ⟨k, 1, 0, 1⟩) HZW.out HBW.out (by have := HZ.out; omega)
          exact bodyPost_ret (results_cell_row rfl _ _ (z + 1) 67 _ (0, 0) _ rfl y1 Try.underlying67 rfl (by kernel_rfl)) rfl ⟨rfl, y3⟩
end Go.Proofs.Ytnecakampgdhcaa
namespace Go.Proofs.Ytnecakampgdhcaa
open Go.RowKit
set_option linter.unusedVariables false
set_option linter.unusedSimpArgs false
set_option maxRecDepth 100000 in
set_option maxHeartbeats 4000000 in
theorem size35 {w : World} {N : Nv} {t : Tn} (h : TI w w.heap.size N t) : Calls Try.prog 21 #[N.v] w fun e w' => e = .returned (.int .i64 ((sizeT t : Nat) : Int)) ∧ Below w.heap.size w w' := by
  have hTI : TI (w.alloc (.cells #[.int .i64 N.k, .slice N.r1 N.r2 N.r3, .int .i64 N.a2, .slice N.s1 N.s2 N.s3, .int .i64 N.a4, .int .i64 N.a5, .bool N.a6, .int .i64 N.a7, .string N.a8] 39)) w.heap.size N t := h.kept fun b hb => heap_alloc_old w _ hb
  obtain ⟨W, hW⟩ : ∃ W, W = w.alloc (.cells #[.int .i64 N.k, .slice N.r1 N.r2 N.r3, .int .i64 N.a2, .slice N.s1 N.s2 N.s3, .int .i64 N.a4, .int .i64 N.a5, .bool N.a6, .int .i64 N.a7, .string N.a8] 39) := ⟨_, rfl⟩
  have hbW : Below w.heap.size w W := by rw [hW]; exact Joins.below_alloc1 w _
  have hsW : W.heap.size = w.heap.size + 1 := by rw [hW]; simp
  have hX : BN W w.heap.size N := by rw [hW]; exact heap_alloc_new w _
  rw [← hW] at hTI
  have HC := sound25 (hTI.le (by omega))
  obtain ⟨x, hx⟩ : ∃ x, x = w.heap.size := ⟨_, rfl⟩
  rw [← hx] at hX hsW
  obtain ⟨k, r1, r2, r3, a2, s1, s2, s3, a4, a5, a6, a7, a8⟩ := N
  obtain ⟨q0, q1, q2, q3, q4, q5, q6, q7, q8⟩ := nine' hX
  have HX := hid hX
  have HBW := hid hbW
  have HSW := hid hsW
  have HXE := hid hx
  have HTI := hid hTI
  dsimp only at HC hW q0 q1 q2 q3 q4 q5 q6 q7 q8
  by_cases hsd : t.sound = true
  · rw [hsd] at HC
    simp only [if_true] at HC
    have HSZ : Hid (sizeT t = capN t.S.nodes) := by unfold sizeT; rw [hsd]; rfl
    simp only [Tn.sound, Bool.and_eq_true, decide_eq_true_eq] at hsd
    have HFO := hid (reckon50 HTI.out hsd.1.1 (by omega))
    clear hX hbW hsW hTI h hsd
    go_enter Try.func21, Try.ntmps21
    go_upto_region 1 with fail
    rw [← hx, ← hW]
    clear hW hx
    obtain ⟨T, hT⟩ : ∃ T, T = sumOf 1099511627776 t.S := ⟨_, rfl⟩
    have HT := hid hT
    clear hT
    go_upto_region 3 with (first | (go_at_call 34; (with_reducible refine HC.mono ?_); rintro e w2 ⟨rfl, hb2⟩; have hX2 := (hb2.block x (by have := HSW.out; omega)).trans HX.out; clear q0 q1 q2 q3 q4 q5 q6 q7 q8; obtain ⟨q0, q1, q2, q3, q4, q5, q6, q7, q8⟩ := nine' hX2; have HC2 := HFO.out w2 (by have := HXE.out; have := HSW.out; have := hb2.size; omega) (fun c hc => hb2.block c (by have := HXE.out; have := HSW.out; omega)); rw [← HT.out] at HC2; have HB2 := hid hb2; clear hb2 hX2 HC))
    go_wp2_with (first | (go_at_call 35; (with_reducible refine HC2.mono ?_); rintro e w3 ⟨rfl, hb3⟩; have HB3 := hid hb3; clear hb3 HC2))
    all_goals go_ret
    all_goals
      rw [HSZ.out]
      refine ⟨?_, ?_⟩
      · exact congrArg (fun x : Int => Ending.returned (Value.int .i64 x)) (by rw [HT.out]; simp only [sumOf, capN]; omega)
      · exact ((HBW.out.trans (Joins.below_le HB2.out HBW.out.size)).trans (Joins.below_le HB3.out (Nat.le_trans HBW.out.size HB2.out.size))).alloc (by have := HBW.out.size; have := HB2.out.size; have := HB3.out.size; omega) _
  · have hsd' : t.sound = false := by simpa using hsd
    rw [hsd'] at HC
    simp only [Bool.false_eq_true, if_false] at HC
    have HSZ : Hid (sizeT t = 0) := by unfold sizeT; rw [hsd']; rfl
    clear hX hbW hsW hTI h hsd hsd'
    go_enter Try.func21, Try.ntmps21
    go_upto_region 1 with fail
    rw [← hx, ← hW]
    clear hW hx
    go_wp2_with (first | (go_at_call 34; (with_reducible refine HC.mono ?_); rintro e w4 ⟨rfl, hb4⟩; have HB4 := hid hb4; clear hb4 HC))
    all_goals go_ret
    all_goals
      rw [HSZ.out]
      exact ⟨rfl, HBW.out.trans (Joins.below_le HB4.out HBW.out.size)⟩
end Go.Proofs.Ytnecakampgdhcaa
