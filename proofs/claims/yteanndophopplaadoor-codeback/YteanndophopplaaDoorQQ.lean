/- HELPERS: bytes are spoilt: the walk. -/
import Derived.Test.YteanndophopplaaDoorPP
import Derived.Laws.AppendOwnNone
import Derived.Laws.AppendOwn
import Derived.Deep.DeepAppendWide
/- HELPERS: bytes are spoilt. -/
namespace Go.Proofs.YteanndophopplaaDoor
open Go.RowKit Go.Lib
set_option linter.unusedVariables false
set_option linter.unusedSimpArgs false
/-- the number that Load answers -/
def lc (l : List Nat) : Int := if 8388608 < l.length then 2 else if loadP C3 5000 20000 l = none then 101 else 0
theorem load_code {w : World} {ad : Option Addr} {n c : Nat} {l : List Nat} (h : BA w w.heap.size ad l) (hn : n = l.length) (hcp : n ≤ c) (hcm : c ≤ 9223372036854775807) (hlt : ∀ x ∈ l, x < 256) :
    Calls Tryd.prog 19 #[.slice ad n c] w fun e w' => ∃ (ad : Option Addr) (n c : Nat) (s k : Int), e = .returned (.tuple #[pv ad n c s k, .int .i64 (lc l)]) ∧ Below w.heap.size w w' := by
  refine (load19 h hn hcp hcm hlt).mono ?_
  rintro e w' ⟨hb, ⟨h1, rfl⟩ | ⟨h1, h2, rfl⟩ | ⟨h1, g, s, k, J, MS, h2, rfl, -⟩⟩
  · exact ⟨_, _, _, _, _, by rw [lc, if_pos h1], hb⟩
  · exact ⟨_, _, _, _, _, by rw [lc, if_neg (by omega), if_pos h2], hb⟩
  · exact ⟨_, _, _, _, _, by rw [lc, if_neg (by omega), if_neg (by rw [h2]; simp)], hb⟩
theorem lc_full {J : List In} {s k : Int} (h : mayB J s k = true) (hl : (fullB J s k).length ≤ 8388608) : lc (fullB J s k) = 0 := by
  rw [lc, if_neg (by omega), if_neg]
  rw [(loadP_iff (by omega) (by omega) (by omega) _ J s k).2 ⟨h, rfl⟩]
  simp
theorem lc_turn {J : List In} {s k : Int} (h : mayB J s k = true) (hl : (fullB J s k).length ≤ 8388608) {i x : Nat} (hi : i < (fullB J s k).length) (hx : x < 256) (hne : (fullB J s k)[i] ≠ x) : lc ((fullB J s k).set i x) = 101 := by
  rw [lc, if_neg (by rw [List.length_set]; omega), if_pos (spoilt_turn (by omega) (by omega) (by omega) h hi hx hne)]
theorem lc_cut {J : List In} {s k : Int} (h : mayB J s k = true) (hl : (fullB J s k).length ≤ 8388608) {c : Nat} (hc : c < (fullB J s k).length) : lc ((fullB J s k).take c) = 101 := by
  rw [lc, if_neg (by rw [List.length_take]; omega), if_pos (spoilt_cut (by omega) (by omega) (by omega) h hc)]
theorem lc_more {J : List In} {s k : Int} (h : mayB J s k = true) {v : List Nat} (hv : v ≠ []) (hl : (fullB J s k ++ v).length ≤ 8388608) : lc (fullB J s k ++ v) = 101 := by
  rw [lc, if_neg (by omega), if_pos (spoilt_more (by omega) (by omega) (by omega) h hv)]
theorem lc_long {l : List Nat} (hl : 8388608 < l.length) : lc l = 2 := by rw [lc, if_pos hl]
/-- a row of the call's own that holds something -/
theorem own_addr {w : World} {base n : Nat} {v : Value} {xs : List Value} (h : w.ownsRow base 5 1 v n xs) (hp : 0 < n) : ∃ g c cur, v = .slice (some ⟨g, 0, none⟩) n c ∧ base ≤ g ∧ w.heap[g]? = some (.cells cur 5 (0, 0)) ∧ n ≤ c ∧ c ≤ 9223372036854775807 ∧ cur.size = c ∧ cur.toList.take n = xs := by
  rcases h.2 with ⟨_, h0⟩ | ⟨g, cap, cur, rfl, hb, hg, hn, hm, hs, ht⟩
  · omega
  · refine ⟨g, cap, cur, rfl, hb, hg, hn, by unfold maxLen at hm; omega, by simpa using hs, ?_⟩
    have e := h.1
    rw [← ht]; simp
end Go.Proofs.YteanndophopplaaDoor
/- HELPERS: bytes behind bytes. -/
namespace Go.Proofs.YteanndophopplaaDoor
open Go.RowKit Go.Lib
set_option linter.unusedVariables false
set_option linter.unusedSimpArgs false
theorem grown_below {w w' : World} {base : Nat} {v : Value} {n : Nat} {xs : List Value} (ho : w.ownsRow base 5 1 v n xs) (h : w.grownBy w' v.ownBlock) (hb : base ≤ w.heap.size) : Below base w w' := by
  obtain ⟨h1, h2, h3, h4, h5⟩ := h
  exact ⟨h1, h2, h3, h4, fun k hk => by
    refine h5 k ?_ ?_
    · omega
    · intro e; have := (ho.lt k e.symm).1; omega⟩
theorem wpList_append_ba {w : World} {ops : Array Oper} {rest : List Oper} {o : Oper} {a : Act} {Q : Exit → Act → World → Prop} (hgd : o.guard = none) (sl x : Operand)
    (ho : o.op = .call { callee := .builtin .append, args := #[sl, x], argTypes := #[36, 36] })
    (base : Nat) (v : Value) (n : Nat) (xs : List Nat) (hs : a.eval sl = v) (hown : w.ownsRow base 5 1 v n (U8 xs))
    (B : Nat) (ad : Option Addr) (m c : Nat) (ys : List Nat) (hx : a.eval x = .slice ad m c) (hB : BA w B ad ys) (hm : m = ys.length) (hnil : ad = none → c = 0)
    (hb : n + m ≤ 140737500000000) (hbase : base ≤ w.heap.size)
    (h : ∀ v' w', w'.ownsRow base 5 1 v' (n + m) (U8 (xs ++ ys)) → Below base w w' → wpList Tryd.prog ops Q rest (a.put o.dst v') w') : wpList Tryd.prog ops Q (o :: rest) a w := by
  obtain ⟨i0, hi, hz0, hz1, hz2⟩ := info_parts info5
  have e : U8 (xs ++ ys) = U8 xs ++ U8 ys := by simp [U8]
  rw [e] at h
  cases had : ad with
  | none =>
    have hy : ys = [] := by
      rcases hB with h0 | ⟨b, o, h0, _⟩
      · exact h0
      · rw [had] at h0; cases h0
    subst hy
    rw [had, hnil had, hm] at hx
    refine wpList_append_own_none hgd sl x 36 ho base 5 i0 1 Tryd.underlying36 hi v n (U8 xs) hs hown hx ?_
    have := h v w (by rw [hm]; simpa [U8] using hown) (Below.refl _ _)
    exact this
  | some A =>
    rw [had] at hx
    refine wpList_append_own_wide w hgd sl x 36 ho base 5 i0 (.int .u8 0) 1 1 Tryd.underlying36 hi hz0 hz1 hz2 rfl (by decide) v n (U8 xs) hs hown A m c (U8 ys) hx (by rw [hm]; simp [U8]) ?_ (by intro u hu; simp [U8] at hu; obtain ⟨y, _, rfl⟩ := hu; rfl) (by unfold maxLen; omega) (by omega) hbase ?_
    · intro j u hj
      rcases hB with h0 | ⟨b, o, h0, _, hc⟩
      · subst h0; simp [U8] at hj
      · rw [had] at h0
        replace h0 := Option.some.inj h0
        subst h0
        have hj2 : j < ys.length := by have := (List.getElem?_eq_some_iff.1 hj).1; simpa [U8] using this
        have := hc j hj2
        rw [show ((⟨b, o, none⟩ : Addr).add j) = ⟨b, o + j, none⟩ from by simp [Addr.add], this]
        refine Eq.trans ?_ hj
        simp [U8, List.getElem?_eq_getElem hj2]
    · intro v' w' h2 h3 h4
      exact h v' w' h2 (grown_below hown h3 hbase)
end Go.Proofs.YteanndophopplaaDoor
/- HELPERS: bytes are spoilt: where there is nothing to spoil. -/
namespace Go.Proofs.YteanndophopplaaDoor
open Go.RowKit Go.Lib
set_option linter.unusedVariables false
set_option linter.unusedSimpArgs false
theorem bytes_bad {w : World} {ad : Option Addr} {n c : Nat} {l : List In} {s k : Int} (h : PI w w.heap.size ad n l) (hb : mayB l s k = true → 8388608 < (fullB l s k).length) :
    Calls Tryd.prog 22 #[pv ad n c s k] w fun e w' => Below w.heap.size w w' ∧ (e = .returned (.tuple #[.slice none 0 0, .int .i64 90]) ∨ e = .returned (.tuple #[.slice none 0 0, .int .i64 3])) := by
  refine (bytes22 (c := c) (s := s) (k := k) h).mono ?_
  rintro e w' ⟨hb2, ⟨_, rfl⟩ | ⟨_, _, rfl⟩ | ⟨hm, hl, _⟩⟩
  · exact ⟨hb2, .inl rfl⟩
  · exact ⟨hb2, .inr rfl⟩
  · have := hb hm; omega
theorem bytes_ok {w : World} {ad : Option Addr} {n c : Nat} {l : List In} {s k : Int} (h : PI w w.heap.size ad n l) (hm : mayB l s k = true) (hl : (fullB l s k).length ≤ 8388608) :
    Calls Tryd.prog 22 #[pv ad n c s k] w fun e w' => Below w.heap.size w w' ∧ ∃ v, e = .returned (.tuple #[v, .int .i64 0]) ∧ w'.ownsRow w.heap.size 5 1 v (fullB l s k).length (U8 (fullB l s k)) := by
  refine (bytes22 (c := c) (s := s) (k := k) h).mono ?_
  rintro e w' ⟨hb2, ⟨h1, rfl⟩ | ⟨_, h1, rfl⟩ | ⟨_, _, h1⟩⟩
  · rw [hm] at h1; cases h1
  · omega
  · exact ⟨hb2, h1⟩
/-- the law's own box of the program -/
structure LX (w U : World) (c0 c1 c2 : Value) : Prop where
  box : U.heap[w.heap.size]? = some (.cells #[c0, c1, c2] 24 (0, 0))
  low : Below w.heap.size w U
  sz : U.heap.size = w.heap.size + 1
theorem LX.mk' (w : World) (c0 c1 c2 : Value) : LX w (w.alloc (.cells #[c0, c1, c2] 24)) c0 c1 c2 := ⟨heap_alloc_new w _, Joins.below_alloc1 w _, by simp⟩
theorem Gw.kept {w w' : World} {B : Nat} (h : Gw w) (hb : Below B w w') (h0 : 0 < B) : Gw w' := (hb.cell (p := ⟨0, 5, none⟩) h0).trans h
set_option maxRecDepth 100000 in
set_option maxHeartbeats 4000000 in
theorem spoilt7_no {w : World} {ad : Option Addr} {n c : Nat} {s k : Int} {code A C : Int} {tz : Int} {z : Value} (hG : Gw w) (h0 : 0 < w.heap.size)
    (HC : ∀ W, Below w.heap.size w W → Calls Tryd.prog 22 #[pv ad n c s k] W fun e w' => Below W.heap.size W w' ∧ ∃ v, e = .returned (.tuple #[v, .int .i64 code]))
    (hno : code = 90 ∨ code = 3 ∨ code = 0 ∧ A < 0 ∨ code = 0 ∧ 0 ≤ A ∧ C < 0) :
    Calls Tryd.prog 7 #[pv ad n c s k, .int .i64 A, .int .u8 tz, .int .i64 C, z] w fun e w' => e = .returned (.bool true) ∧ Below w.heap.size w w' := by
  have hX := LX.mk' w (.slice ad n c) (.int .i64 s) (.int .i64 k)
  obtain ⟨U, hU⟩ : ∃ U, U = w.alloc (.cells #[.slice ad n c, .int .i64 s, .int .i64 k] 24) := ⟨_, rfl⟩
  rw [← hU] at hX
  have hs := hX.sz
  have C8 := awake8 (hG.kept hX.low h0) (show 0 < U.heap.size by omega)
  have HX := hid hX
  have HU := hid hU
  have HC' := hid HC
  clear hX hU HC hG
  rcases hno with rfl | rfl | ⟨rfl, hA⟩ | ⟨rfl, hA, hC⟩
  · go_enter Tryd.func7, Tryd.ntmps7
    go_upto_region 1 with fail
    rw [← HU.out]
    go_wp2_with (first | (go_at_call 8; (with_reducible refine C8.mono ?_); rintro e w1 ⟨rfl, hb1⟩; obtain ⟨c0, c1, c2⟩ := three_cells ((hb1.block _ (by omega)).trans HX.out.box); have D := HC'.out w1 (HX.out.low.trans (Joins.below_le hb1 (by omega))); have HB1 := hid (HX.out.low.trans (Joins.below_le hb1 (by omega : w.heap.size ≤ U.heap.size))); clear hb1 C8) | (go_at_call 22; (with_reducible refine D.mono ?_); rintro e w2 ⟨hb2, v, rfl⟩; have HB2 := hid hb2; clear hb2 D))
    all_goals go_ret
    all_goals exact ⟨rfl, HB1.out.trans (Joins.below_le HB2.out HB1.out.size)⟩
  · go_enter Tryd.func7, Tryd.ntmps7
    go_upto_region 1 with fail
    rw [← HU.out]
    go_wp2_with (first | (go_at_call 8; (with_reducible refine C8.mono ?_); rintro e w1 ⟨rfl, hb1⟩; obtain ⟨c0, c1, c2⟩ := three_cells ((hb1.block _ (by omega)).trans HX.out.box); have D := HC'.out w1 (HX.out.low.trans (Joins.below_le hb1 (by omega))); have HB1 := hid (HX.out.low.trans (Joins.below_le hb1 (by omega : w.heap.size ≤ U.heap.size))); clear hb1 C8) | (go_at_call 22; (with_reducible refine D.mono ?_); rintro e w2 ⟨hb2, v, rfl⟩; have HB2 := hid hb2; clear hb2 D))
    all_goals go_ret
    all_goals exact ⟨rfl, HB1.out.trans (Joins.below_le HB2.out HB1.out.size)⟩
  · have b1 : decide (A < 0) = true := by simp; omega
    go_enter Tryd.func7, Tryd.ntmps7
    go_upto_region 1 with fail
    rw [← HU.out]
    go_wp2_with (first | (go_at_call 8; (with_reducible refine C8.mono ?_); rintro e w1 ⟨rfl, hb1⟩; obtain ⟨c0, c1, c2⟩ := three_cells ((hb1.block _ (by omega)).trans HX.out.box); have D := HC'.out w1 (HX.out.low.trans (Joins.below_le hb1 (by omega))); have HB1 := hid (HX.out.low.trans (Joins.below_le hb1 (by omega : w.heap.size ≤ U.heap.size))); clear hb1 C8) | (go_at_call 22; (with_reducible refine D.mono ?_); rintro e w2 ⟨hb2, v, rfl⟩; have HB2 := hid hb2; clear hb2 D))
    all_goals go_ret
    all_goals exact ⟨rfl, HB1.out.trans (Joins.below_le HB2.out HB1.out.size)⟩
  · have b1 : decide (A < 0) = false := by simp; omega
    have b2 : decide (C < 0) = true := by simp; omega
    have b3 : ¬ A < 0 := by omega
    go_enter Tryd.func7, Tryd.ntmps7
    go_upto_region 1 with fail
    rw [← HU.out]
    go_wp2_with (first | (go_at_call 8; (with_reducible refine C8.mono ?_); rintro e w1 ⟨rfl, hb1⟩; obtain ⟨c0, c1, c2⟩ := three_cells ((hb1.block _ (by omega)).trans HX.out.box); have D := HC'.out w1 (HX.out.low.trans (Joins.below_le hb1 (by omega))); have HB1 := hid (HX.out.low.trans (Joins.below_le hb1 (by omega : w.heap.size ≤ U.heap.size))); clear hb1 C8) | (go_at_call 22; (with_reducible refine D.mono ?_); rintro e w2 ⟨hb2, v, rfl⟩; have HB2 := hid hb2; clear hb2 D))
    all_goals go_ret
    all_goals exact ⟨rfl, HB1.out.trans (Joins.below_le HB2.out HB1.out.size)⟩
end Go.Proofs.YteanndophopplaaDoor
namespace Go.Proofs.YteanndophopplaaDoor
open Go.RowKit Go.Lib
set_option linter.unusedVariables false
set_option linter.unusedSimpArgs false
theorem own_BA {w : World} {base n : Nat} {g c : Nat} {xs : List Nat} (h : w.ownsRow base 5 1 (.slice (some ⟨g, 0, none⟩) n c) n (U8 xs)) (hn : n = xs.length) {B : Nat} (hB : w.heap.size ≤ B) : BA w B (some ⟨g, 0, none⟩) xs := by
  refine .inr ⟨g, 0, rfl, by have := (h.lt g rfl).2; omega, fun j hj => ?_⟩
  rw [Nat.zero_add, h.cellAt j (by omega)]
  simp [U8, List.getElem?_eq_getElem hj]
theorem set_BA {w : World} {g N i T B : Nat} {cur : Array Value} {F : List Nat} (hg : w.heap[g]? = some (.cells cur 5 (0, 0))) (ht : cur.toList.take N = U8 F) (hn : N = F.length) (hi : i < N) (hB : g < B) : BA (w.setCell ⟨g, i, none⟩ (.int .u8 (T : Int))) B (some ⟨g, 0, none⟩) (F.set i T) := by
  have h1 := Joins.block_setCell (i := i) hg (.int .u8 (T : Int))
  refine .inr ⟨g, 0, rfl, hB, fun j hj => ?_⟩
  have hjN : j < N := by rw [List.length_set] at hj; omega
  have hlen : N ≤ cur.size := by
    have := congrArg List.length ht
    simp [U8] at this; omega
  have h2 := Joins.cell_of_block h1 j
  rw [Nat.zero_add, h2]
  by_cases hij : i = j
  · subst hij; simp [show i < cur.size by omega]
  · have e : cur.toList[j]? = some (.int .u8 ((F[j]'(by omega) : Nat) : Int)) := by
      rw [show cur.toList[j]? = (cur.toList.take N)[j]? by simp [hjN], ht]; simp [U8, List.getElem?_eq_getElem (show j < F.length by omega)]
    simp only [Array.getElem?_toList] at e
    simp [Array.getElem?_setIfInBounds, hij, e, List.getElem_set_ne hij]
theorem BA.take {w : World} {B : Nat} {ad : Option Addr} {l : List Nat} (h : BA w B ad l) (m : Nat) : BA w B ad (l.take m) := by
  rcases h with rfl | ⟨b, o, h1, h2, h3⟩
  · exact .inl (by simp)
  · refine .inr ⟨b, o, h1, h2, fun j hj => ?_⟩
    rw [List.length_take] at hj
    rw [h3 j (by omega)]
    simp
theorem turn_code {J : List In} {s k : Int} {F : List Nat} {N i T : Nat} (hF : F = fullB J s k) (h : mayB J s k = true) (hN : N = F.length) (hl : N ≤ 8388608) (hi : i < N) (hT : T < 256) (hne : ¬ F[i]'(by omega) = T) : lc (F.set i T) = 101 := by
  subst hF
  subst hN
  exact lc_turn h hl hi hT hne
theorem get_cell {w : World} {base n g c : Nat} {F : List Nat} (h : w.ownsRow base 5 1 (.slice (some ⟨g, 0, none⟩) n c) n (U8 F)) (hn : n = F.length) {i : Nat} (hi : i < n) : w.cell? ⟨g, i, none⟩ = some (.int .u8 ((F.getD i 0 : Nat) : Int)) := by
  rw [h.cellAt i (by omega)]
  simp [U8, List.getD_eq_getElem?_getD, List.getElem?_eq_getElem (show i < F.length by omega)]
set_option maxRecDepth 100000 in
set_option maxHeartbeats 4000000 in
theorem spoilt7_yes {w : World} {ad : Option Addr} {n c : Nat} {l : List In} {s k : Int} {A C T : Nat} {za : Option Addr} {zn zc : Nat} {zs : List Nat} (hP : PI w w.heap.size ad n l) (hm : mayB l s k = true) (hl : (fullB l s k).length ≤ 8388608) (hG : Gw w) (h0 : 0 < w.heap.size)
    (hZ : BA w w.heap.size za zs) (hzn : zn = zs.length) (hnil : za = none → zc = 0) (hz : zn ≤ 140737488355328) (hzb : ∀ x ∈ zs, x < 256) (hT : T < 256) :
    Calls Tryd.prog 7 #[pv ad n c s k, .int .i64 (A : Int), .int .u8 (T : Int), .int .i64 (C : Int), .slice za zn zc] w fun e w' => e = .returned (.bool true) ∧ Below w.heap.size w w' := by
  have hX := LX.mk' w (.slice ad n c) (.int .i64 s) (.int .i64 k)
  obtain ⟨U, hU⟩ : ∃ U, U = w.alloc (.cells #[.slice ad n c, .int .i64 s, .int .i64 k] 24) := ⟨_, rfl⟩
  rw [← hU] at hX
  have hs := hX.sz
  have C8 := awake8 (hG.kept hX.low h0) (show 0 < U.heap.size by omega)
  have C22 : ∀ W, Below w.heap.size w W → _ := fun W hb => bytes_ok (w := W) (c := c) (hP.kept hb hb.size) hm hl
  have HX := hid hX
  have HU := hid hU
  have hlt := core_lt hm
  obtain ⟨F, hF⟩ : ∃ F, F = fullB l s k := ⟨_, rfl⟩
  obtain ⟨N, hN⟩ : ∃ N, N = F.length := ⟨_, rfl⟩
  have hN0 : 0 < N := by rw [hN, hF]; simp [fullB, coreB, headB]
  rw [← hF, ← hN] at hl C22
  have HC' := hid C22
  have HF := hid hF
  have HN := hid hN
  have HM := hid hm
  have HZ := hid hZ
  have b1 : ¬ ((A : Int) < 0) := by omega
  have hAN : A % N < N := Nat.mod_lt _ hN0
  have hCN : C % N < N := Nat.mod_lt _ hN0
  have m1 : 0 ≤ (A : Int) % (N : Int) ∧ (A : Int) % (N : Int) < (N : Int) := ⟨by omega, by exact_mod_cast hAN⟩
  have m2 : 0 ≤ (C : Int) % (N : Int) ∧ (C : Int) % (N : Int) < (N : Int) := ⟨by omega, by exact_mod_cast hCN⟩
  obtain ⟨x, hx⟩ : ∃ x, x = F.getD (A % N) 0 := ⟨_, rfl⟩
  have HXX := hid hx
  clear hx
  have b2 : ¬ ((C : Int) < 0) := by omega
  clear hX hU C22 hG hP hF hN hm hZ
  go_enter Tryd.func7, Tryd.ntmps7
  go_upto_region 1 with fail
  rw [← HU.out]
  go_upto_region 6 with (first | (go_at_call 8; (with_reducible refine C8.mono ?_); rintro e w1 ⟨rfl, hb1⟩; obtain ⟨c0, c1, c2⟩ := three_cells ((hb1.block _ (by omega)).trans HX.out.box); have D := HC'.out w1 (HX.out.low.trans (Joins.below_le hb1 (by omega))); have HB1 := hid (HX.out.low.trans (Joins.below_le hb1 (by omega : w.heap.size ≤ U.heap.size))); clear hb1 C8) | (go_at_call 22; (with_reducible refine D.mono ?_); rintro e w2 ⟨hb2, v, rfl, ho⟩; obtain ⟨g, gc, cur, rfl, hg1, hg2, hg3, hg4, -, -⟩ := own_addr ho hN0; have HO2 := hid (own_wide ho HB1.out.size); have HB2 := hid (HB1.out.trans (Joins.below_le hb2 HB1.out.size)); clear hb2 ho D HB1 c0 c1 c2))
  have hsz2 := HB2.out.size
  go_upto_region 10 with (at_builtin; refine wpList_append_ba rfl (.tmp 46) (.tmp 47) rfl w2.heap.size (.slice none 0 0) 0 [] rfl ⟨rfl, .inl ⟨rfl, rfl⟩⟩ w2.heap.size (some ⟨g, 0, none⟩) N gc F rfl (own_BA HO2.out HN.out (Nat.le_refl _)) HN.out (by intro h; cases h) (by omega) (Nat.le_refl _) ?_; intro v3 w3 ho3 hb3; rw [List.nil_append, Nat.zero_add] at ho3; obtain ⟨g1, c1, cur1, rfl, h31, h32, h33, h34, h35, h36⟩ := own_addr ho3 hN0; have k1 := get_cell ho3 HN.out hAN; have f1 := Joins.unfrozen_of_block h32 (A % N); rw [← HXX.out] at k1; have HO3 := hid ho3; have HB3 := hid hb3; have HG1 := hid h32; clear ho3 hb3 h32)
  obtain ⟨sm, hsm⟩ : ∃ sm, ((x : Int) == (T : Int)) = sm := ⟨_, rfl⟩
  rw [hsm]
  have HSM := hid hsm
  have hg1s : g1 < w3.heap.size := (Array.getElem?_eq_some_iff.1 HG1.out).1
  obtain ⟨w4, hw4⟩ : ∃ w4, w4 = w3.setCell ⟨g1, A % N, none⟩ (.int .u8 (T : Int)) := ⟨_, rfl⟩
  have hs4 : w4.heap.size = w3.heap.size := by rw [hw4]; simp [World.setCell]
  have hBA4 : BA w4 w4.heap.size (some ⟨g1, 0, none⟩) (F.set (A % N) T) := by rw [hs4, hw4]; exact set_BA HG1.out h36 HN.out hAN hg1s
  have hB4 : Below w2.heap.size w3 w4 := by rw [hw4]; exact (Below.refl _ _).setCell (by exact h31) _
  have HB4 := hid (HB2.out.trans (Joins.below_le (HB3.out.trans hB4) HB2.out.size))
  have HO4 := hid (hB4)
  rw [← hw4]
  have hblt : ∀ y ∈ F, y < 256 := by rw [HF.out]; exact full_lt HM.out
  have HBL := hid hblt
  have C19 := load_code (ad := some ⟨g1, 0, none⟩) (n := N) (c := c1) hBA4 (by rw [List.length_set]; exact HN.out) h33 h34 (by intro y hy; rcases List.mem_or_eq_of_mem_set hy with h | h; exact hblt y h; omega)
  obtain ⟨f1c, hf1c⟩ : ∃ f1c, f1c = lc (F.set (A % N) T) := ⟨_, rfl⟩
  rw [← hf1c] at C19
  have HF1 := hid hf1c
  clear hw4 hsm hBA4 hB4 k1 f1 hblt hf1c
  go_upto_region 11 with (go_at_call 19; (with_reducible refine C19.mono ?_); rintro e w5 ⟨p1, p2, p3, p4, p5, rfl, hb5⟩; have HB5 := hid hb5; clear hb5 C19)
  have hWFA : ∀ W, Below w2.heap.size w2 W → BA W W.heap.size (some ⟨g, 0, none⟩) F := fun W hb => (own_BA HO2.out HN.out (Nat.le_refl _)).kept hb.block hb.size
  have hWZA : ∀ W, Below w.heap.size w W → BA W W.heap.size za zs := fun W hb => HZ.out.kept hb.block hb.size
  have HFA := hid hWFA
  have HZA := hid hWZA
  obtain ⟨w6, hw6⟩ : ∃ w6, w6 = w5.alloc (.cells #[.slice p1 p2 p3, .int .i64 p4, .int .i64 p5] 24) := ⟨_, rfl⟩
  have h26 : Below w2.heap.size w2 w6 := by
    rw [hw6]
    have h24 : Below w2.heap.size w2 w4 := HB3.out.trans HO4.out
    have h25 := h24.trans (Joins.below_le HB5.out h24.size)
    exact h25.alloc h25.size _
  have HB6 := hid (HB2.out.trans (Joins.below_le h26 HB2.out.size))
  have H26 := hid h26
  rw [← hw6]
  have C19 := load_code (ad := some ⟨g, 0, none⟩) (n := C % N) (c := gc) ((HFA.out w6 h26).take (C % N)) (by rw [List.length_take, ← HN.out]; omega) (by omega) hg4 (fun y hy => HBL.out y (List.mem_of_mem_take hy))
  have e2 : lc (F.take (C % N)) = 101 := by rw [HF.out]; exact lc_cut HM.out (by rw [← HF.out, ← HN.out]; exact hl) (by rw [← HF.out, ← HN.out]; exact hCN)
  rw [e2] at C19
  clear hWFA hWZA hw6 h26 e2 HB5 HB4 HB3 HO3 HG1 h36
  go_upto_region 12 with (go_at_call 19; (with_reducible refine C19.mono ?_); rintro e w7 ⟨q1, q2, q3, q4, q5, rfl, hb7⟩; have HB7 := hid hb7; clear hb7 C19)
  obtain ⟨w8, hw8⟩ : ∃ w8, w8 = w7.alloc (.cells #[.slice q1 q2 q3, .int .i64 q4, .int .i64 q5] 24) := ⟨_, rfl⟩
  have h28 : Below w2.heap.size w2 w8 := by
    rw [hw8]
    have h27 := H26.out.trans (Joins.below_le HB7.out H26.out.size)
    exact h27.alloc h27.size _
  have HB8 := hid (HB2.out.trans (Joins.below_le h28 HB2.out.size))
  have H28 := hid h28
  have hs8 := h28.size
  rw [← hw8]
  clear hw8 h28 HB7 H26
  go_upto_region 14 with (at_builtin; refine wpList_append_ba rfl (.tmp 78) (.tmp 79) rfl w8.heap.size (.slice none 0 0) 0 [] rfl ⟨rfl, .inl ⟨rfl, rfl⟩⟩ w8.heap.size (some ⟨g, 0, none⟩) N gc F rfl (HFA.out w8 H28.out) HN.out (by intro h; cases h) (by omega) (Nat.le_refl _) ?_; intro v9 w9 ho9 hb9; rw [List.nil_append, Nat.zero_add] at ho9; obtain ⟨g9, c9, cur9, rfl, h91, h92, h93, h94, h95, h96⟩ := own_addr ho9 hN0; have HO9 := hid ho9; have HB9 := hid (HB8.out.trans (Joins.below_le hb9 HB8.out.size)); have hs9 := hb9.size; clear ho9 hb9 h92)
  go_upto_region 15 with (at_builtin; refine wpList_append_ba rfl (.tmp 81) (.tmp 82) rfl w8.heap.size (.slice (some ⟨g9, 0, none⟩) N c9) N F rfl HO9.out w9.heap.size za zs.length zc zs rfl (HZA.out w9 HB9.out) rfl hnil (by omega) hs9 ?_; intro v10 w10 ho10 hb10; obtain ⟨g10, c10, cur10, rfl, h101, h102, h103, h104, h105, h106⟩ := own_addr ho10 (by omega); have HO10 := hid ho10; have HB10 := hid (HB9.out.trans (Joins.below_le hb10 (Nat.le_trans HB8.out.size (Nat.le_refl _)))); clear ho10 hb10 h102)
  have hMl : N + zs.length = (F ++ zs).length := by rw [List.length_append, ← HN.out]
  have C19 := load_code (ad := some ⟨g10, 0, none⟩) (n := N + zs.length) (c := c10) (own_BA HO10.out hMl (Nat.le_refl _)) hMl h103 h104 (fun y hy => by rcases List.mem_append.1 hy with h | h; exact HBL.out y h; exact hzb y h)
  obtain ⟨f3, hf3⟩ : ∃ f3, f3 = lc (F ++ zs) := ⟨_, rfl⟩
  rw [← hf3] at C19
  have HF3 := hid hf3
  clear hf3 h105 h106 h95 h96 hMl
  go_upto_region 16 with (go_at_call 19; (with_reducible refine C19.mono ?_); rintro e w11 ⟨r1, r2, r3, r4, r5, rfl, hb11⟩; have HB11 := hid hb11; clear hb11 C19)
  have HBF : Hid (Below w.heap.size w (w11.alloc (.cells #[.slice r1 r2 r3, .int .i64 r4, .int .i64 r5] 24))) := by
    have h := HB10.out.trans (Joins.below_le HB11.out HB10.out.size)
    exact h.alloc h.size _
  go_upto_region 17 with fail
  obtain ⟨lg, hlg⟩ : ∃ lg, decide (8388608 < (N : Int) + (zs.length : Int)) = lg := ⟨_, rfl⟩
  rw [hlg]
  have hone : f1c = 0 ∧ sm = true ∨ f1c = 101 ∧ sm = false := by
    have hxi : x = F[A % N]'(by rw [← HN.out]; exact hAN) := by rw [HXX.out, List.getD_eq_getElem?_getD, List.getElem?_eq_getElem (by rw [← HN.out]; exact hAN)]; rfl
    by_cases hxT : x = T
    · refine .inl ⟨?_, ?_⟩
      · rw [HF1.out, ← hxT, hxi, List.set_getElem_self, HF.out]
        exact lc_full HM.out (by rw [← HF.out, ← HN.out]; exact hl)
      · rw [← HSM.out, hxT]; simp
    · refine .inr ⟨?_, ?_⟩
      · rw [HF1.out]
        rw [hxi] at hxT
        exact turn_code HF.out HM.out HN.out hl hAN hT hxT
      · rw [← HSM.out]; simp; omega
  have htwo : zs.length = 0 ∧ f3 = 0 ∨ 0 < zs.length ∧ f3 = 2 ∧ lg = true ∨ 0 < zs.length ∧ f3 = 101 ∧ lg = false := by
    by_cases hz0 : zs = []
    · subst hz0
      refine .inl ⟨rfl, ?_⟩
      rw [HF3.out, List.append_nil, HF.out]
      exact lc_full HM.out (by rw [← HF.out, ← HN.out]; exact hl)
    · have hzp : 0 < zs.length := List.length_pos_iff.2 hz0
      by_cases hlong : 8388608 < N + zs.length
      · refine .inr (.inl ⟨hzp, ?_, ?_⟩)
        · rw [HF3.out]; exact lc_long (by rw [List.length_append, ← HN.out]; exact hlong)
        · rw [← hlg]; simp; omega
      · refine .inr (.inr ⟨hzp, ?_, ?_⟩)
        · rw [HF3.out, HF.out]; exact lc_more HM.out hz0 (by rw [← HF.out, List.length_append, ← HN.out]; omega)
        · rw [← hlg]; simp; omega
  obtain ⟨zl, hzl⟩ : ∃ zl, zs.length = zl := ⟨_, rfl⟩
  rw [hzl] at htwo ⊢
  clear hlg
  rcases hone with ⟨rfl, rfl⟩ | ⟨rfl, rfl⟩ <;> rcases htwo with ⟨rfl, rfl⟩ | ⟨hzp, rfl, rfl⟩ | ⟨hzp, rfl, rfl⟩
  all_goals
    try have b4 : ¬ ((zl : Int) = 0) := by omega
    try have b5 : 0 < (zl : Int) := by omega
    go_wp2
    all_goals go_ret
    all_goals exact ⟨rfl, HBF.out⟩
end Go.Proofs.YteanndophopplaaDoor
