/- HELPERS: Fold, Has, ClassM, LayM, Cg, Pu, Rg, Rh, As, Ri, Rj. -/
import Derived.Test.YtenanfkmmkmolaaGreatDoorK01
import Derived.Test.YtenanfkmmkmolaaGreatDoorProg
import Derived.WalkKit
import Derived.LaidEql
import Derived.Stop.Asserts
import Derived.RowKitTokens
import Derived.Lib.MinMax
/- HELPERS: the contract of runes.Fold. -/
namespace Go.Proofs.YtenanfkmmkmolaaGreatDoor
open Go.Shelf Go.RowKit Go.Lib Go.Sort Go.Mx
set_option linter.unusedVariables false
set_option linter.unusedSimpArgs false
/-- what a range has of some letters, moved -/
def movedOf (g : Int × Int) (a b st : Int) : List (Int × Int) := if min g.2 b < max g.1 a then [] else [(max g.1 a + st, min g.2 b + st)]
theorem box2_kept {w w1 : World} {base size n : Nat} {e t : TypeId} {v : Value} {xs : List Value} {o o' o'' : Obj} (hown : w.ownsRow base e size v n xs) (hb : base ≤ w.heap.size) (q : Nat) (hg : ((((w.alloc o).alloc o').drewN q).alloc o'').grownBy w1 v.ownBlock) : Below base w w1 :=
  ((below_drewN ((((Below.refl _ _).alloc hb _)).alloc (by simp; omega) _) q).alloc (by simp; omega) _).grown hg (by simp; omega) (fun k hk => (hown.lt k hk).1)
/-- what lay elsewhere lies there still -/
def KeepsBut (w w' : World) (o : Option Nat) : Prop := ∀ (p : Addr) (x : Value), p.block < w.heap.size → some p.block ≠ o → w.cell? p = some x → w'.cell? p = some x
theorem keeps2 (w : World) (o o' : Obj) (q : Nat) (r : Option Nat) : KeepsBut w (((w.alloc o).alloc o').drewN q) r := fun p x hp _ hx =>
  ((below_drewN (((Below.refl w.heap.size w).alloc (Nat.le_refl _) o).alloc (by simp) o') q).cell hp).trans hx
theorem keeps3 {w w1 : World} {o o' o'' : Obj} {r : Option Nat} (q : Nat) (hg : ((((w.alloc o).alloc o').drewN q).alloc o'').grownBy w1 r) : KeepsBut w w1 r := fun p x hp hne hx =>
  hg.cell ((((below_drewN (((Below.refl w.heap.size w).alloc (Nat.le_refl _) o).alloc (by simp) o') q).alloc (by simp; omega) o'').cell hp).trans hx) hne
set_option maxHeartbeats 2000000 in
set_option maxRecDepth 1000000 in
theorem moved48 (base : Nat) (P : List (Int × Int)) (n : Nat) (v : Value) (lo hi a b st : Int) (w : World) (hown : w.ownsRow base 62 2 v n (fl P)) (hb : base ≤ w.heap.size) (hsz : n ≤ 1000000)
    (hl0 : 0 ≤ lo) (hl1 : lo ≤ 1114111) (hh0 : 0 ≤ hi) (hh1 : hi ≤ 1114111) (ha0 : 0 ≤ a) (ha1 : a ≤ 1000) (hb0 : 0 ≤ b) (hb1 : b ≤ 1000) (hs0 : -1000 ≤ st) (hs1 : st ≤ 1000) :
    Calls Tryz.prog 121 #[v, .agg #[.int .i64 lo, .int .i64 hi], .agg #[.int .i64 a, .int .i64 b], .int .i64 st] w fun e w' => ∃ v', e = .returned v' ∧ w'.ownsRow base 62 2 v' (n + (movedOf (lo, hi) a b st).length) (fl (P ++ movedOf (lo, hi) a b st)) ∧ Below base w w' ∧ KeepsBut w w' v.ownBlock := by
  obtain ⟨i0, hi0, hz0, hz1, hz2⟩ := info_parts info57
  have hmx : 0 ≤ max lo a ∧ max lo a ≤ 1114111 := by omega
  have hmn : 0 ≤ min hi b ∧ min hi b ≤ 1114111 := by omega
  by_cases hc : min hi b < max lo a
  · have hm : movedOf (lo, hi) a b st = [] := by unfold movedOf; rw [if_pos hc]
    rw [hm]
    clear hm
    go_enter Tryz.func121, Tryz.ntmps121
    go_wp2
    go_quiet (fail)
    go_wp2
    go_ret
    refine ⟨_, rfl, by rw [List.append_nil]; exact (show (((w.alloc _).alloc _).drewN _).ownsRow base 62 2 v n (fl P) from (hown.alloc _).alloc _), below_drewN (((Below.refl _ _).alloc hb _).alloc (by simp; omega) _) _, keeps2 _ _ _ _ _⟩
  · have hm : movedOf (lo, hi) a b st = [(max lo a + st, min hi b + st)] := by unfold movedOf; rw [if_neg hc]
    rw [hm]
    clear hm
    go_enter Tryz.func121, Tryz.ntmps121
    go_wp2
    go_quiet (fail)
    go_wp2_with (at_builtin; refine wpList_append_own _ rfl (.tmp 25) (.tmp 33) 23 rfl base 62 i0 (.agg #[.int .i64 0, .int .i64 0]) 2 16 Tryz.underlying23 hi0 hz0 hz1 hz2 rfl (by decide) v n _ rfl (by exact (show ((((w.alloc _).alloc _).drewN nq).ownsRow base 62 2 v n (fl P)) from (hown.alloc _).alloc _).alloc _) ⟨w.heap.size + 2, 0, none⟩ 1 1 [.int .i64 (max lo a + st), .int .i64 (min hi b + st)] rfl rfl (by exact news_two _ _ _ _ _ (by simp)) (two_cells_int _ _ _) (by unfold maxLen; omega) (by omega) (by simp; omega) ?_; intro v1 w1 ho1 hg1 _)
    go_ret
    refine ⟨_, rfl, by rw [fl_one]; simpa using ho1, box2_kept (t := 57) hown hb nq hg1, keeps3 nq hg1⟩
/-- the other case of what a range has -/
def foldOf (g : Int × Int) : List (Int × Int) := movedOf g 65 90 32 ++ movedOf g 97 122 (-32)
def allFold (L : List (Int × Int)) : List (Int × Int) := (L.map foldOf).flatten
theorem moved_len (g : Int × Int) (a b st : Int) : (movedOf g a b st).length ≤ 1 := by unfold movedOf; split <;> simp
theorem moved_bd (g : Int × Int) (a b st : Int) (h0 : 0 ≤ a + st) (h1 : b + st ≤ 1114111) (h2 : 0 ≤ a) : bdB (movedOf g a b st) := by
  intro x hx
  unfold movedOf at hx
  split at hx
  · simp at hx
  · simp at hx; subst hx; simp only; omega
theorem allFold_bd (L : List (Int × Int)) : bdB (allFold L) := by
  induction L with
  | nil => intro g hg; simp [allFold] at hg
  | cons a t ih =>
    have h : allFold (a :: t) = foldOf a ++ allFold t := by simp [allFold]
    rw [h]
    exact bdB_append (bdB_append (moved_bd _ _ _ _ (by omega) (by omega) (by omega)) (moved_bd _ _ _ _ (by omega) (by omega) (by omega))) ih
theorem allFold_take (L : List (Int × Int)) (k : Nat) (h : k < L.length) : allFold (L.take (k + 1)) = allFold (L.take k) ++ foldOf (L.getD k (0, 0)) := by
  unfold allFold
  rw [List.take_succ_eq_append_getElem h, List.map_append, List.flatten_append]
  simp [List.getD, h]
def FoldEnd (N : Nat) (w w' : World) (e : Ending) (L : List (Int × Int)) : Prop := if rightB L = true then GatherEnd N w w' e (allParts (L ++ allFold L)) else e = .returned (.tuple #[.slice none 0 0, .int .i64 10]) ∧ Below N w w'
/-- gather of two lists -/
theorem gather_two (A B : List (Int × Int)) (u v : Value) (w : World) (N : Nat) (hA : RowAt N w u A) (hB : RowAt w.heap.size w v B) (hN : N ≤ w.heap.size) (hlen : (A ++ B).length ≤ 1000000) (hbd : bdB (A ++ B)) :
    Calls Tryz.prog 106 #[.slice (some ⟨w.heap.size, 0, none⟩) 2 2] (w.alloc (.cells #[u, v] 23)) fun e w' => GatherEnd (w.alloc (.cells #[u, v] 23)).heap.size (w.alloc (.cells #[u, v] 23)) w' e (allParts (A ++ B)) := by
  have hfl : [A, B].flatten = A ++ B := by simp
  have hc0 : (w.alloc (.cells #[u, v] 23)).cell? ⟨w.heap.size, 0 + 0, none⟩ = some u := (World.cell?_alloc_at _ _ _ 0 rfl).trans rfl
  have hc1 : (w.alloc (.cells #[u, v] 23)).cell? ⟨w.heap.size, 0 + 1, none⟩ = some v := (World.cell?_alloc_at _ _ _ 1 rfl).trans rfl
  have hA3 : RowAt (w.alloc (.cells #[u, v] 23)).heap.size (w.alloc (.cells #[u, v] 23)) u A := hA.below ((Below.refl w.heap.size w).alloc (Nat.le_refl _) _) hN (by simp; omega)
  have hB3 : RowAt (w.alloc (.cells #[u, v] 23)).heap.size (w.alloc (.cells #[u, v] 23)) v B := hB.below ((Below.refl w.heap.size w).alloc (Nat.le_refl _) _) (Nat.le_refl _) (by simp)
  have hg := gather47 [A, B] w.heap.size 0 2 2 1000000 (w.alloc (.cells #[u, v] 23)) rfl (by show ([A, B].flatten).length ≤ 1000000; rw [hfl]; exact hlen) (by omega) (by omega) (by show bdB [A, B].flatten; rw [hfl]; exact hbd) (by simp)
    (by intro j hj
        match j, hj with
        | 0, _ => exact ⟨_, hc0, hA3⟩
        | 1, _ => exact ⟨_, hc1, hB3⟩)
  rw [hfl] at hg
  exact hg
set_option maxHeartbeats 3000000 in
set_option maxRecDepth 1000000 in
theorem fold_ok (L : List (Int × Int)) (ad : Option Addr) (n cap : Nat) (w : World) (hn : Hid (n = L.length)) (hl : Hid (RowAt w.heap.size w (.slice ad n cap) L)) (hr : Hid (rightB L = true)) :
    Calls Tryz.prog 109 #[.slice ad n cap] w fun e w' => GatherEnd w.heap.size w w' e (allParts (L ++ allFold L)) := by
  have hlen := rightB_len hr.out
  rw [← hn.out] at hlen
  have hr1 := right25 L ad n cap w hn.out (by omega) hl.out
  rw [hr.out] at hr1
  go_enter Tryz.func109, Tryz.ntmps109
  go_wp2_with (go_at_call 105; refine hr1.mono ?_; rintro e w1 ⟨rfl, hb1⟩; have hs1 := hb1.size)
  go_loopw [4, 12] (fun v i wr => ∃ (k m : Nat) (P : List (Int × Int)), k ≤ n ∧ m ≤ 2 * k ∧ i = .int .i64 k ∧ wr.ownsRow w.heap.size 62 2 v m (fl P) ∧ Below w.heap.size w wr ∧ Hid (P = allFold (L.take k) ∧ m = P.length))
    (fun _ i _ => n - (intOf i).toNat)
  case atStart => exact ⟨0, 0, [], by omega, by omega, rfl, World.ownsRow_nil _ _ _ _, hb1, by exact ⟨by simp [allFold], rfl⟩⟩
  case round =>
    obtain ⟨k, m, P, hk, hm, rfl, hown, hbw, HR⟩ := hrel
    have hsz := hbw.size
    by_cases hlt : k < n
    · obtain ⟨ad', cap', he, h | ⟨b, off, rfl, hbN, hc0, hc1⟩⟩ := hl.out
      · exact absurd h (by rw [← hn.out]; omega)
      · have hn' := hn.out
        simp only [Value.slice.injEq] at he
        obtain ⟨rfl, -, rfl⟩ := he
        have d0 := (hbw.cell (p := ⟨b, off + k * 2, none⟩) hbN).trans (hc0 k (by omega))
        have d1 := (hbw.cell (p := ⟨b, off + k * 2 + 1, none⟩) hbN).trans (hc1 k (by omega))
        have htk := allFold_take L k (by omega)
        rw [← HR.out.1] at htk
        have hdm := right_at L 0 k (by have := hr.out; unfold rightB at this; rw [Bool.and_eq_true] at this; exact this.2) (by omega)
        generalize L.getD k (0, 0) = g at d0 d1 htk hdm
        obtain ⟨lo, hi⟩ := g
        simp only at d0 d1 hdm
        obtain ⟨hl0, hl1⟩ : 0 ≤ lo ∧ lo ≤ 1114111 := by have := hdm.1; simp [dom] at this; omega
        obtain ⟨hh0, hh1⟩ : 0 ≤ hi ∧ hi ≤ 1114111 := by have := hdm.2; simp [dom] at this; omega
        have HR2 : Hid (allFold (L.take (k + 1)) = P ++ foldOf (lo, hi) ∧ m = P.length) := ⟨htk, HR.out.2⟩
        clear htk HR hc0 hc1 hn' hdm
        have hm1 := moved_len (lo, hi) 65 90 32
        have hm2 := moved_len (lo, hi) 97 122 (-32)
        have q0 : (wr.alloc (.cells #[.int .i64 lo, .int .i64 hi] 62)).cell? ⟨wr.heap.size, 0, none⟩ = some (.int .i64 lo) := (World.cell?_alloc_at _ _ _ 0 rfl).trans rfl
        have q1 : (wr.alloc (.cells #[.int .i64 lo, .int .i64 hi] 62)).cell? ⟨wr.heap.size, 1, none⟩ = some (.int .i64 hi) := (World.cell?_alloc_at _ _ _ 1 rfl).trans rfl
        have hc1 := moved48 w.heap.size P m _ lo hi 65 90 32 (wr.alloc (.cells #[.int .i64 lo, .int .i64 hi] 62)) (hown.alloc _) (by simp; omega) (by omega) hl0 hl1 hh0 hh1 (by omega) (by omega) (by omega) (by omega) (by omega) (by omega)
        generalize hM1 : movedOf (lo, hi) 65 90 32 = M1 at hc1 hm1
        go_wp2_with fail
        refine hc1.mono ?_
        rintro e w2 ⟨v2, rfl, ho2, hb2, hk2⟩
        have hne : some wr.heap.size ≠ Value.ownBlock _ := fun e => by have := (hown.lt _ e.symm).2; omega
        have c0 := hk2 ⟨wr.heap.size, 0, none⟩ _ (by simp) hne q0
        have c1 := hk2 ⟨wr.heap.size, 1, none⟩ _ (by simp) hne q1
        have hbw2 : Below w.heap.size w w2 := (hbw.alloc hsz _).trans hb2
        have hs2 := hbw2.size
        have hc2 := moved48 w.heap.size (P ++ M1) (m + M1.length) v2 lo hi 97 122 (-32) w2 ho2 hs2 (by omega) hl0 hl1 hh0 hh1 (by omega) (by omega) (by omega) (by omega) (by omega) (by omega)
        generalize hM2 : movedOf (lo, hi) 97 122 (-32) = M2 at hc2 hm2
        clear hk2 hne q0 q1
        go_wp2_with fail
        refine hc2.mono ?_
        rintro e w3 ⟨v3, rfl, ho3, hb3, hk3⟩
        clear hk3
        go_wp2
        go_roundw
        case rel => exact ⟨k + 1, m + M1.length + M2.length, P ++ M1 ++ M2, by omega, by omega, by go_num, ho3, hbw2.trans hb3, by exact ⟨by rw [HR2.out.1, foldOf, hM1, hM2, List.append_assoc], by rw [List.length_append, List.length_append, ← HR2.out.2]⟩⟩
        case measure => simp [intOf]; omega
    · obtain rfl : k = n := by omega
      have hR := HR.out
      rw [List.take_of_length_le (by rw [← hn.out]; exact Nat.le_refl _)] at hR
      obtain ⟨rfl, hmP⟩ := hR
      have hfl : [L, allFold L].flatten = L ++ allFold L := by simp
      have hrow := row_own hmP hown
      have hA3 : RowAt wr.heap.size wr (.slice ad k cap) L := hl.out.below hbw (Nat.le_refl _) hsz
      have hlr := rightB_len hr.out
      have hln : (L ++ allFold L).length ≤ 1000000 := by rw [List.length_append, ← hmP]; omega
      have hbd : bdB (L ++ allFold L) := bdB_append (rightB_bd hr.out) (allFold_bd L)
      have hgt := fun v (hv : RowAt wr.heap.size wr v (allFold L)) => gather_two L (allFold L) (.slice ad k cap) v wr wr.heap.size hA3 hv (Nat.le_refl _) hln hbd
      clear hfl hA3 hln hbd hmP
      rcases Joins.ownsRow_forms hown with ⟨rfl, h0⟩ | ⟨g1, cp1, rfl⟩
      · have hg := hgt _ hrow
        clear hgt hrow
        go_wp2_with (go_at_call 106; refine hg.mono ?_; intro e w4 hG; obtain ⟨v4, c4, rfl⟩ := hG.form)
        go_ret2
        exact hG.low (hbw.alloc hsz _) (by simp; omega)
      · have hg := hgt _ hrow
        clear hgt hrow
        go_wp2_with (go_at_call 106; refine hg.mono ?_; intro e w4 hG; obtain ⟨v4, c4, rfl⟩ := hG.form)
        go_ret2
        exact hG.low (hbw.alloc hsz _) (by simp; omega)
set_option maxHeartbeats 1000000 in
theorem fold_bad (L : List (Int × Int)) (ad : Option Addr) (n cap : Nat) (w : World) (hn : Hid (n = L.length)) (hS2 : n ≤ 17592186044416) (hl : Hid (RowAt w.heap.size w (.slice ad n cap) L)) (hr : Hid (rightB L = false)) :
    Calls Tryz.prog 109 #[.slice ad n cap] w fun e w' => e = .returned (.tuple #[.slice none 0 0, .int .i64 10]) ∧ Below w.heap.size w w' := by
  have hr1 := right25 L ad n cap w hn.out hS2 hl.out
  rw [hr.out] at hr1
  go_enter Tryz.func109, Tryz.ntmps109
  go_wp2_with (go_at_call 105; refine hr1.mono ?_; rintro e w1 ⟨rfl, hb1⟩)
  go_ret2
  exact ⟨rfl, hb1⟩
theorem fold29 (L : List (Int × Int)) (ad : Option Addr) (n cap : Nat) (w : World) (hn : n = L.length) (hS2 : n ≤ 17592186044416) (hl : RowAt w.heap.size w (.slice ad n cap) L) :
    Calls Tryz.prog 109 #[.slice ad n cap] w fun e w' => FoldEnd w.heap.size w w' e L := by
  unfold FoldEnd
  cases hr : rightB L
  · simp only [Bool.false_eq_true, if_false]
    exact fold_bad L ad n cap w hn hS2 hl hr
  · simp only [if_true]
    exact fold_ok L ad n cap w hn hl hr
end Go.Proofs.YtenanfkmmkmolaaGreatDoor
/- HELPERS: is a rune in one of the ranges. -/
namespace Go.Proofs.YtenanfkmmkmolaaGreatDoor
open Go.RowKit Go.Mx
set_option linter.unusedVariables false
set_option linter.unusedSimpArgs false
/-- is a rune in one of the ranges -/
def hasB (L : List (Int × Int)) (r : Int) : Bool := L.any fun g => decide (g.1 ≤ r) && decide (r ≤ g.2)
theorem right_rise (L : List (Int × Int)) : ∀ (ls : Int) (k : Nat), rightFrom ls L = true → k + 1 < L.length → (L.getD k (0, 0)).2 < (L.getD (k + 1) (0, 0)).1 ∧ (L.getD (k + 1) (0, 0)).1 ≤ (L.getD (k + 1) (0, 0)).2 := by
  induction L with
  | nil => intro ls k _ h; simp at h
  | cons a t ih =>
    intro ls k h hk
    simp only [rightFrom, Bool.and_eq_true] at h
    cases k with
    | zero =>
      cases t with
      | nil => simp at hk
      | cons b t =>
        have h2 := h.2
        simp only [rightFrom, okG, Bool.and_eq_true, decide_eq_true_eq] at h2
        have := h2.1.1.1.1.1
        have := h2.1.1.1.1.2
        simp
        omega
    | succ k => simpa using ih _ k h.2 (by simpa using hk)
theorem right_mono (L : List (Int × Int)) (ls : Int) (h : rightFrom ls L = true) : ∀ (d k : Nat), k + d < L.length → (L.getD k (0, 0)).2 ≤ (L.getD (k + d) (0, 0)).2 := by
  intro d
  induction d with
  | zero => intro k _; simp
  | succ d ih =>
    intro k hk
    have h1 := ih k (by omega)
    have h2 := right_rise L ls (k + d) h (by omega)
    have e : k + (d + 1) = k + d + 1 := by omega
    rw [e]
    omega
theorem right_lo (L : List (Int × Int)) (ls : Int) (h : rightFrom ls L = true) (a b : Nat) (hab : a < b) (hb : b < L.length) : (L.getD a (0, 0)).2 < (L.getD b (0, 0)).1 := by
  obtain ⟨d, rfl⟩ := Nat.exists_eq_add_of_le (show a + 1 ≤ b by omega)
  have h1 := right_mono L ls h d a (by omega)
  have h2 := right_rise L ls (a + d) h (by omega)
  have e : a + 1 + d = a + d + 1 := by omega
  rw [e]
  omega
end Go.Proofs.YtenanfkmmkmolaaGreatDoor
/- HELPERS: plain mathematics of classes: which runes mergeL, partsOf, negFrom and allFold have; one list for one set of runes. -/
namespace Go.Proofs.YtenanfkmmkmolaaGreatDoor
open Go.Shelf Go.RowKit Go.Lib Go.Sort Go.Mx
set_option linter.unusedVariables false
set_option linter.unusedSimpArgs false
/-- a range that lies within the domain -/
def goodG (g : Int × Int) : Prop := g.1 ≤ g.2 ∧ (0 ≤ g.1 ∧ g.2 ≤ 55295 ∨ 57344 ≤ g.1 ∧ g.2 ≤ 1114111)
def inG (g : Int × Int) (r : Int) : Bool := decide (g.1 ≤ r) && decide (r ≤ g.2)
theorem hasB_nil (r : Int) : hasB [] r = false := rfl
theorem hasB_cons (g : Int × Int) (t : List (Int × Int)) (r : Int) : hasB (g :: t) r = (inG g r || hasB t r) := rfl
theorem hasB_append (A B : List (Int × Int)) (r : Int) : hasB (A ++ B) r = (hasB A r || hasB B r) := by unfold hasB; rw [List.any_append]
theorem hasB_perm {A B : List (Int × Int)} (h : A.Perm B) (r : Int) : hasB A r = hasB B r := by unfold hasB; exact h.any_eq
theorem hasB_true {L : List (Int × Int)} {r : Int} : hasB L r = true ↔ ∃ g ∈ L, g.1 ≤ r ∧ r ≤ g.2 := by
  unfold hasB; rw [List.any_eq_true]; simp
/-- merge, from a range on -/
def mrun : Int × Int → List (Int × Int) → List (Int × Int)
  | c, [] => [c]
  | c, g :: t => if g.1 ≤ c.2 + 1 then mrun (c.1, max c.2 g.2) t else c :: mrun g t
theorem last_snoc (O : List (Int × Int)) (c : Int × Int) : lastOf (O ++ [c]) = c := by
  unfold lastOf
  simp [List.getD]
theorem mstep_snoc (O : List (Int × Int)) (c g : Int × Int) : mstep (O ++ [c]) g = if g.1 ≤ c.2 + 1 then O ++ [(c.1, max c.2 g.2)] else O ++ [c] ++ [g] := by
  unfold mstep
  rw [if_neg (by simp), last_snoc]
  split
  · simp
  · rfl
theorem foldl_mrun (t : List (Int × Int)) : ∀ (O : List (Int × Int)) (c : Int × Int), t.foldl mstep (O ++ [c]) = O ++ mrun c t := by
  induction t with
  | nil => intro O c; rfl
  | cons g t ih =>
    intro O c
    rw [List.foldl_cons, mstep_snoc, mrun]
    split
    · rw [ih]
    · rw [ih]; simp
theorem mergeL_cons (g : Int × Int) (t : List (Int × Int)) : mergeL (g :: t) = mrun g t := by
  unfold mergeL
  rw [List.foldl_cons]
  have : mstep [] g = [] ++ [g] := by unfold mstep; simp
  rw [this, foldl_mrun]
  rfl
theorem mrun_has (r : Int) (t : List (Int × Int)) : ∀ c : Int × Int, c.1 ≤ c.2 → (c :: t).Pairwise (fun x y => x.1 ≤ y.1) → (∀ g ∈ t, g.1 ≤ g.2) → hasB (mrun c t) r = hasB (c :: t) r := by
  induction t with
  | nil => intro c _ _ _; rfl
  | cons g t ih =>
    intro c hc hp hg
    rw [mrun]
    obtain ⟨hp1, hp2⟩ := List.pairwise_cons.1 hp
    obtain ⟨hp3, hp4⟩ := List.pairwise_cons.1 hp2
    have hcg := hp1 g (by simp)
    have hgg := hg g (by simp)
    split
    · rename_i hj
      rw [ih (c.1, max c.2 g.2) (by simp only; omega) (List.pairwise_cons.2 ⟨fun x hx => hp1 x (by simp [hx]), hp4⟩) (fun x hx => hg x (by simp [hx]))]
      rw [hasB_cons, hasB_cons, hasB_cons, ← Bool.or_assoc]
      congr 1
      unfold inG
      rw [Bool.eq_iff_iff]
      simp only [Bool.or_eq_true, Bool.and_eq_true, decide_eq_true_eq]
      omega
    · rw [hasB_cons, hasB_cons, ih g hgg hp2 (fun x hx => hg x (by simp [hx]))]
theorem good_ok {ls : Int} {g : Int × Int} (h : goodG g) (hl : ls ≤ g.1) : okG ls g = true := by
  obtain ⟨h1, h2⟩ := h
  simp only [okG, dom, gapB, Bool.and_eq_true, Bool.not_eq_true', decide_eq_true_eq, decide_eq_false_iff_not]
  omega
theorem ok_good {ls : Int} {g : Int × Int} (h : okG ls g = true) : goodG g ∧ ls ≤ g.1 := by
  simp only [okG, dom, gapB, Bool.and_eq_true, Bool.not_eq_true', decide_eq_true_eq, decide_eq_false_iff_not] at h
  unfold goodG
  omega
theorem mrun_right (t : List (Int × Int)) : ∀ (ls : Int) (c : Int × Int), ls ≤ c.1 → goodG c → (c :: t).Pairwise (fun x y => x.1 ≤ y.1) → (∀ g ∈ t, goodG g) → rightFrom ls (mrun c t) = true := by
  induction t with
  | nil => intro ls c hl hc _ _; simp only [mrun, rightFrom, good_ok hc hl, Bool.and_self]
  | cons g t ih =>
    intro ls c hl hc hp hg
    rw [mrun]
    obtain ⟨hp1, hp2⟩ := List.pairwise_cons.1 hp
    obtain ⟨hp3, hp4⟩ := List.pairwise_cons.1 hp2
    have hcg := hp1 g (by simp)
    have hgg := hg g (by simp)
    split
    · rename_i hj
      refine ih ls (c.1, max c.2 g.2) hl ?_ (List.pairwise_cons.2 ⟨fun x hx => hp1 x (by simp [hx]), hp4⟩) (fun x hx => hg x (by simp [hx]))
      unfold goodG at hc hgg ⊢
      simp only
      omega
    · rename_i hj
      rw [rightFrom, good_ok hc hl, Bool.true_and]
      exact ih _ g (by omega) hgg hp2 (fun x hx => hg x (by simp [hx]))
theorem merge_has (D : List (Int × Int)) (r : Int) (hp : D.Pairwise (fun x y => x.1 ≤ y.1)) (hg : ∀ g ∈ D, goodG g) : hasB (mergeL D) r = hasB D r := by
  cases D with
  | nil => rfl
  | cons c t => rw [mergeL_cons]; exact mrun_has r t c (hg c (by simp)).1 hp (fun g h => (hg g (by simp [h])).1)
theorem merge_right (D : List (Int × Int)) (hp : D.Pairwise (fun x y => x.1 ≤ y.1)) (hg : ∀ g ∈ D, goodG g) : rightFrom 0 (mergeL D) = true := by
  cases D with
  | nil => rfl
  | cons c t =>
    rw [mergeL_cons]
    refine mrun_right t 0 c ?_ (hg c (by simp)) hp (fun g h => hg g (by simp [h]))
    have := hg c (by simp)
    unfold goodG at this
    omega
/-- below the least there is nothing -/
theorem right_below (L : List (Int × Int)) : ∀ (ls r : Int), rightFrom ls L = true → r < ls → hasB L r = false := by
  induction L with
  | nil => intro ls r _ _; rfl
  | cons g t ih =>
    intro ls r h hr
    rw [rightFrom, Bool.and_eq_true] at h
    obtain ⟨hg, hl⟩ := ok_good h.1
    rw [hasB_cons, ih _ r h.2 (by have := hg.1; omega), Bool.or_false]
    unfold inG
    rw [Bool.and_eq_false_iff]
    left
    simp only [decide_eq_false_iff_not]
    omega
/-- ONE LIST FOR ONE SET OF RUNES -/
theorem right_one (A : List (Int × Int)) : ∀ (B : List (Int × Int)) (ls ls' : Int), rightFrom ls A = true → rightFrom ls' B = true → (∀ r, hasB A r = hasB B r) → A = B := by
  induction A with
  | nil =>
    intro B ls ls' _ hB h
    cases B with
    | nil => rfl
    | cons b t =>
      rw [rightFrom, Bool.and_eq_true] at hB
      obtain ⟨⟨hb, _⟩, _⟩ := ok_good hB.1
      have := h b.1
      rw [hasB_nil, hasB_cons] at this
      simp [inG, hb] at this
  | cons a s ih =>
    intro B ls ls' hA hB h
    cases B with
    | nil =>
      rw [rightFrom, Bool.and_eq_true] at hA
      obtain ⟨⟨ha, _⟩, _⟩ := ok_good hA.1
      have := h a.1
      rw [hasB_nil, hasB_cons] at this
      simp [inG, ha] at this
    | cons b t =>
      rw [rightFrom, Bool.and_eq_true] at hA hB
      obtain ⟨⟨ha, _⟩, _⟩ := ok_good hA.1
      obtain ⟨⟨hb, _⟩, _⟩ := ok_good hB.1
      have lowA : ∀ r, r < a.2 + 2 → hasB s r = false := fun r hr => right_below s _ r hA.2 hr
      have lowB : ∀ r, r < b.2 + 2 → hasB t r = false := fun r hr => right_below t _ r hB.2 hr
      have hh : ∀ r, (inG a r || hasB s r) = (inG b r || hasB t r) := fun r => by have := h r; rwa [hasB_cons, hasB_cons] at this
      have e1 : a.1 = b.1 := by
        rcases Int.lt_trichotomy a.1 b.1 with hlt | he | hgt
        · have := hh a.1
          rw [lowA _ (by omega), lowB _ (by omega)] at this
          simp [inG, ha] at this
          omega
        · exact he
        · have := hh b.1
          rw [lowA _ (by omega), lowB _ (by omega)] at this
          simp [inG, hb] at this
          omega
      have e2 : a.2 = b.2 := by
        rcases Int.lt_trichotomy a.2 b.2 with hlt | he | hgt
        · have := hh (a.2 + 1)
          have x1 : inG a (a.2 + 1) = false := by simp only [inG, Bool.and_eq_false_iff, decide_eq_false_iff_not]; omega
          have x2 : inG b (a.2 + 1) = true := by simp only [inG, Bool.and_eq_true, decide_eq_true_eq]; omega
          rw [lowA _ (by omega), lowB _ (by omega), x1, x2] at this
          simp at this
        · exact he
        · have := hh (b.2 + 1)
          have x1 : inG b (b.2 + 1) = false := by simp only [inG, Bool.and_eq_false_iff, decide_eq_false_iff_not]; omega
          have x2 : inG a (b.2 + 1) = true := by simp only [inG, Bool.and_eq_true, decide_eq_true_eq]; omega
          rw [lowA _ (by omega), lowB _ (by omega), x1, x2] at this
          simp at this
      have eab : a = b := Prod.ext e1 e2
      subst eab
      rw [ih t _ _ hA.2 hB.2 (fun r => by
        by_cases hr : r < a.2 + 2
        · rw [lowA r hr, lowB r hr]
        · have := hh r
          have hi : inG a r = false := by
            unfold inG
            rw [Bool.and_eq_false_iff]
            right
            simp only [decide_eq_false_iff_not]
            omega
          rwa [hi, Bool.false_or, Bool.false_or] at this)]
/-- what a range has of the domain, by its parts -/
theorem parts_has (g : Int × Int) (r : Int) (h : okR g = true) : hasB (partsOf g) r = (dom r && inG g r) := by
  simp only [okR, decide_eq_true_eq] at h
  unfold partsOf
  rw [hasB_append]
  by_cases h1 : g.1 < 55296 <;> by_cases h2 : 57343 < g.2
  all_goals
    first | rw [if_pos h1] | rw [if_neg h1]
    first | rw [if_pos h2] | rw [if_neg h2]
    simp only [hasB_cons, hasB_nil, inG, dom, Bool.or_false]
    rw [Bool.eq_iff_iff]
    simp only [Bool.or_eq_true, Bool.and_eq_true, decide_eq_true_eq, Bool.false_eq_true, or_false, false_or, false_iff, iff_false]
    omega
theorem parts_good (g : Int × Int) (h : okR g = true) : ∀ x ∈ partsOf g, goodG x := by
  simp only [okR, decide_eq_true_eq] at h
  intro x hx
  unfold partsOf at hx
  rcases List.mem_append.1 hx with hx | hx
  · split at hx
    · simp at hx; subst hx; unfold goodG; simp only; omega
    · simp at hx
  · split at hx
    · simp at hx; subst hx; unfold goodG; simp only; omega
    · simp at hx
theorem allParts_has (L : List (Int × Int)) (r : Int) (h : L.all okR = true) : hasB (allParts L) r = (dom r && hasB L r) := by
  induction L with
  | nil => simp [allParts, hasB_nil]
  | cons g t ih =>
    rw [List.all_cons, Bool.and_eq_true] at h
    have e : allParts (g :: t) = partsOf g ++ allParts t := by simp [allParts]
    rw [e, hasB_append, parts_has g r h.1, ih h.2, hasB_cons, Bool.and_or_distrib_left]
theorem allParts_good (L : List (Int × Int)) (h : L.all okR = true) : ∀ x ∈ allParts L, goodG x := by
  intro x hx
  unfold allParts at hx
  obtain ⟨g, hg, hx⟩ := List.mem_flatMap.1 hx
  exact parts_good g (List.all_eq_true.1 h g hg) x hx
/-- what gather gives, in plain words -/
theorem gather_means (L D : List (Int × Int)) (h : L.all okR = true) (hp : D.Perm (allParts L)) (hs : D.Pairwise (fun x y => x.1 ≤ y.1)) : rightFrom 0 (mergeL D) = true ∧ ∀ r, hasB (mergeL D) r = (dom r && hasB L r) := by
  have hg : ∀ g ∈ D, goodG g := fun g hgD => allParts_good L h g (hp.mem_iff.1 hgD)
  exact ⟨merge_right D hs hg, fun r => by rw [merge_has D r hs hg, hasB_perm hp, allParts_has L r h]⟩
theorem good_okR {g : Int × Int} (h : goodG g) : okR g = true := by unfold goodG at h; simp only [okR, decide_eq_true_eq]; omega
theorem right_good (L : List (Int × Int)) : ∀ ls, rightFrom ls L = true → ∀ g ∈ L, goodG g := by
  induction L with
  | nil => intro ls _ g hg; simp at hg
  | cons a t ih =>
    intro ls h g hg
    rw [rightFrom, Bool.and_eq_true] at h
    rcases List.mem_cons.1 hg with rfl | hg
    · exact (ok_good h.1).1
    · exact ih _ h.2 g hg
theorem right_okR {L : List (Int × Int)} {ls : Int} (h : rightFrom ls L = true) : L.all okR = true := List.all_eq_true.2 fun g hg => good_okR (right_good L ls h g hg)
theorem right_dom {L : List (Int × Int)} {ls : Int} (h : rightFrom ls L = true) (r : Int) (hr : hasB L r = true) : dom r = true := by
  obtain ⟨g, hg, h1, h2⟩ := hasB_true.1 hr
  have := right_good L ls h g hg
  unfold goodG at this
  simp only [dom, decide_eq_true_eq]
  omega
/-- what lies between -/
theorem neg_has (r : Int) (L : List (Int × Int)) : ∀ (ls x : Int), rightFrom ls L = true → x ≤ ls → hasB (negFrom x L) r = (decide (x ≤ r) && decide (r ≤ 1114111) && !hasB L r) := by
  induction L with
  | nil =>
    intro ls x _ _
    simp only [negFrom]
    split
    · simp [hasB_cons, hasB_nil, inG]
    · rw [hasB_nil]
      symm
      simp only [Bool.and_eq_false_iff, decide_eq_false_iff_not]
      omega
  | cons g t ih =>
    intro ls x h hx
    rw [rightFrom, Bool.and_eq_true] at h
    obtain ⟨hg, hl⟩ := ok_good h.1
    have hg1 := hg.1
    have hg2 : g.2 ≤ 1114111 := by unfold goodG at hg; omega
    have hlow : r < g.2 + 2 → hasB t r = false := right_below t _ r h.2
    simp only [negFrom]
    rw [hasB_append, ih (g.2 + 2) (g.2 + 1) h.2 (by omega), hasB_cons]
    by_cases hr : r < g.2 + 2
    · rw [hlow hr]
      split
      · rw [Bool.eq_iff_iff]
        simp only [hasB_cons, hasB_nil, inG, Bool.or_false, Bool.or_eq_true, Bool.and_eq_true, decide_eq_true_eq, Bool.not_eq_true', Bool.and_eq_false_iff, decide_eq_false_iff_not, Bool.not_false, and_true]
        omega
      · rw [Bool.eq_iff_iff]
        simp only [hasB_cons, hasB_nil, inG, Bool.or_false, Bool.false_or, Bool.or_eq_true, Bool.and_eq_true, decide_eq_true_eq, Bool.not_eq_true', Bool.and_eq_false_iff, decide_eq_false_iff_not, Bool.not_false, and_true]
        omega
    · have hi : inG g r = false := by simp only [inG, Bool.and_eq_false_iff, decide_eq_false_iff_not]; omega
      have h1 : hasB (if x < g.1 then [(x, g.1 - 1)] else []) r = false := by
        split
        · simp only [hasB_cons, hasB_nil, inG, Bool.or_false, Bool.and_eq_false_iff, decide_eq_false_iff_not]; omega
        · rfl
      have h2 : decide (g.2 + 1 ≤ r) = true := by simp; omega
      have h3 : decide (x ≤ r) = true := by simp; omega
      rw [hi, h1, h2, h3, Bool.false_or, Bool.false_or]
theorem neg_okR (L : List (Int × Int)) : ∀ (ls x : Int), rightFrom ls L = true → 0 ≤ x → (negFrom x L).all okR = true := by
  induction L with
  | nil =>
    intro ls x _ hx
    simp only [negFrom]
    split
    · simp [okR]; omega
    · rfl
  | cons g t ih =>
    intro ls x h hx
    rw [rightFrom, Bool.and_eq_true] at h
    obtain ⟨hg, hl⟩ := ok_good h.1
    have hg1 : 0 ≤ g.1 ∧ g.1 ≤ g.2 ∧ g.2 ≤ 1114111 := by unfold goodG at hg; omega
    simp only [negFrom]
    rw [List.all_append, ih _ _ h.2 (by omega), Bool.and_true]
    split
    · simp [okR]; omega
    · rfl
/-- the other case -/
def otherI (r : Int) : Int := if 97 ≤ r ∧ r ≤ 122 then r - 32 else if 65 ≤ r ∧ r ≤ 90 then r + 32 else r
theorem moved_has (g : Int × Int) (a b st r : Int) : hasB (movedOf g a b st) r = (decide (a + st ≤ r ∧ r ≤ b + st) && inG g (r - st)) := by
  unfold movedOf
  rw [Bool.eq_iff_iff]
  split
  · simp only [hasB_nil, inG, Bool.and_eq_true, decide_eq_true_eq, Bool.false_eq_true, false_iff]; omega
  · simp only [hasB_cons, hasB_nil, inG, Bool.or_false, Bool.and_eq_true, decide_eq_true_eq]; omega
theorem foldOf_has (g : Int × Int) (r : Int) : hasB (foldOf g) r = (decide (otherI r ≠ r) && inG g (otherI r)) := by
  unfold foldOf
  rw [hasB_append, moved_has, moved_has]
  unfold otherI inG
  rw [Bool.eq_iff_iff]
  simp only [Bool.or_eq_true, Bool.and_eq_true, decide_eq_true_eq]
  split
  · omega
  · split <;> omega
theorem allFold_has (L : List (Int × Int)) (r : Int) : hasB (allFold L) r = (decide (otherI r ≠ r) && hasB L (otherI r)) := by
  induction L with
  | nil => simp [allFold, hasB_nil]
  | cons g t ih =>
    have e : allFold (g :: t) = foldOf g ++ allFold t := by simp [allFold]
    rw [e, hasB_append, ih, foldOf_has, hasB_cons, Bool.and_or_distrib_left]
theorem moved_okR (g : Int × Int) (a b st : Int) (h0 : 0 ≤ a + st) (h1 : b + st ≤ 1114111) : (movedOf g a b st).all okR = true := by
  unfold movedOf
  split
  · rfl
  · simp [okR]; omega
theorem allFold_okR (L : List (Int × Int)) : (allFold L).all okR = true := by
  induction L with
  | nil => rfl
  | cons g t ih =>
    have e : allFold (g :: t) = foldOf g ++ allFold t := by simp [allFold]
    rw [e, List.all_append, ih, Bool.and_true]
    unfold foldOf
    rw [List.all_append, moved_okR _ _ _ _ (by omega) (by omega), moved_okR _ _ _ _ (by omega) (by omega)]
    rfl
/-- few ranges of a class have letters -/
theorem allFold_few (L : List (Int × Int)) : ∀ ls, rightFrom ls L = true → 0 ≤ ls → (allFold L).length ≤ (91 - ls).toNat + (123 - ls).toNat := by
  induction L with
  | nil => intro ls _ _; simp [allFold]
  | cons g t ih =>
    intro ls h hl0
    rw [rightFrom, Bool.and_eq_true] at h
    obtain ⟨hg, hl⟩ := ok_good h.1
    have hg1 := hg.1
    have e : allFold (g :: t) = foldOf g ++ allFold t := by simp [allFold]
    have h2 := ih _ h.2 (by omega)
    rw [e, List.length_append]
    unfold foldOf movedOf
    rw [List.length_append]
    split <;> split <;> simp <;> omega
theorem allFold_short (L : List (Int × Int)) (h : rightB L = true) : (allFold L).length ≤ 214 := by
  have hr : rightFrom 0 L = true := by unfold rightB at h; rw [Bool.and_eq_true] at h; exact h.2
  have := allFold_few L 0 hr (by omega)
  simpa using this
/-- a range of a class has one part -/
theorem parts_one {g : Int × Int} (h : goodG g) : (partsOf g).length ≤ 1 := by
  unfold goodG at h
  unfold partsOf
  split <;> split <;> simp
  omega
theorem allParts_one (L : List (Int × Int)) (h : ∀ g ∈ L, goodG g) : (allParts L).length ≤ L.length := by
  induction L with
  | nil => simp [allParts]
  | cons g t ih =>
    have e : allParts (g :: t) = partsOf g ++ allParts t := by simp [allParts]
    have h1 := parts_one (h g (by simp))
    have h2 := ih (fun x hx => h x (by simp [hx]))
    rw [e, List.length_append, List.length_cons]
    omega
end Go.Proofs.YtenanfkmmkmolaaGreatDoor
/- HELPERS: the document's classes: plain mathematics. -/
namespace Go.Proofs.YtenanfkmmkmolaaGreatDoor
open Go.RowKit Go.Mx
set_option linter.unusedVariables false
set_option linter.unusedSimpArgs false
def eat : Int × Int → List (Int × Int) → (Int × Int) × List (Int × Int)
  | x, [] => (x, [])
  | x, g :: t => if g.1 ≤ x.2 + 1 then eat (min x.1 g.1, max x.2 g.2) t else (x, g :: t)
def layL : List (Int × Int) → Int × Int → List (Int × Int)
  | [], x => [x]
  | g :: t, x => if g.2 < x.1 - 1 then g :: layL t x else (eat x (g :: t)).1 :: (eat x (g :: t)).2
/-- a list that rises, two apart -/
def rise : Int → List (Int × Int) → Prop
  | _, [] => True
  | ls, g :: t => ls ≤ g.1 ∧ g.1 ≤ g.2 ∧ rise (g.2 + 2) t
def up (hi : Int) (L : List (Int × Int)) : Prop := ∀ g ∈ L, g.2 ≤ hi
theorem rise_low {ls ls' : Int} {L : List (Int × Int)} (h : rise ls L) (hl : ls' ≤ ls) : rise ls' L := by
  cases L with
  | nil => trivial
  | cons g t => exact ⟨by have := h.1; omega, h.2⟩
theorem rise_mem {L : List (Int × Int)} : ∀ {ls : Int}, rise ls L → ∀ g ∈ L, ls ≤ g.1 ∧ g.1 ≤ g.2 := by
  induction L with
  | nil => intro ls h g hg; cases hg
  | cons x t ih =>
    intro ls h g hg
    rcases List.mem_cons.1 hg with rfl | hg
    · exact ⟨h.1, h.2.1⟩
    · have := ih h.2.2 g hg
      have := h.1
      have := h.2.1
      omega
theorem in_merge (x g : Int × Int) (r : Int) (h1 : g.1 ≤ x.2 + 1) (h2 : x.1 - 1 ≤ g.2) (h3 : x.1 ≤ x.2) (h4 : g.1 ≤ g.2) : inG (min x.1 g.1, max x.2 g.2) r = (inG x r || inG g r) := by
  rw [Bool.eq_iff_iff]
  simp [inG]
  omega
theorem eat_has (r : Int) (l : List (Int × Int)) : ∀ (x : Int × Int) (ls : Int), x.1 ≤ x.2 → rise ls l → (∀ g ∈ l, x.1 - 1 ≤ g.2) → hasB ((eat x l).1 :: (eat x l).2) r = (inG x r || hasB l r) := by
  induction l with
  | nil => intro x ls h1 h2 h3; rfl
  | cons g t ih =>
    intro x ls h1 h2 h3
    unfold eat
    split
    · rename_i h4
      have h5 := h3 g (by simp)
      have h6 := h2.2.1
      rw [ih (min x.1 g.1, max x.2 g.2) (g.2 + 2) (by simp; omega) h2.2.2 ?_, in_merge x g r h4 h5 h1 h6, hasB_cons, Bool.or_assoc]
      intro k hk
      have := rise_mem h2.2.2 k hk
      simp
      omega
    · rfl
theorem eat_rise (l : List (Int × Int)) : ∀ (x : Int × Int) (ls lo : Int), x.1 ≤ x.2 → rise ls l → lo ≤ x.1 → lo ≤ ls → rise lo ((eat x l).1 :: (eat x l).2) := by
  induction l with
  | nil => intro x ls lo h1 h2 h3 h4; exact ⟨h3, h1, trivial⟩
  | cons g t ih =>
    intro x ls lo h1 h2 h3 h4
    have h5 := h2.1
    have h6 := h2.2.1
    unfold eat
    split
    · exact ih _ (g.2 + 2) lo (by simp; omega) h2.2.2 (by simp; omega) (by omega)
    · rename_i h7
      exact ⟨h3, h1, by show x.2 + 2 ≤ g.1; omega, h6, h2.2.2⟩
theorem eat_up (hi : Int) (l : List (Int × Int)) : ∀ x : Int × Int, x.2 ≤ hi → up hi l → up hi ((eat x l).1 :: (eat x l).2) := by
  induction l with
  | nil => intro x h1 h2 g hg; simp [eat] at hg; rw [hg]; exact h1
  | cons g t ih =>
    intro x h1 h2
    have h3 := h2 g (by simp)
    unfold eat
    split
    · exact ih _ (by simp; omega) (fun k hk => h2 k (by simp [hk]))
    · intro k hk
      rcases List.mem_cons.1 hk with rfl | hk
      · exact h1
      · exact h2 k hk
theorem lay_rise (l : List (Int × Int)) : ∀ (x : Int × Int) (lo : Int), x.1 ≤ x.2 → rise lo l → lo ≤ x.1 → rise lo (layL l x) := by
  induction l with
  | nil => intro x lo h1 h2 h3; exact ⟨h3, h1, trivial⟩
  | cons g t ih =>
    intro x lo h1 h2 h3
    unfold layL
    split
    · exact ⟨h2.1, h2.2.1, ih x (g.2 + 2) h1 h2.2.2 (by omega)⟩
    · exact eat_rise (g :: t) x lo lo h1 h2 h3 (Int.le_refl _)
theorem lay_has (r : Int) (l : List (Int × Int)) : ∀ (x : Int × Int) (lo : Int), x.1 ≤ x.2 → rise lo l → hasB (layL l x) r = (hasB l r || inG x r) := by
  induction l with
  | nil => intro x lo h1 h2; simp [layL, hasB, inG]
  | cons g t ih =>
    intro x lo h1 h2
    unfold layL
    split
    · rw [hasB_cons, ih x (g.2 + 2) h1 h2.2.2, hasB_cons, Bool.or_assoc]
    · rename_i h3
      rw [eat_has r (g :: t) x lo h1 h2 ?_, Bool.or_comm]
      intro k hk
      rcases List.mem_cons.1 hk with rfl | hk
      · omega
      · have := rise_mem h2.2.2 k hk
        have := h2.2.1
        omega
theorem lay_up (hi : Int) (l : List (Int × Int)) : ∀ x : Int × Int, x.2 ≤ hi → up hi l → up hi (layL l x) := by
  induction l with
  | nil => intro x h1 h2 g hg; simp [layL] at hg; rw [hg]; exact h1
  | cons g t ih =>
    intro x h1 h2
    unfold layL
    split
    · intro k hk
      rcases List.mem_cons.1 hk with rfl | hk
      · exact h2 k (by simp)
      · exact ih x h1 (fun k hk => h2 k (by simp [hk])) k hk
    · exact eat_up hi (g :: t) x h1 h2
theorem eat_len (l : List (Int × Int)) : ∀ x : Int × Int, (eat x l).2.length ≤ l.length := by
  induction l with
  | nil => intro x; simp [eat]
  | cons g t ih =>
    intro x
    unfold eat
    split
    · have := ih (min x.1 g.1, max x.2 g.2); simp; omega
    · simp
theorem lay_len (l : List (Int × Int)) (x : Int × Int) : (layL l x).length ≤ l.length + 1 := by
  induction l with
  | nil => simp [layL]
  | cons g t ih =>
    unfold layL
    split
    · simp; omega
    · have := eat_len (g :: t) x; simp at this ⊢; omega
/-- one part of the domain: what a range adds -/
def cstep (a b : Int) (acc : List (Int × Int)) (g : Int × Int) : List (Int × Int) := if max g.1 a ≤ min g.2 b then layL acc (max g.1 a, min g.2 b) else acc
theorem cfold (a b : Int) (L : List (Int × Int)) : ∀ acc, rise a acc → up b acc →
    rise a (L.foldl (cstep a b) acc) ∧ up b (L.foldl (cstep a b) acc) ∧ ∀ r, hasB (L.foldl (cstep a b) acc) r = (hasB acc r || (decide (a ≤ r) && decide (r ≤ b) && hasB L r)) := by
  induction L with
  | nil => intro acc h1 h2; exact ⟨h1, h2, fun r => by simp [hasB]⟩
  | cons g t ih =>
    intro acc h1 h2
    by_cases h3 : max g.1 a ≤ min g.2 b
    · have e : cstep a b acc g = layL acc (max g.1 a, min g.2 b) := by unfold cstep; rw [if_pos h3]
      have h4 := ih (cstep a b acc g) (by rw [e]; exact lay_rise acc _ a h3 h1 (by simp; omega)) (by rw [e]; exact lay_up b acc _ (by simp; omega) h2)
      refine ⟨h4.1, h4.2.1, fun r => ?_⟩
      rw [List.foldl_cons, h4.2.2 r, e, lay_has r acc _ a h3 h1, hasB_cons, Bool.or_assoc]
      congr 1
      rw [Bool.eq_iff_iff]
      simp [inG]
      constructor
      · rintro (h | h)
        · exact ⟨by omega, .inl (by omega)⟩
        · exact ⟨h.1, .inr h.2⟩
      · rintro ⟨h, h' | h'⟩
        · exact .inl (by omega)
        · exact .inr ⟨h, h'⟩
    · have e : cstep a b acc g = acc := by unfold cstep; rw [if_neg h3]
      have h4 := ih acc h1 h2
      rw [List.foldl_cons, e]
      refine ⟨h4.1, h4.2.1, fun r => ?_⟩
      rw [h4.2.2 r, hasB_cons]
      congr 1
      rw [Bool.eq_iff_iff]
      simp [inG]
      intro h5 h6
      omega
theorem cfold_len (a b : Int) (L : List (Int × Int)) : ∀ acc, (L.foldl (cstep a b) acc).length ≤ acc.length + L.length := by
  induction L with
  | nil => intro acc; simp
  | cons g t ih =>
    intro acc
    have h1 := ih (cstep a b acc g)
    have h2 : (cstep a b acc g).length ≤ acc.length + 1 := by
      unfold cstep
      split
      · exact lay_len _ _
      · omega
    simp only [List.foldl_cons, List.length_cons]
    omega
def lowOf (L : List (Int × Int)) : List (Int × Int) := L.foldl (cstep 0 55295) []
def highOf (L : List (Int × Int)) : List (Int × Int) := L.foldl (cstep 57344 1114111) []
theorem high_right (L : List (Int × Int)) : ∀ ls ls' : Int, rise ls L → up 1114111 L → 57344 ≤ ls → ls' ≤ ls → rightFrom ls' L = true := by
  induction L with
  | nil => intro ls ls' _ _ _ _; rfl
  | cons g t ih =>
    intro ls ls' h1 h2 h3 h4
    have h5 := h2 g (by simp)
    have h6 := h1.1
    have h7 := h1.2.1
    show (okG ls' g && rightFrom (g.2 + 2) t) = true
    rw [good_ok (by unfold goodG; omega) (by omega), ih (g.2 + 2) (g.2 + 2) h1.2.2 (fun k hk => h2 k (by simp [hk])) (by omega) (Int.le_refl _)]
    rfl
theorem low_right (H : List (Int × Int)) (hH : rise 57344 H) (hU : up 1114111 H) (L : List (Int × Int)) : ∀ ls ls' : Int, rise ls L → up 55295 L → 0 ≤ ls → ls' ≤ ls → ls ≤ 57344 → rightFrom ls' (L ++ H) = true := by
  induction L with
  | nil => intro ls ls' _ _ _ h4 h5; exact high_right H 57344 ls' hH hU (by omega) (by omega)
  | cons g t ih =>
    intro ls ls' h1 h2 h3 h4 h5
    have h6 := h2 g (by simp)
    have h7 := h1.1
    have h8 := h1.2.1
    show (okG ls' g && rightFrom (g.2 + 2) (t ++ H)) = true
    rw [good_ok (by unfold goodG; omega) (by omega), ih (g.2 + 2) (g.2 + 2) h1.2.2 (fun k hk => h2 k (by simp [hk])) (by omega) (Int.le_refl _) (by omega)]
    rfl
/-- what class answers is right and has the runes of the domain that its ranges have -/
theorem class_means (L : List (Int × Int)) : rightFrom 0 (lowOf L ++ highOf L) = true ∧ ∀ r, hasB (lowOf L ++ highOf L) r = (dom r && hasB L r) := by
  have h1 := cfold 0 55295 L [] trivial (fun g hg => by cases hg)
  have h2 := cfold 57344 1114111 L [] trivial (fun g hg => by cases hg)
  refine ⟨low_right _ h2.1 h2.2.1 _ 0 0 h1.1 h1.2.1 (by omega) (by omega) (by omega), fun r => ?_⟩
  rw [hasB_append]
  unfold lowOf highOf
  rw [h1.2.2 r, h2.2.2 r, Bool.eq_iff_iff]
  simp [hasB_nil, dom]
  constructor
  · rintro (h | h)
    · exact ⟨by omega, h.2⟩
    · exact ⟨by omega, h.2⟩
  · rintro ⟨h | h, h'⟩
    · exact .inl ⟨by omega, h'⟩
    · exact .inr ⟨by omega, h'⟩
/-- one list: gather's and class's -/
theorem class_gather (L D : List (Int × Int)) (h : L.all okR = true) (hp : D.Perm (allParts L)) (hs : D.Pairwise (fun x y => x.1 ≤ y.1)) : mergeL D = lowOf L ++ highOf L := by
  have h1 := gather_means L D h hp hs
  have h2 := class_means L
  exact right_one _ _ 0 0 h1.1 h2.1 (fun r => by rw [h1.2 r, h2.2 r])
end Go.Proofs.YtenanfkmmkmolaaGreatDoor
/- HELPERS: the calls on classes, as functions of lists. -/
namespace Go.Proofs.YtenanfkmmkmolaaGreatDoor
open Go.RowKit Go.Mx
set_option linter.unusedVariables false
set_option linter.unusedSimpArgs false
def classL (L : List (Int × Int)) : List (Int × Int) := lowOf L ++ highOf L
theorem classL_same (A B : List (Int × Int)) (h : ∀ r, hasB A r = hasB B r) : classL A = classL B :=
  right_one _ _ 0 0 (class_means A).1 (class_means B).1 (fun r => by show hasB (lowOf A ++ highOf A) r = hasB (lowOf B ++ highOf B) r; rw [(class_means A).2 r, (class_means B).2 r, h r])
def code (ok : Bool) (K : List (Int × Int)) : Int := if ok = true then (if K.length ≤ 5000 then 0 else 3) else 10
def outL (ok : Bool) (K : List (Int × Int)) : List (Int × Int) := if ok = true then (if K.length ≤ 5000 then K else []) else []
theorem outL_len (ok : Bool) (K : List (Int × Int)) : (outL ok K).length ≤ 5000 := by
  unfold outL
  split
  · split
    · assumption
    · simp
  · simp
/-- a list and a code that were answered -/
def Got (w w' : World) (e : Ending) (X : List (Int × Int)) (c : Int) : Prop := ∃ ad m cap, e = .returned (.tuple #[.slice ad m cap, .int .i64 c]) ∧ w'.ownsRow w.heap.size 62 2 (.slice ad m cap) m (fl X) ∧ m = X.length ∧ Below w.heap.size w w'
theorem got_of {w w' : World} {e : Ending} {ok : Bool} {K : List (Int × Int)} (hb : Below w.heap.size w w')
    (h : if ok = true then (if K.length ≤ 5000 then ∃ v, e = .returned (.tuple #[v, .int .i64 0]) ∧ w'.ownsRow w.heap.size 62 2 v K.length (fl K) else e = .returned (.tuple #[.slice none 0 0, .int .i64 3])) else e = .returned (.tuple #[.slice none 0 0, .int .i64 10])) :
    Got w w' e (outL ok K) (code ok K) := by
  unfold outL code
  by_cases h1 : ok = true
  · rw [if_pos h1] at h
    rw [if_pos h1, if_pos h1]
    by_cases h2 : K.length ≤ 5000
    · rw [if_pos h2] at h
      rw [if_pos h2, if_pos h2]
      obtain ⟨v, he, ho⟩ := h
      rcases Joins.ownsRow_forms ho with ⟨rfl, h0⟩ | ⟨g, cap, rfl⟩
      · exact ⟨none, 0, 0, he, by rw [h0] at ho; exact ho, h0.symm, hb⟩
      · exact ⟨_, _, cap, he, ho, rfl, hb⟩
    · rw [if_neg h2] at h
      rw [if_neg h2, if_neg h2]
      exact ⟨none, 0, 0, h, World.ownsRow_nil _ _ _ _, rfl, hb⟩
  · rw [if_neg h1] at h
    rw [if_neg h1, if_neg h1]
    exact ⟨none, 0, 0, h, World.ownsRow_nil _ _ _ _, rfl, hb⟩
theorem gather_got {w w' : World} {e : Ending} {L : List (Int × Int)} (hL : L.all okR = true) (h : GatherEnd w.heap.size w w' e (allParts L)) : Got w w' e (outL true (classL L)) (code true (classL L)) := by
  obtain ⟨D, hp, hs, hb, h2⟩ := h
  rw [class_gather L D hL hp hs] at h2
  exact got_of hb (by rw [if_pos rfl]; exact h2)
theorem no_got {w w' : World} {e : Ending} {K : List (Int × Int)} (he : e = .returned (.tuple #[.slice none 0 0, .int .i64 10])) (hb : Below w.heap.size w w') : Got w w' e (outL false K) (code false K) :=
  got_of hb (by rw [if_neg (by simp)]; exact he)
theorem rightB_okR {L : List (Int × Int)} (h : rightB L = true) : L.all okR = true := by
  unfold rightB at h
  rw [Bool.and_eq_true] at h
  exact right_okR h.2
theorem rightB_from {L : List (Int × Int)} (h : rightB L = true) : rightFrom 0 L = true := by
  unfold rightB at h
  rw [Bool.and_eq_true] at h
  exact h.2
def XN (A : List (Int × Int)) : List (Int × Int) := outL (A.all okR) (classL A)
def cN (A : List (Int × Int)) : Int := code (A.all okR) (classL A)
def XU (A B : List (Int × Int)) : List (Int × Int) := outL (rightB A && rightB B) (classL (A ++ B))
def cU (A B : List (Int × Int)) : Int := code (rightB A && rightB B) (classL (A ++ B))
def XG (A : List (Int × Int)) : List (Int × Int) := outL (rightB A) (classL (negFrom 0 A))
def cG (A : List (Int × Int)) : Int := code (rightB A) (classL (negFrom 0 A))
def XF (A : List (Int × Int)) : List (Int × Int) := outL (rightB A) (classL (A ++ allFold A))
def cF (A : List (Int × Int)) : Int := code (rightB A) (classL (A ++ allFold A))
section
variable (A B : List (Int × Int)) (ad aa ab : Option Addr) (n cap na nb ca cb : Nat) (w : World)
theorem norm_got (hn : A.length = n) (hS : n ≤ 1048576) (hl : RowAt w.heap.size w (.slice ad n cap) A) : Calls Tryz.prog 90 #[.slice ad n cap] w fun e w' => Got w w' e (XN A) (cN A) := by
  refine (norm26 A ad n cap w hn.symm (by omega) hl).mono fun e w' h => ?_
  unfold XN cN
  unfold NormEnd at h
  cases hok : A.all okR
  · rw [hok, if_neg (by simp)] at h
    exact no_got h.1 h.2
  · rw [hok, if_pos rfl] at h
    exact gather_got hok h
theorem neg_got (hn : A.length = n) (hS : n ≤ 1048576) (hl : RowAt w.heap.size w (.slice ad n cap) A) : Calls Tryz.prog 88 #[.slice ad n cap] w fun e w' => Got w w' e (XG A) (cG A) := by
  refine (negate28 A ad n cap w hn.symm (by omega) hl).mono fun e w' h => ?_
  unfold XG cG
  unfold NegEnd at h
  cases hok : rightB A
  · rw [hok, if_neg (by simp)] at h
    exact no_got h.1 h.2
  · rw [hok, if_pos rfl] at h
    exact gather_got (neg_okR A 0 0 (rightB_from hok) (by omega)) h
theorem fold_got (hn : A.length = n) (hS : n ≤ 1048576) (hl : RowAt w.heap.size w (.slice ad n cap) A) : Calls Tryz.prog 109 #[.slice ad n cap] w fun e w' => Got w w' e (XF A) (cF A) := by
  refine (fold29 A ad n cap w hn.symm (by omega) hl).mono fun e w' h => ?_
  unfold XF cF
  unfold FoldEnd at h
  cases hok : rightB A
  · rw [hok, if_neg (by simp)] at h
    exact no_got h.1 h.2
  · rw [hok, if_pos rfl] at h
    exact gather_got (by rw [List.all_append, rightB_okR hok, allFold_okR]; rfl) h
end
end Go.Proofs.YtenanfkmmkmolaaGreatDoor
/- HELPERS: what a reader does, as functions of the pattern's bytes. -/
namespace Go.Proofs.YtenanfkmmkmolaaGreatDoor
open Go.RowKit Go.Mx
set_option linter.unusedVariables false
set_option linter.unusedSimpArgs false
abbrev Rng := List (Int × Int)
def numGo (t : List Int) : Nat → Nat → Int → Int × Nat
  | 0, i, n => (n, i)
  | f + 1, i, n => if 48 ≤ nx t i ∧ nx t i ≤ 57 then numGo t f (i + 1) (n * 10 + (nx t i - 48)) else (n, i)
def number (t : List Int) (i : Nat) : Except Nat (Int × Nat) :=
  if nx t i = 48 then .ok (0, i + 1) else if 48 ≤ nx t i ∧ nx t i ≤ 57 then .ok (numGo t 3 (i + 1) (nx t i - 48)) else .error i
def hexGo (t : List Int) : Nat → Nat → Int → Except Nat (Int × Nat)
  | 0, i, c => .ok (c, i)
  | f + 1, i, c => if nx t i = 125 then .ok (c, i) else match hexDigit t i with
    | .error k => .error k
    | .ok (d, j) => hexGo t f j (c * 16 + d)
def hexNum (t : List Int) (i : Nat) : Except Nat (Int × Nat) :=
  if nx t i = 123 then match hexDigit t (i + 1) with
    | .error k => .error k
    | .ok (d, j) => match hexGo t 5 j d with
      | .error k => .error k
      | .ok (c, k) => if nx t k = 125 then .ok (c, k + 1) else .error k
  else match hexDigit t i with
    | .error k => .error k
    | .ok (a, j) => match hexDigit t j with
      | .error k => .error k
      | .ok (b, k) => .ok (a * 16 + b, k)
/-- how a rune begins: how many bytes are to come, and between which two the next one lies -/
def rb (x : Int) : Option (Nat × Int × Int) :=
  if 0 ≤ x ∧ x ≤ 127 then some (0, 0, 0) else if 194 ≤ x ∧ x ≤ 223 then some (1, 128, 191) else if 224 ≤ x ∧ x ≤ 224 then some (2, 160, 191)
  else if 237 ≤ x ∧ x ≤ 237 then some (2, 128, 159) else if 225 ≤ x ∧ x ≤ 239 then some (2, 128, 191) else if 240 ≤ x ∧ x ≤ 240 then some (3, 144, 191)
  else if 241 ≤ x ∧ x ≤ 243 then some (3, 128, 191) else if 244 ≤ x ∧ x ≤ 244 then some (3, 128, 143) else none
def cont (t : List Int) : Nat → Nat → Int → Int → Except Nat Nat
  | 0, i, _, _ => .ok i
  | m + 1, i, a, b => if a ≤ nx t i ∧ nx t i ≤ b then cont t m (i + 1) 128 191 else .error i
def runeBut (t : List Int) (s : ByteArray) (i : Nat) : Except Nat (Int × Nat) :=
  if oneOf s (nx t i) = true then .error i else match rb (nx t i) with
    | none => .error i
    | some (m, a, b) => match cont t m (i + 1) a b with
      | .error k => .error k
      | .ok k => .ok ((dec ((t.drop i).take (k - i))).1, k)
def notPlain : ByteArray := ⟨#[92, 46, 43, 42, 63, 40, 41, 124, 91, 93, 123, 125, 94, 36]⟩
def notOne : ByteArray := ⟨#[92, 91, 93, 94, 45]⟩
def runeOK (c : Int) : Bool := rightB [(c, c)]
/-- what stands behind a backslash for one rune: its number -/
def single (t : List Int) (i : Nat) : Except Nat (Int × Nat) :=
  if nx t i = 92 then
    if nx t (i + 1) = 120 then hexNum t (i + 2)
    else if nx t (i + 1) = 110 then .ok (10, i + 2) else if nx t (i + 1) = 116 then .ok (9, i + 2) else if nx t (i + 1) = 114 then .ok (13, i + 2)
    else if nx t (i + 1) = 102 then .ok (12, i + 2) else if nx t (i + 1) = 118 then .ok (11, i + 2) else if nx t (i + 1) = 97 then .ok (7, i + 2)
    else if wordB (nx t (i + 1)) = true ∧ ¬ nx t (i + 1) = 95 then .error (i + 1)
    else if 33 ≤ nx t (i + 1) ∧ nx t (i + 1) ≤ 126 then .ok (nx t (i + 1), i + 2) else .error (i + 1)
  else .error i
abbrev Wr := Option (Int × Int)
/-- a fault is kept, if it goes ahead of the one that is kept -/
def note (wr : Wr) (code at_ : Int) : Wr := match wr with
  | some (c, a) => if a < at_ ∨ a = at_ ∧ c ≤ code then wr else some (code, at_)
  | none => some (code, at_)
def noteIf (b : Bool) (wr : Wr) (code at_ : Int) : Wr := if b = true then note wr code at_ else wr
/-- single with its rune: 0 and false where there is none -/
def single2 (t : List Int) (i : Nat) (wr : Wr) : Except Nat ((Int × Bool) × Nat × Wr) := match single t i with
  | .error k => .error k
  | .ok (c, k) => if runeOK c = true then .ok ((c, true), k, wr) else .ok ((0, false), k, note wr 41 i)
def one (t : List Int) (i : Nat) (wr : Wr) : Except Nat ((Int × Bool) × Nat × Wr) :=
  if nx t i = 92 then single2 t i wr else match runeBut t notOne i with
    | .error k => .error k
    | .ok (c, k) => .ok ((c, true), k, wr)
def setL (x : Int) : Option Rng :=
  if x = 100 then some [(48, 57)] else if x = 115 then some [(9, 13), (32, 32)] else if x = 119 then some [(48, 57), (65, 90), (95, 95), (97, 122)]
  else if x = 68 then some (XG [(48, 57)]) else if x = 83 then some (XG [(9, 13), (32, 32)]) else if x = 87 then some (XG [(48, 57), (65, 90), (95, 95), (97, 122)]) else none
def about (fold : Bool) (L : Rng) : Rng := if fold = true then XF L else L
def itemEnd (fold right : Bool) (at_ : Nat) (lo hi : Int) (k : Nat) (wr : Wr) : Except Nat (Rng × Nat × Wr) :=
  if right = true then (if hi < lo then .ok ([], k, note wr 42 at_) else .ok (about fold (XN [(lo, hi)]), k, wr)) else .ok ([], k, wr)
/-- the set that stands here behind a backslash -/
def setAt (t : List Int) (i : Nat) : Option Rng := if nx t i = 92 then setL (t.getD (i + 1) 0) else none
def item (t : List Int) (fold : Bool) (i : Nat) (wr : Wr) : Except Nat (Rng × Nat × Wr) := match setAt t i with
  | some L => .ok (about fold L, i + 2, wr)
  | none => match one t i wr with
    | .error k => .error k
    | .ok ((lo, r1), j, wr1) => if nx t j = 45 then match one t (j + 1) wr1 with
        | .error k => .error k
        | .ok ((hi, r2), k, wr2) => itemEnd fold (r1 && r2) i lo hi k wr2
      else itemEnd fold r1 i lo lo j wr1
def items (t : List Int) (fold : Bool) : Nat → Rng → Nat → Wr → Except Nat (Rng × Nat × Wr)
  | 0, L, k, wr => .error k
  | f + 1, L, k, wr => if nx t k = 93 then .ok (L, k + 1, wr) else match item t fold k wr with
    | .error j => .error j
    | .ok (L2, j, wr2) => items t fold f (L ++ L2) j wr2
def classEnd (neg : Bool) (L : Rng) : Rng × Int := if cN L = 0 ∧ neg = true then (XG (XN L), cG (XN L)) else (XN L, cN L)
def classP (t : List Int) (fold : Bool) (i : Nat) (wr : Wr) : Except Nat (Rng × Nat × Wr) :=
  if nx t i = 91 then
    match item t fold (if nx t (i + 1) = 94 then i + 2 else i + 1) wr with
    | .error k => .error k
    | .ok (L1, k1, wr1) => match items t fold (t.length + 1) L1 k1 wr1 with
      | .error k => .error k
      | .ok (L, k, wr2) => .ok ((classEnd (decide (nx t (i + 1) = 94)) L).1, k, noteIf (decide (¬ (classEnd (decide (nx t (i + 1) = 94)) L).2 = 0)) wr2 3 i)
  else .error i
inductive Tree where
  | node (kind : Int) (ranges : Rng) (assert : Int) (subs : List Tree) (min max : Int) (lazy : Bool) (index : Int) (name : ByteArray)
abbrev Tree.cls (L : Rng) : Tree := .node 2 L 0 [] 0 0 false 0 ⟨#[]⟩
abbrev Tree.asr (a : Int) : Tree := .node 3 [] a [] 0 0 false 0 ⟨#[]⟩
abbrev Tree.empty : Tree := .node 1 [] 0 [] 0 0 false 0 ⟨#[]⟩
abbrev Tree.cat (l : List Tree) : Tree := .node 4 [] 0 l 0 0 false 0 ⟨#[]⟩
abbrev Tree.alt (l : List Tree) : Tree := .node 5 [] 0 l 0 0 false 0 ⟨#[]⟩
abbrev Tree.rep (lo hi : Int) (lz : Bool) (x : Tree) : Tree := .node 6 [] 0 [x] lo hi lz 0 ⟨#[]⟩
abbrev Tree.grp (k : Int) (nm : ByteArray) (x : Tree) : Tree := .node 7 [] 0 [x] 0 0 false k nm
def assertL (x : Int) : Int := if x = 65 then 1 else if x = 122 then 2 else if x = 98 then 16 else if x = 66 then 32 else 0
structure Lev where
  cats : List Tree
  reps : List Tree
  fold : Bool
  all : Bool
  index : Int
  name : ByteArray
structure St where
  pos : Nat
  low : List Lev
  top : Lev
  groups : Nat
  names : List ByteArray
  wr : Wr
def atomP (t : List Int) (fold all : Bool) (i : Nat) (wr : Wr) : Except Nat (Tree × Nat × Wr) :=
  if nx t i = 46 then .ok (.cls (XG (if all = true then [] else [(10, 10)])), i + 1, wr)
  else if nx t i = 94 then .ok (.asr 4, i + 1, wr) else if nx t i = 36 then .ok (.asr 8, i + 1, wr)
  else if nx t i = 91 then (match classP t fold i wr with | .error k => .error k | .ok (L, k, wr2) => .ok (.cls L, k, wr2))
  else if nx t i = 92 then
    if assertL (t.getD (i + 1) 0) = 0 then match setL (t.getD (i + 1) 0) with
      | some L => .ok (.cls L, i + 2, wr)
      | none => match single2 t i wr with | .error k => .error k | .ok ((c, _), k, wr2) => .ok (.cls (about fold [(c, c)]), k, wr2)
    else .ok (.asr (assertL (t.getD (i + 1) 0)), i + 2, wr)
  else match runeBut t notPlain i with | .error k => .error k | .ok (c, k) => .ok (.cls (about fold [(c, c)]), k, wr)
/-- a count between brackets -/
def numbers (t : List Int) (i : Nat) (wr : Wr) : Except Nat ((Int × Int) × Nat × Wr) :=
  if nx t i = 123 then match number t (i + 1) with
    | .error k => .error k
    | .ok (lo, j) =>
      if nx t j = 44 then
        if nx t (j + 1) = 125 then .ok ((lo, -1), j + 2, noteIf (decide (lo > 1000)) wr 43 i)
        else match number t (j + 1) with
          | .error k => .error k
          | .ok (hi, k) => if nx t k = 125 then .ok ((lo, hi), k + 1, noteIf (decide (lo > 1000 ∨ hi > 1000 ∨ hi < lo)) wr 43 i) else .error k
      else if nx t j = 125 then .ok ((lo, lo), j + 1, noteIf (decide (lo > 1000)) wr 43 i) else .error j
  else .error i
def lazyAt (t : List Int) (i : Nat) : Bool × Nat := if nx t i = 63 then (true, i + 1) else (false, i)
def counted (t : List Int) (x : Tree) (i : Nat) (wr : Wr) : Except Nat (Tree × Nat × Wr) :=
  if nx t i = 42 then .ok (.rep 0 (-1) (lazyAt t (i + 1)).1 x, (lazyAt t (i + 1)).2, wr)
  else if nx t i = 43 then .ok (.rep 1 (-1) (lazyAt t (i + 1)).1 x, (lazyAt t (i + 1)).2, wr)
  else if nx t i = 63 then .ok (.rep 0 1 (lazyAt t (i + 1)).1 x, (lazyAt t (i + 1)).2, wr)
  else if nx t i = 123 then match numbers t i wr with
    | .error k => .error k
    | .ok ((lo, hi), k, wr2) => .ok (.rep lo hi (lazyAt t k).1 x, (lazyAt t k).2, wr2)
  else .ok (x, i, wr)
def Lev.catOf (l : Lev) : Tree := match l.reps with | [] => .empty | [x] => x | r => .cat r
def Lev.endCat (l : Lev) : Lev := { l with cats := l.cats ++ [l.catOf], reps := [] }
def Lev.inner (l : Lev) : Tree := match l.cats ++ [l.catOf] with | [x] => x | r => .alt r
def Lev.tree (l : Lev) : Tree := if l.index = 0 then l.inner else .grp l.index l.name l.inner
def addRep (t : List Int) (x : Tree) (S : St) : Except Nat St := match counted t x S.pos S.wr with
  | .error k => .error k
  | .ok (y, k, wr2) => .ok { S with pos := k, wr := wr2, top := { S.top with reps := S.top.reps ++ [y] } }
def nameGo (t : List Int) : Nat → Nat → Nat
  | 0, i => i
  | f + 1, i => if wordB (nx t i) = true then nameGo t f (i + 1) else i
def bytesOf (l : List Int) : ByteArray := ⟨(l.map fun x => x.toNat.toUInt8).toArray⟩
/-- a name, from its < on: the name, and where it is over -/
def nameP (t : List Int) (i : Nat) : Except Nat (ByteArray × Nat) :=
  if nx t i = 60 then
    if (48 ≤ nx t (i + 1) ∧ nx t (i + 1) ≤ 57) ∨ wordB (nx t (i + 1)) = false then .error (i + 1)
    else if nx t (nameGo t 32 (i + 1)) = 62 then .ok (bytesOf ((t.drop (i + 1)).take (nameGo t 32 (i + 1) - (i + 1))), nameGo t 32 (i + 1) + 1) else .error (nameGo t 32 (i + 1))
  else .error i
def hasName (l : List ByteArray) (nm : ByteArray) : Bool := (l.map fun x => x.data.toList).contains nm.data.toList
def inner0 (S : St) : Lev := { cats := [], reps := [], fold := S.top.fold, all := S.top.all, index := 0, name := ⟨#[]⟩ }
/-- a group is opened at i, what begins it is over at k -/
def opened (S : St) (i k : Nat) (l : Lev) (wr : Wr) : St := { S with pos := k, low := S.low ++ [S.top], top := l, wr := noteIf (decide (S.low.length ≥ 200)) wr 45 i }
def capWr (S : St) (i : Nat) (wr : Wr) : Wr := noteIf (decide (S.groups + 1 > 500)) wr 46 i
def begins (t : List Int) (S : St) : Except Nat St :=
  if nx t (S.pos + 1) = 63 then
    if nx t (S.pos + 2) = 80 then match nameP t (S.pos + 3) with
      | .error k => .error k
      | .ok (nm, k) => .ok { opened S S.pos k { inner0 S with index := S.groups + 1, name := nm } (capWr S S.pos (noteIf (hasName S.names nm) S.wr 44 S.pos)) with groups := S.groups + 1, names := S.names ++ [nm] }
    else
      let i1 := if nx t (S.pos + 2) = 105 then S.pos + 3 else S.pos + 2
      let i2 := if nx t i1 = 115 then i1 + 1 else i1
      if nx t i2 = 58 then .ok (opened S S.pos (i2 + 1) { inner0 S with fold := decide (nx t (S.pos + 2) = 105) || S.top.fold, all := decide (nx t i1 = 115) || S.top.all } S.wr) else .error i2
  else .ok { opened S S.pos (S.pos + 1) { inner0 S with index := S.groups + 1 } (capWr S S.pos S.wr) with groups := S.groups + 1 }
def ends (t : List Int) (S : St) : Except Nat St := match S.low.getLast? with
  | none => .error S.pos
  | some l => addRep t S.top.tree { S with pos := S.pos + 1, low := S.low.dropLast, top := l }
/-- one round -/
def round (t : List Int) (S : St) : Except Nat St :=
  if nx t S.pos = 124 then .ok { S with pos := S.pos + 1, top := S.top.endCat }
  else if nx t S.pos = 40 then begins t S
  else if nx t S.pos = 41 then ends t S
  else match atomP t S.top.fold S.top.all S.pos S.wr with
    | .error k => .error k
    | .ok (x, k, wr2) => addRep t x { S with pos := k, wr := wr2 }
def rounds (t : List Int) : Nat → St → Except Nat St
  | 0, S => .ok S
  | f + 1, S => if S.pos = t.length then .ok S else match round t S with
    | .error k => .error k
    | .ok S2 => rounds t f S2
def S0 : St := { pos := 0, low := [], top := { cats := [], reps := [], fold := false, all := false, index := 0, name := ⟨#[]⟩ }, groups := 0, names := [], wr := none }
/-- all bytes: a tree and what is wrong with it, or where it is no pattern -/
def patternP (t : List Int) : Except Nat (Tree × Wr) := match rounds t (t.length + 1) S0 with
  | .error k => .error k
  | .ok S => if S.low.length = 0 then .ok (S.top.tree, S.wr) else .error S.pos
end Go.Proofs.YtenanfkmmkmolaaGreatDoor
/- HELPERS: numbers; how a rune begins; a rune. -/
namespace Go.Proofs.YtenanfkmmkmolaaGreatDoor
open Go.RowKit Go.Mx
set_option linter.unusedVariables false
set_option linter.unusedSimpArgs false
set_option maxHeartbeats 1000000 in
theorem number104_0 {g : Nat} {t : List Int} {i : Nat} {c : Cs} {w : World} (R : Hid (RdC w g t i c)) (h : nx t i = 48) :
    Calls Tryz.prog 104 #[.pointer (some ⟨g, 0, none⟩)] w fun e w' => e = .returned (.int .i64 0) ∧ Go1 w w' g (i + 1) := by
  have C1 := tookE R 48 (by decide) h
  go_enter Tryz.func104, Tryz.ntmps104
  go_wp2_with (go_at_call 60; with_reducible refine C1.mono ?_; rintro e w1 ⟨rfl, G1⟩)
  go_ret
  exact ⟨rfl, G1⟩
theorem numGo_bd (t : List Int) : ∀ (f i : Nat) (n : Int), i ≤ t.length → i ≤ (numGo t f i n).2 ∧ (numGo t f i n).2 ≤ t.length := by
  intro f
  induction f with
  | zero => intro i n h; simp [numGo, h]
  | succ f ih =>
    intro i n h
    unfold numGo
    split
    · have := nx_lt (t := t) (i := i) (by omega)
      have := ih (i + 1) (n * 10 + (nx t i - 48)) (by omega)
      omega
    · simp [h]
set_option maxHeartbeats 2000000 in
theorem number104_1 {g : Nat} {t : List Int} {i : Nat} {c : Cs} {w : World} (R : Hid (RdC w g t i c)) (h0 : ¬ nx t i = 48) (h : 48 ≤ nx t i ∧ nx t i ≤ 57) :
    Calls Tryz.prog 104 #[.pointer (some ⟨g, 0, none⟩)] w fun e w' => e = .returned (.int .i64 (numGo t 3 (i + 1) (nx t i - 48)).1) ∧ Go1 w w' g (numGo t 3 (i + 1) (nx t i - 48)).2 := by
  have C1 := tookN R 48 (by decide) h0
  have hle := R.out.le
  have hbd := R.out.bd
  have hi := nx_lt (t := t) (i := i) (by omega)
  generalize hz : numGo t 3 (i + 1) (nx t i - 48) = z
  go_enter Tryz.func104, Tryz.ntmps104
  go_wp2_with (go_at_call 60; with_reducible refine C1.mono ?_; rintro e w1 ⟨rfl, G1⟩; have R1 := rdOn R G1 hle; have c1 := Joins.cell_of_block R1.out.blk 1; simp at c1)
  go_loopw [4] (fun v wr => ∃ (k : Nat) (n : Int), v = .int .i64 n ∧ k ≤ t.length ∧ 0 ≤ n ∧ Hid (RdC wr g t k c) ∧ Hid (Go1 w wr g k) ∧ (k = i ∧ n = 0 ∨ i < k ∧ k ≤ i + 4 ∧ n < 10 ^ (k - i) ∧ Hid (numGo t (i + 4 - k) k n = z)))
    (fun _ wr => i + 5 - (match wr.cell? ⟨g, 1, none⟩ with | some (.int _ x) => x.toNat | _ => 0))
  case atStart => exact ⟨i, 0, rfl, hle, by omega, R1, G1, .inl ⟨rfl, rfl⟩⟩
  case round =>
    obtain ⟨k, n, rfl, hk, hn, RK, GK, hor⟩ := hrel
    have cK := Joins.cell_of_block RK.out.blk 1
    simp at cK
    clear c1 R1 G1
    rcases hor with ⟨rfl, rfl⟩ | ⟨hik, hk4, hnk, HZ⟩
    · have v1 := u8_in (nx t k - 48) (by omega) (by omega)
      have v2 := i64_small (nx t k - 48) (by omega) (by omega)
      have C2 := takeE RK 48 57 (by decide) h
      go_wp2_with (go_at_call 85; with_reducible refine C2.mono ?_; rintro e w2 ⟨rfl, G2⟩)
      have R2 := rdOn RK G2 (by omega)
      have d1 := Joins.cell_of_block R2.out.blk 1
      simp at d1
      go_roundw
      case rel =>
        refine ⟨k + 1, nx t k - 48, by simp [v1, v2], by omega, by omega, R2, GK.out.trans G2, .inr ⟨by omega, by omega, ?_, ?_⟩⟩
        · simp; omega
        · exact (by rw [show k + 4 - (k + 1) = 3 by omega]; exact hz : numGo t (k + 4 - (k + 1)) (k + 1) (nx t k - 48) = z)
      case measure => rw [cK, d1]; simp
    · have hb1 : ((k : Int) == (i : Int)) = false := by simp; omega
      have hp : (10 : Int) ^ (k - i) ≤ 10000 := by
        have : k - i = 1 ∨ k - i = 2 ∨ k - i = 3 ∨ k - i = 4 := by omega
        rcases this with e | e | e | e <;> rw [e] <;> decide
      by_cases hd : 48 ≤ nx t k ∧ nx t k ≤ 57
      · have C2 := seesE RK 48 57 true (by decide) (decide_eq_true hd)
        have hkl := nx_lt (t := t) (i := k) (by omega)
        have hw1 : IntKind.i64.wrap ((k : Int) - i) = k - i := i64_small _ (by omega) (by omega)
        by_cases h4 : k < i + 4
        · have hb2 : decide ((k : Int) - i < 4) = true := by simp; omega
          go_wp2_with (go_at_call 83; with_reducible refine C2.mono ?_; rintro e w2 ⟨rfl, G2⟩; have R2 := rdOn RK G2 hk; have d1 := Joins.cell_of_block R2.out.blk 1; simp at d1)
          have v1 := u8_in (nx t k - 48) (by omega) (by omega)
          have v2 := i64_small (nx t k - 48) (by omega) (by omega)
          have v3 := i64_small (n * 10) (by omega) (by omega)
          have v4 := i64_small (n * 10 + (nx t k - 48)) (by omega) (by omega)
          have C3 := takeE R2 48 57 (by decide) hd
          go_wp2_with (go_at_call 85; with_reducible refine C3.mono ?_; rintro e w3 ⟨rfl, G3⟩)
          have R3 := rdOn R2 G3 (by omega)
          have d3 := Joins.cell_of_block R3.out.blk 1
          simp at d3
          go_roundw
          case rel =>
            refine ⟨k + 1, n * 10 + (nx t k - 48), by simp [v1, v2, v3, v4], by omega, by omega, R3, (GK.out.trans G2).trans G3, .inr ⟨by omega, by omega, ?_, ?_⟩⟩
            · rw [show k + 1 - i = (k - i) + 1 by omega, Int.pow_succ]; omega
            · refine (?_ : numGo t (i + 4 - (k + 1)) (k + 1) (n * 10 + (nx t k - 48)) = z)
              have e := HZ.out
              rw [show i + 4 - k = (i + 4 - (k + 1)) + 1 by omega, numGo, if_pos hd] at e
              exact e
          case measure => rw [cK, d3]; simp; omega
        · have hb2 : decide ((k : Int) - i < 4) = false := by simp; omega
          have hz : z = (n, k) := by
            have e := HZ.out
            rw [show i + 4 - k = 0 by omega, numGo] at e
            exact e.symm
          go_wp2_with (go_at_call 83; with_reducible refine C2.mono ?_; rintro e w2 ⟨rfl, G2⟩; have R2 := rdOn RK G2 hk; have d1 := Joins.cell_of_block R2.out.blk 1; simp at d1)
          go_ret
          rw [hz]
          exact ⟨rfl, GK.out.trans G2⟩
      · have C2 := seesE RK 48 57 false (by decide) (decide_eq_false hd)
        have hz : z = (n, k) := by
          have e := HZ.out
          cases hf : i + 4 - k with
          | zero => rw [hf, numGo] at e; exact e.symm
          | succ f => rw [hf, numGo, if_neg hd] at e; exact e.symm
        go_wp2_with (go_at_call 83; with_reducible refine C2.mono ?_; rintro e w2 ⟨rfl, G2⟩)
        go_ret
        rw [hz]
        exact ⟨rfl, GK.out.trans G2⟩
set_option maxHeartbeats 1000000 in
theorem number104_2 {g : Nat} {t : List Int} {i : Nat} {c : Cs} {w : World} (R : Hid (RdC w g t i c)) (h : ¬ (48 ≤ nx t i ∧ nx t i ≤ 57)) :
    Calls Tryz.prog 104 #[.pointer (some ⟨g, 0, none⟩)] w fun e w' => e = Gave i ∧ Go1 w w' g i := by
  have C1 := tookN R 48 (by decide) (by omega)
  have hle := R.out.le
  go_enter Tryz.func104, Tryz.ntmps104
  go_wp2_with (go_at_call 60; with_reducible refine C1.mono ?_; rintro e w1 ⟨rfl, G1⟩; have R1 := rdOn R G1 hle; have c1 := Joins.cell_of_block R1.out.blk 1; simp at c1)
  refine wp_loop_rounds 1 ?_
  rw [rounds_succ]
  have C2 := takeN R1 48 57 (by decide) h
  go_wp2_with (go_at_call 85; with_reducible refine C2.mono ?_; rintro e w2 ⟨rfl, G2⟩)
  exact ⟨rfl, rfl, G1.trans G2⟩
theorem number104 {g : Nat} {t : List Int} {i : Nat} {c : Cs} {w : World} (R : Hid (RdC w g t i c)) : Calls Tryz.prog 104 #[.pointer (some ⟨g, 0, none⟩)] w fun e w' => EndS e w w' g (Value.int .i64) (number t i) := by
  unfold number
  by_cases h1 : nx t i = 48
  · rw [if_pos h1]; exact number104_0 R h1
  · rw [if_neg h1]
    by_cases h2 : 48 ≤ nx t i ∧ nx t i ≤ 57
    · rw [if_pos h2]; exact number104_1 R h1 h2
    · rw [if_neg h2]; exact number104_2 R h2
set_option maxHeartbeats 1000000 in
theorem runeBegins97_0 {g : Nat} {t : List Int} {i : Nat} {c : Cs} {w : World} (R : Hid (RdC w g t i c)) (h : 0 ≤ nx t i ∧ nx t i ≤ 127) : Calls Tryz.prog 97 #[.pointer (some ⟨g, 0, none⟩)] w fun e w' => e = .returned (.tuple #[.int .i64 0, .int .u8 0, .int .u8 0]) ∧ Go1 w w' g i := by
  have hle := R.out.le
  go_enter Tryz.func97, Tryz.ntmps97
  have C0 := seesE R 0 127 true (by decide) (decide_eq_true h)
  go_wp2_with (go_at_call 83; with_reducible refine C0.mono ?_; rintro e w0 ⟨rfl, G0⟩)
  have R0 := rdOn R G0 hle
  go_ret3
  exact ⟨rfl, G0⟩
set_option maxHeartbeats 1000000 in
theorem runeBegins97_1 {g : Nat} {t : List Int} {i : Nat} {c : Cs} {w : World} (R : Hid (RdC w g t i c)) (n0 : ¬ (0 ≤ nx t i ∧ nx t i ≤ 127)) (h : 194 ≤ nx t i ∧ nx t i ≤ 223) : Calls Tryz.prog 97 #[.pointer (some ⟨g, 0, none⟩)] w fun e w' => e = .returned (.tuple #[.int .i64 1, .int .u8 128, .int .u8 191]) ∧ Go1 w w' g i := by
  have hle := R.out.le
  go_enter Tryz.func97, Tryz.ntmps97
  have C0 := seesE R 0 127 false (by decide) (decide_eq_false n0)
  go_wp2_with (go_at_call 83; with_reducible refine C0.mono ?_; rintro e w0 ⟨rfl, G0⟩)
  have R0 := rdOn R G0 hle
  have C1 := seesE R0 194 223 true (by decide) (decide_eq_true h)
  go_wp2_with (go_at_call 83; with_reducible refine C1.mono ?_; rintro e w1 ⟨rfl, G1⟩)
  have R1 := rdOn R0 G1 hle
  go_ret3
  exact ⟨rfl, (G0).trans G1⟩
set_option maxHeartbeats 1000000 in
theorem runeBegins97_2 {g : Nat} {t : List Int} {i : Nat} {c : Cs} {w : World} (R : Hid (RdC w g t i c)) (n0 : ¬ (0 ≤ nx t i ∧ nx t i ≤ 127)) (n1 : ¬ (194 ≤ nx t i ∧ nx t i ≤ 223)) (h : 224 ≤ nx t i ∧ nx t i ≤ 224) : Calls Tryz.prog 97 #[.pointer (some ⟨g, 0, none⟩)] w fun e w' => e = .returned (.tuple #[.int .i64 2, .int .u8 160, .int .u8 191]) ∧ Go1 w w' g i := by
  have hle := R.out.le
  go_enter Tryz.func97, Tryz.ntmps97
  have C0 := seesE R 0 127 false (by decide) (decide_eq_false n0)
  go_wp2_with (go_at_call 83; with_reducible refine C0.mono ?_; rintro e w0 ⟨rfl, G0⟩)
  have R0 := rdOn R G0 hle
  have C1 := seesE R0 194 223 false (by decide) (decide_eq_false n1)
  go_wp2_with (go_at_call 83; with_reducible refine C1.mono ?_; rintro e w1 ⟨rfl, G1⟩)
  have R1 := rdOn R0 G1 hle
  have C2 := seesE R1 224 224 true (by decide) (decide_eq_true h)
  go_wp2_with (go_at_call 83; with_reducible refine C2.mono ?_; rintro e w2 ⟨rfl, G2⟩)
  have R2 := rdOn R1 G2 hle
  go_ret3
  exact ⟨rfl, ((G0).trans G1).trans G2⟩
set_option maxHeartbeats 1000000 in
theorem runeBegins97_3 {g : Nat} {t : List Int} {i : Nat} {c : Cs} {w : World} (R : Hid (RdC w g t i c)) (n0 : ¬ (0 ≤ nx t i ∧ nx t i ≤ 127)) (n1 : ¬ (194 ≤ nx t i ∧ nx t i ≤ 223)) (n2 : ¬ (224 ≤ nx t i ∧ nx t i ≤ 224)) (h : 237 ≤ nx t i ∧ nx t i ≤ 237) : Calls Tryz.prog 97 #[.pointer (some ⟨g, 0, none⟩)] w fun e w' => e = .returned (.tuple #[.int .i64 2, .int .u8 128, .int .u8 159]) ∧ Go1 w w' g i := by
  have hle := R.out.le
  go_enter Tryz.func97, Tryz.ntmps97
  have C0 := seesE R 0 127 false (by decide) (decide_eq_false n0)
  go_wp2_with (go_at_call 83; with_reducible refine C0.mono ?_; rintro e w0 ⟨rfl, G0⟩)
  have R0 := rdOn R G0 hle
  have C1 := seesE R0 194 223 false (by decide) (decide_eq_false n1)
  go_wp2_with (go_at_call 83; with_reducible refine C1.mono ?_; rintro e w1 ⟨rfl, G1⟩)
  have R1 := rdOn R0 G1 hle
  have C2 := seesE R1 224 224 false (by decide) (decide_eq_false n2)
  go_wp2_with (go_at_call 83; with_reducible refine C2.mono ?_; rintro e w2 ⟨rfl, G2⟩)
  have R2 := rdOn R1 G2 hle
  have C3 := seesE R2 237 237 true (by decide) (decide_eq_true h)
  go_wp2_with (go_at_call 83; with_reducible refine C3.mono ?_; rintro e w3 ⟨rfl, G3⟩)
  have R3 := rdOn R2 G3 hle
  go_ret3
  exact ⟨rfl, (((G0).trans G1).trans G2).trans G3⟩
set_option maxHeartbeats 1000000 in
theorem runeBegins97_4 {g : Nat} {t : List Int} {i : Nat} {c : Cs} {w : World} (R : Hid (RdC w g t i c)) (n0 : ¬ (0 ≤ nx t i ∧ nx t i ≤ 127)) (n1 : ¬ (194 ≤ nx t i ∧ nx t i ≤ 223)) (n2 : ¬ (224 ≤ nx t i ∧ nx t i ≤ 224)) (n3 : ¬ (237 ≤ nx t i ∧ nx t i ≤ 237)) (h : 225 ≤ nx t i ∧ nx t i ≤ 239) : Calls Tryz.prog 97 #[.pointer (some ⟨g, 0, none⟩)] w fun e w' => e = .returned (.tuple #[.int .i64 2, .int .u8 128, .int .u8 191]) ∧ Go1 w w' g i := by
  have hle := R.out.le
  go_enter Tryz.func97, Tryz.ntmps97
  have C0 := seesE R 0 127 false (by decide) (decide_eq_false n0)
  go_wp2_with (go_at_call 83; with_reducible refine C0.mono ?_; rintro e w0 ⟨rfl, G0⟩)
  have R0 := rdOn R G0 hle
  have C1 := seesE R0 194 223 false (by decide) (decide_eq_false n1)
  go_wp2_with (go_at_call 83; with_reducible refine C1.mono ?_; rintro e w1 ⟨rfl, G1⟩)
  have R1 := rdOn R0 G1 hle
  have C2 := seesE R1 224 224 false (by decide) (decide_eq_false n2)
  go_wp2_with (go_at_call 83; with_reducible refine C2.mono ?_; rintro e w2 ⟨rfl, G2⟩)
  have R2 := rdOn R1 G2 hle
  have C3 := seesE R2 237 237 false (by decide) (decide_eq_false n3)
  go_wp2_with (go_at_call 83; with_reducible refine C3.mono ?_; rintro e w3 ⟨rfl, G3⟩)
  have R3 := rdOn R2 G3 hle
  have C4 := seesE R3 225 239 true (by decide) (decide_eq_true h)
  go_wp2_with (go_at_call 83; with_reducible refine C4.mono ?_; rintro e w4 ⟨rfl, G4⟩)
  have R4 := rdOn R3 G4 hle
  go_ret3
  exact ⟨rfl, ((((G0).trans G1).trans G2).trans G3).trans G4⟩
set_option maxHeartbeats 1000000 in
theorem runeBegins97_5 {g : Nat} {t : List Int} {i : Nat} {c : Cs} {w : World} (R : Hid (RdC w g t i c)) (n0 : ¬ (0 ≤ nx t i ∧ nx t i ≤ 127)) (n1 : ¬ (194 ≤ nx t i ∧ nx t i ≤ 223)) (n2 : ¬ (224 ≤ nx t i ∧ nx t i ≤ 224)) (n3 : ¬ (237 ≤ nx t i ∧ nx t i ≤ 237)) (n4 : ¬ (225 ≤ nx t i ∧ nx t i ≤ 239)) (h : 240 ≤ nx t i ∧ nx t i ≤ 240) : Calls Tryz.prog 97 #[.pointer (some ⟨g, 0, none⟩)] w fun e w' => e = .returned (.tuple #[.int .i64 3, .int .u8 144, .int .u8 191]) ∧ Go1 w w' g i := by
  have hle := R.out.le
  go_enter Tryz.func97, Tryz.ntmps97
  have C0 := seesE R 0 127 false (by decide) (decide_eq_false n0)
  go_wp2_with (go_at_call 83; with_reducible refine C0.mono ?_; rintro e w0 ⟨rfl, G0⟩)
  have R0 := rdOn R G0 hle
  have C1 := seesE R0 194 223 false (by decide) (decide_eq_false n1)
  go_wp2_with (go_at_call 83; with_reducible refine C1.mono ?_; rintro e w1 ⟨rfl, G1⟩)
  have R1 := rdOn R0 G1 hle
  have C2 := seesE R1 224 224 false (by decide) (decide_eq_false n2)
  go_wp2_with (go_at_call 83; with_reducible refine C2.mono ?_; rintro e w2 ⟨rfl, G2⟩)
  have R2 := rdOn R1 G2 hle
  have C3 := seesE R2 237 237 false (by decide) (decide_eq_false n3)
  go_wp2_with (go_at_call 83; with_reducible refine C3.mono ?_; rintro e w3 ⟨rfl, G3⟩)
  have R3 := rdOn R2 G3 hle
  have C4 := seesE R3 225 239 false (by decide) (decide_eq_false n4)
  go_wp2_with (go_at_call 83; with_reducible refine C4.mono ?_; rintro e w4 ⟨rfl, G4⟩)
  have R4 := rdOn R3 G4 hle
  have C5 := seesE R4 240 240 true (by decide) (decide_eq_true h)
  go_wp2_with (go_at_call 83; with_reducible refine C5.mono ?_; rintro e w5 ⟨rfl, G5⟩)
  have R5 := rdOn R4 G5 hle
  go_ret3
  exact ⟨rfl, (((((G0).trans G1).trans G2).trans G3).trans G4).trans G5⟩
set_option maxHeartbeats 1000000 in
theorem runeBegins97_6 {g : Nat} {t : List Int} {i : Nat} {c : Cs} {w : World} (R : Hid (RdC w g t i c)) (n0 : ¬ (0 ≤ nx t i ∧ nx t i ≤ 127)) (n1 : ¬ (194 ≤ nx t i ∧ nx t i ≤ 223)) (n2 : ¬ (224 ≤ nx t i ∧ nx t i ≤ 224)) (n3 : ¬ (237 ≤ nx t i ∧ nx t i ≤ 237)) (n4 : ¬ (225 ≤ nx t i ∧ nx t i ≤ 239)) (n5 : ¬ (240 ≤ nx t i ∧ nx t i ≤ 240)) (h : 241 ≤ nx t i ∧ nx t i ≤ 243) : Calls Tryz.prog 97 #[.pointer (some ⟨g, 0, none⟩)] w fun e w' => e = .returned (.tuple #[.int .i64 3, .int .u8 128, .int .u8 191]) ∧ Go1 w w' g i := by
  have hle := R.out.le
  go_enter Tryz.func97, Tryz.ntmps97
  have C0 := seesE R 0 127 false (by decide) (decide_eq_false n0)
  go_wp2_with (go_at_call 83; with_reducible refine C0.mono ?_; rintro e w0 ⟨rfl, G0⟩)
  have R0 := rdOn R G0 hle
  have C1 := seesE R0 194 223 false (by decide) (decide_eq_false n1)
  go_wp2_with (go_at_call 83; with_reducible refine C1.mono ?_; rintro e w1 ⟨rfl, G1⟩)
  have R1 := rdOn R0 G1 hle
  have C2 := seesE R1 224 224 false (by decide) (decide_eq_false n2)
  go_wp2_with (go_at_call 83; with_reducible refine C2.mono ?_; rintro e w2 ⟨rfl, G2⟩)
  have R2 := rdOn R1 G2 hle
  have C3 := seesE R2 237 237 false (by decide) (decide_eq_false n3)
  go_wp2_with (go_at_call 83; with_reducible refine C3.mono ?_; rintro e w3 ⟨rfl, G3⟩)
  have R3 := rdOn R2 G3 hle
  have C4 := seesE R3 225 239 false (by decide) (decide_eq_false n4)
  go_wp2_with (go_at_call 83; with_reducible refine C4.mono ?_; rintro e w4 ⟨rfl, G4⟩)
  have R4 := rdOn R3 G4 hle
  have C5 := seesE R4 240 240 false (by decide) (decide_eq_false n5)
  go_wp2_with (go_at_call 83; with_reducible refine C5.mono ?_; rintro e w5 ⟨rfl, G5⟩)
  have R5 := rdOn R4 G5 hle
  have C6 := seesE R5 241 243 true (by decide) (decide_eq_true h)
  go_wp2_with (go_at_call 83; with_reducible refine C6.mono ?_; rintro e w6 ⟨rfl, G6⟩)
  have R6 := rdOn R5 G6 hle
  go_ret3
  exact ⟨rfl, ((((((G0).trans G1).trans G2).trans G3).trans G4).trans G5).trans G6⟩
set_option maxHeartbeats 1000000 in
theorem runeBegins97_7 {g : Nat} {t : List Int} {i : Nat} {c : Cs} {w : World} (R : Hid (RdC w g t i c)) (n0 : ¬ (0 ≤ nx t i ∧ nx t i ≤ 127)) (n1 : ¬ (194 ≤ nx t i ∧ nx t i ≤ 223)) (n2 : ¬ (224 ≤ nx t i ∧ nx t i ≤ 224)) (n3 : ¬ (237 ≤ nx t i ∧ nx t i ≤ 237)) (n4 : ¬ (225 ≤ nx t i ∧ nx t i ≤ 239)) (n5 : ¬ (240 ≤ nx t i ∧ nx t i ≤ 240)) (n6 : ¬ (241 ≤ nx t i ∧ nx t i ≤ 243)) (h : 244 ≤ nx t i ∧ nx t i ≤ 244) : Calls Tryz.prog 97 #[.pointer (some ⟨g, 0, none⟩)] w fun e w' => e = .returned (.tuple #[.int .i64 3, .int .u8 128, .int .u8 143]) ∧ Go1 w w' g i := by
  have hle := R.out.le
  go_enter Tryz.func97, Tryz.ntmps97
  have C0 := seesE R 0 127 false (by decide) (decide_eq_false n0)
  go_wp2_with (go_at_call 83; with_reducible refine C0.mono ?_; rintro e w0 ⟨rfl, G0⟩)
  have R0 := rdOn R G0 hle
  have C1 := seesE R0 194 223 false (by decide) (decide_eq_false n1)
  go_wp2_with (go_at_call 83; with_reducible refine C1.mono ?_; rintro e w1 ⟨rfl, G1⟩)
  have R1 := rdOn R0 G1 hle
  have C2 := seesE R1 224 224 false (by decide) (decide_eq_false n2)
  go_wp2_with (go_at_call 83; with_reducible refine C2.mono ?_; rintro e w2 ⟨rfl, G2⟩)
  have R2 := rdOn R1 G2 hle
  have C3 := seesE R2 237 237 false (by decide) (decide_eq_false n3)
  go_wp2_with (go_at_call 83; with_reducible refine C3.mono ?_; rintro e w3 ⟨rfl, G3⟩)
  have R3 := rdOn R2 G3 hle
  have C4 := seesE R3 225 239 false (by decide) (decide_eq_false n4)
  go_wp2_with (go_at_call 83; with_reducible refine C4.mono ?_; rintro e w4 ⟨rfl, G4⟩)
  have R4 := rdOn R3 G4 hle
  have C5 := seesE R4 240 240 false (by decide) (decide_eq_false n5)
  go_wp2_with (go_at_call 83; with_reducible refine C5.mono ?_; rintro e w5 ⟨rfl, G5⟩)
  have R5 := rdOn R4 G5 hle
  have C6 := seesE R5 241 243 false (by decide) (decide_eq_false n6)
  go_wp2_with (go_at_call 83; with_reducible refine C6.mono ?_; rintro e w6 ⟨rfl, G6⟩)
  have R6 := rdOn R5 G6 hle
  have C7 := seesE R6 244 244 true (by decide) (decide_eq_true h)
  go_wp2_with (go_at_call 83; with_reducible refine C7.mono ?_; rintro e w7 ⟨rfl, G7⟩)
  have R7 := rdOn R6 G7 hle
  go_ret3
  exact ⟨rfl, (((((((G0).trans G1).trans G2).trans G3).trans G4).trans G5).trans G6).trans G7⟩
set_option maxHeartbeats 1000000 in
theorem runeBegins97_8 {g : Nat} {t : List Int} {i : Nat} {c : Cs} {w : World} (R : Hid (RdC w g t i c)) (n0 : ¬ (0 ≤ nx t i ∧ nx t i ≤ 127)) (n1 : ¬ (194 ≤ nx t i ∧ nx t i ≤ 223)) (n2 : ¬ (224 ≤ nx t i ∧ nx t i ≤ 224)) (n3 : ¬ (237 ≤ nx t i ∧ nx t i ≤ 237)) (n4 : ¬ (225 ≤ nx t i ∧ nx t i ≤ 239)) (n5 : ¬ (240 ≤ nx t i ∧ nx t i ≤ 240)) (n6 : ¬ (241 ≤ nx t i ∧ nx t i ≤ 243)) (n7 : ¬ (244 ≤ nx t i ∧ nx t i ≤ 244)) : Calls Tryz.prog 97 #[.pointer (some ⟨g, 0, none⟩)] w fun e w' => e = Gave i ∧ Go1 w w' g i := by
  have hle := R.out.le
  go_enter Tryz.func97, Tryz.ntmps97
  have C0 := seesE R 0 127 false (by decide) (decide_eq_false n0)
  go_wp2_with (go_at_call 83; with_reducible refine C0.mono ?_; rintro e w0 ⟨rfl, G0⟩)
  have R0 := rdOn R G0 hle
  have C1 := seesE R0 194 223 false (by decide) (decide_eq_false n1)
  go_wp2_with (go_at_call 83; with_reducible refine C1.mono ?_; rintro e w1 ⟨rfl, G1⟩)
  have R1 := rdOn R0 G1 hle
  have C2 := seesE R1 224 224 false (by decide) (decide_eq_false n2)
  go_wp2_with (go_at_call 83; with_reducible refine C2.mono ?_; rintro e w2 ⟨rfl, G2⟩)
  have R2 := rdOn R1 G2 hle
  have C3 := seesE R2 237 237 false (by decide) (decide_eq_false n3)
  go_wp2_with (go_at_call 83; with_reducible refine C3.mono ?_; rintro e w3 ⟨rfl, G3⟩)
  have R3 := rdOn R2 G3 hle
  have C4 := seesE R3 225 239 false (by decide) (decide_eq_false n4)
  go_wp2_with (go_at_call 83; with_reducible refine C4.mono ?_; rintro e w4 ⟨rfl, G4⟩)
  have R4 := rdOn R3 G4 hle
  have C5 := seesE R4 240 240 false (by decide) (decide_eq_false n5)
  go_wp2_with (go_at_call 83; with_reducible refine C5.mono ?_; rintro e w5 ⟨rfl, G5⟩)
  have R5 := rdOn R4 G5 hle
  have C6 := seesE R5 241 243 false (by decide) (decide_eq_false n6)
  go_wp2_with (go_at_call 83; with_reducible refine C6.mono ?_; rintro e w6 ⟨rfl, G6⟩)
  have R6 := rdOn R5 G6 hle
  have C7 := seesE R6 244 244 false (by decide) (decide_eq_false n7)
  go_wp2_with (go_at_call 83; with_reducible refine C7.mono ?_; rintro e w7 ⟨rfl, G7⟩)
  have R7 := rdOn R6 G7 hle
  have CX := giveE R7
  go_wp2_with (go_at_call 47; with_reducible refine CX.mono ?_; rintro e wx ⟨rfl, GX⟩)
  exact ⟨rfl, rfl, ((((((((G0).trans G1).trans G2).trans G3).trans G4).trans G5).trans G6).trans G7).trans GX⟩
def rbV (r : Option (Nat × Int × Int)) (i : Nat) : Except Nat ((Nat × Int × Int) × Nat) := match r with | some x => .ok (x, i) | none => .error i
theorem runeBegins97 {g : Nat} {t : List Int} {i : Nat} {c : Cs} {w : World} (R : Hid (RdC w g t i c)) : Calls Tryz.prog 97 #[.pointer (some ⟨g, 0, none⟩)] w fun e w' => EndS e w w' g (fun x : Nat × Int × Int => .tuple #[.int .i64 (x.1 : Int), .int .u8 x.2.1, .int .u8 x.2.2]) (rbV (rb (nx t i)) i) := by
  unfold rb
  by_cases h0 : 0 ≤ nx t i ∧ nx t i ≤ 127
  · rw [if_pos h0]; exact runeBegins97_0 R h0
  · rw [if_neg h0]
    by_cases h1 : 194 ≤ nx t i ∧ nx t i ≤ 223
    · rw [if_pos h1]; exact runeBegins97_1 R h0 h1
    · rw [if_neg h1]
      by_cases h2 : 224 ≤ nx t i ∧ nx t i ≤ 224
      · rw [if_pos h2]; exact runeBegins97_2 R h0 h1 h2
      · rw [if_neg h2]
        by_cases h3 : 237 ≤ nx t i ∧ nx t i ≤ 237
        · rw [if_pos h3]; exact runeBegins97_3 R h0 h1 h2 h3
        · rw [if_neg h3]
          by_cases h4 : 225 ≤ nx t i ∧ nx t i ≤ 239
          · rw [if_pos h4]; exact runeBegins97_4 R h0 h1 h2 h3 h4
          · rw [if_neg h4]
            by_cases h5 : 240 ≤ nx t i ∧ nx t i ≤ 240
            · rw [if_pos h5]; exact runeBegins97_5 R h0 h1 h2 h3 h4 h5
            · rw [if_neg h5]
              by_cases h6 : 241 ≤ nx t i ∧ nx t i ≤ 243
              · rw [if_pos h6]; exact runeBegins97_6 R h0 h1 h2 h3 h4 h5 h6
              · rw [if_neg h6]
                by_cases h7 : 244 ≤ nx t i ∧ nx t i ≤ 244
                · rw [if_pos h7]; exact runeBegins97_7 R h0 h1 h2 h3 h4 h5 h6 h7
                · rw [if_neg h7]
                  exact runeBegins97_8 R h0 h1 h2 h3 h4 h5 h6 h7
end Go.Proofs.YtenanfkmmkmolaaGreatDoor
/- HELPERS: a rune is taken. -/
namespace Go.Proofs.YtenanfkmmkmolaaGreatDoor
open Go.RowKit Go.Mx
set_option linter.unusedVariables false
set_option linter.unusedSimpArgs false
theorem cont_bd (t : List Int) : ∀ (m i : Nat) (a b : Int) (k : Nat), 0 ≤ a → i ≤ t.length → cont t m i a b = .ok k → k = i + m ∧ k ≤ t.length := by
  intro m
  induction m with
  | zero => intro i a b k _ h e; simp [cont] at e; omega
  | succ m ih =>
    intro i a b k h0 h e
    unfold cont at e
    split at e
    · have := nx_lt (t := t) (i := i) (by omega)
      have := ih (i + 1) 128 191 k (by decide) (by omega) e
      omega
    · cases e
theorem sub_getD (t : List Int) (i m k : Nat) (hk : k < m) : ((t.drop i).take m).getD k 0 = t.getD (i + k) 0 := by
  simp [List.getD, List.getElem?_take, hk, List.getElem?_drop]
theorem byte_sub (t : List Int) (h : ∀ x ∈ t, 0 ≤ x ∧ x < 256) (i m k : Nat) : 0 ≤ ((t.drop i).take m).getD k 0 ∧ ((t.drop i).take m).getD k 0 < 256 := by
  have hl : ∀ x ∈ (t.drop i).take m, 0 ≤ x ∧ x < 256 := fun x hx => h x (List.mem_of_mem_drop (List.mem_of_mem_take hx))
  generalize (t.drop i).take m = l at hl
  by_cases hk : k < l.length
  · rw [show l.getD k 0 = l[k] by simp [List.getD, hk]]
    exact hl _ (List.getElem_mem hk)
  · rw [show l.getD k 0 = 0 by simp [List.getD, List.getElem?_eq_none (Nat.le_of_not_lt hk)]]
    decide
set_option maxHeartbeats 1000000 in
theorem runeBut70_no {g : Nat} {t : List Int} {i : Nat} {c : Cs} {w : World} (s : ByteArray) (R : Hid (RdC w g t i c)) (h : oneOf s (nx t i) = true) :
    Calls Tryz.prog 70 #[.pointer (some ⟨g, 0, none⟩), .string s] w fun e w' => e = Gave i ∧ Go1 w w' g i := by
  have C1 := oneOfE R s true h
  have hle := R.out.le
  go_enter Tryz.func70, Tryz.ntmps70
  go_wp2_with (go_at_call 96; with_reducible refine C1.mono ?_; rintro e w1 ⟨rfl, G1⟩)
  have R1 := rdOn R G1 hle
  have C2 := giveE R1
  go_wp2_with (go_at_call 47; with_reducible refine C2.mono ?_; rintro e w2 ⟨rfl, G2⟩)
  exact ⟨rfl, rfl, G1.trans G2⟩
set_option maxHeartbeats 1000000 in
theorem runeBut70_none {g : Nat} {t : List Int} {i : Nat} {c : Cs} {w : World} (s : ByteArray) (R : Hid (RdC w g t i c)) (h : oneOf s (nx t i) = false) (hr : rb (nx t i) = none) :
    Calls Tryz.prog 70 #[.pointer (some ⟨g, 0, none⟩), .string s] w fun e w' => e = Gave i ∧ Go1 w w' g i := by
  have C1 := oneOfE R s false h
  have hle := R.out.le
  go_enter Tryz.func70, Tryz.ntmps70
  go_wp2_with (go_at_call 96; with_reducible refine C1.mono ?_; rintro e w1 ⟨rfl, G1⟩; have R1 := rdOn R G1 hle; have c1 := Joins.cell_of_block R1.out.blk 1; simp at c1)
  have C2 : Calls Tryz.prog 97 #[.pointer (some ⟨g, 0, none⟩)] w1 fun e w' => e = Gave i ∧ Go1 w1 w' g i := by
    have := runeBegins97 R1
    rw [hr] at this
    exact this
  go_wp2_with (go_at_call 97; with_reducible refine C2.mono ?_; rintro e w2 ⟨rfl, G2⟩)
  exact ⟨rfl, rfl, G1.trans G2⟩
set_option maxHeartbeats 2000000 in
theorem runeBut70_some {g : Nat} {t : List Int} {i : Nat} {c : Cs} {w : World} (s : ByteArray) (R : Hid (RdC w g t i c)) (hT : Hid (Tabs w)) (hg : 3 ≤ g) (h : oneOf s (nx t i) = false) (m : Nat) (a b : Int) (hr : rb (nx t i) = some (m, a, b)) (hm : m ≤ 3) (ha : 0 ≤ a) (hi : i < t.length) :
    Calls Tryz.prog 70 #[.pointer (some ⟨g, 0, none⟩), .string s] w fun e w' => match cont t m (i + 1) a b with | .error k => e = Gave k ∧ Go1 w w' g k | .ok k => e = .returned (.int .i64 (dec ((t.drop i).take (k - i))).1) ∧ Go1 w w' g k := by
  have C1 := oneOfE R s false h
  have hle := R.out.le
  have hbd := R.out.bd
  generalize hz : cont t m (i + 1) a b = z
  go_enter Tryz.func70, Tryz.ntmps70
  go_wp2_with (go_at_call 96; with_reducible refine C1.mono ?_; rintro e w1 ⟨rfl, G1⟩; have R1 := rdOn R G1 hle; have c1 := Joins.cell_of_block R1.out.blk 1; simp at c1)
  have C2 : Calls Tryz.prog 97 #[.pointer (some ⟨g, 0, none⟩)] w1 fun e w' => e = .returned (.tuple #[.int .i64 (m : Int), .int .u8 a, .int .u8 b]) ∧ Go1 w1 w' g i := by
    have := runeBegins97 R1
    rw [hr] at this
    exact this
  go_wp2_with (go_at_call 97; with_reducible refine C2.mono ?_; rintro e w2 ⟨rfl, G2⟩; have R2 := rdOn R1 G2 hle; have d1 := Joins.cell_of_block R2.out.blk 1; have e1 := Joins.unfrozen_of_block R2.out.blk 1; simp at d1)
  have G3 : Go1 w2 (mv1 w2 g (i + 1)) g (i + 1) := ⟨0, rfl⟩
  have R3 := rdOn R2 G3 (by omega)
  have HG3 : Hid (Go1 w (mv1 w2 g (i + 1)) g (i + 1)) := (G1.trans G2).trans G3
  go_loopw [7, 8, 34] (fun x y v wr => ∃ (j : Nat) (p q : Int), x = .int .u8 p ∧ y = .int .u8 q ∧ v = .int .i64 (j : Int) ∧ 0 ≤ p ∧ j ≤ m ∧ i + 1 + j ≤ t.length ∧ Hid (RdC wr g t (i + 1 + j) c) ∧ Hid (Go1 w wr g (i + 1 + j)) ∧ Hid (cont t (m - j) (i + 1 + j) p q = z))
    (fun _ _ v _ => m - (intOf v).toNat)
  case atStart => exact ⟨0, a, b, rfl, rfl, rfl, ha, by omega, by omega, R3, HG3, hz⟩
  case round =>
    obtain ⟨j, p, q, rfl, rfl, rfl, hp, hj, hjt, RK, GK, HZ⟩ := hrel
    have hz' := HZ.out
    by_cases hjm : j < m
    · rw [show m - j = (m - (j + 1)) + 1 by omega, cont] at hz'
      by_cases hx : p ≤ nx t (i + 1 + j) ∧ nx t (i + 1 + j) ≤ q
      · have hlt := nx_lt (t := t) (i := i + 1 + j) (by omega)
        rw [if_pos hx] at hz'
        have HZ2 : Hid (cont t (m - (j + 1)) (i + 1 + j + 1) 128 191 = z) := hz'
        clear hz' HZ
        have C4 := takeE RK p q hp hx
        go_wp2_with (go_at_call 85; with_reducible refine C4.mono ?_; rintro e w4 ⟨rfl, G4⟩)
        have R4 := rdOn RK G4 (by omega)
        go_roundw
        case rel => exact ⟨j + 1, 128, 191, rfl, rfl, by go_num, by decide, by omega, by omega, R4, GK.out.trans G4, HZ2⟩
        case measure => simp [intOf]; omega
      · rw [if_neg hx] at hz'
        subst hz'
        have C4 := takeN RK p q hp hx
        go_wp2_with (go_at_call 85; with_reducible refine C4.mono ?_; rintro e w4 ⟨rfl, G4⟩)
        exact ⟨rfl, rfl, GK.out.trans G4⟩
    · obtain rfl : j = m := by omega
      rw [show j - j = 0 by omega, cont] at hz'
      subst hz'
      clear HZ
      obtain ⟨ad, cap, htv, h2, h3, h4⟩ := RK.out.txt
      obtain ⟨tb, rfl, e2, e3⟩ := h4 i hi
      have k0 := Joins.cell_of_block RK.out.blk 0
      have k1 := Joins.cell_of_block RK.out.blk 1
      simp [htv] at k0 k1
      have hB : Bytes wr tb i ((t.drop i).take (i + 1 + j - i)) := by
        intro k hk
        simp at hk
        obtain ⟨b', e', _, e4⟩ := h4 (i + k) (by omega)
        obtain rfl : tb = b' := by injection e' with e'; injection e'
        rw [e4, sub_getD _ _ _ _ (by omega)]
      have hL : ByteL ((t.drop i).take (i + 1 + j - i)) := by
        intro x
        exact byte_sub _ R.out.byt _ _ _
      have hTr : Tabs wr := by
        obtain ⟨q', rfl⟩ := GK.out
        refine ⟨fun k hk => ?_, fun k hk => ?_⟩
        · rw [← hT.out.1 k hk]; exact World.cell?_setCell_other _ _ _ _ (by intro h; injection h with h _; omega)
        · rw [← hT.out.2 k hk]; exact World.cell?_setCell_other _ _ _ _ (by intro h; injection h with h _; omega)
      have hD := fun q => decode_any ((t.drop i).take (i + 1 + j - i)) (by intro h; have := congrArg List.length h; simp at this; omega) tb i (cap - i) (j + 1) (wr.drewN q) (by simp; omega) (by omega) (by omega) (by omega) hTr hB hL
      obtain ⟨d1', d2', hdd⟩ : ∃ a b, dec ((t.drop i).take (i + 1 + j - i)) = (a, b) := ⟨_, _, rfl⟩
      have HDD : Hid (dec ((t.drop i).take (j + 1)) = (d1', d2')) := by rw [show j + 1 = i + 1 + j - i by omega]; exact hdd
      rw [hdd] at hD
      clear hdd
      have s1 : ((i : Int) + 1 + j).toNat = i + 1 + j := by omega
      have s2 : (0 : Int) ≤ i + 1 + j := by omega
      have s3 : (i : Int) ≤ i + 1 + j := by omega
      have s4 : i + 1 + j - i = j + 1 := by omega
      have s5 : ¬ cap = i := by omega
      have s6 : ((i : Int) + 1 + j) ≤ cap := by omega
      clear h4 hB hL hTr
      generalize t.length = n at *
      go_wp2_with fail
      go_quiet (first | (go_at_call 98; exact Calls.quiet_of (hD _)) | fail)
      go_wp2
      go_ret
      exact ⟨congrArg (fun p : Int × Int => Ending.returned (.int .i64 p.1)) HDD.out.symm, GK.out.trans (Go1.stay RK.out _)⟩
theorem rb_some {x : Int} {m : Nat} {a b : Int} (h : rb x = some (m, a, b)) : m ≤ 3 ∧ 0 ≤ a ∧ 0 ≤ x := by
  unfold rb at h
  repeat' split at h
  all_goals first | (simp at h; omega) | (cases h)
theorem runeBut70 {g : Nat} {t : List Int} {i : Nat} {c : Cs} {w : World} (s : ByteArray) (R : Hid (RdC w g t i c)) (hT : Hid (Tabs w)) (hg : 3 ≤ g) :
    Calls Tryz.prog 70 #[.pointer (some ⟨g, 0, none⟩), .string s] w fun e w' => EndS e w w' g (Value.int .i64) (runeBut t s i) := by
  unfold runeBut
  cases h : oneOf s (nx t i)
  · rw [if_neg (by simp)]
    cases hr : rb (nx t i) with
    | none => exact runeBut70_none s R h hr
    | some x =>
      obtain ⟨m, a, b⟩ := x
      obtain ⟨h1, h2, h3⟩ := rb_some hr
      have hC := runeBut70_some s R hT hg h m a b hr h1 h2 (nx_lt h3)
      simp only
      cases hz : cont t m (i + 1) a b with
      | error k => rw [hz] at hC; exact hC
      | ok k => rw [hz] at hC; exact hC
  · rw [if_pos rfl]
    exact runeBut70_no s R h
end Go.Proofs.YtenanfkmmkmolaaGreatDoor
/- HELPERS: errors.As at a Fault. -/
namespace Go.Proofs.YtenanfkmmkmolaaGreatDoor
open Go.RowKit Go.Extern.Stop Go.Stop Go.Extern
set_option linter.unusedVariables false
set_option linter.unusedSimpArgs false
theorem as_nil (t : Value) (w : World) : Calls Tryz.prog 28 #[.nilIface, t] w fun e w' => e = .returned (.bool false) ∧ w' = w := by
  go_enter Tryz.func28, Tryz.ntmps28
  go_wp2
  go_ret
  exact ⟨rfl, rfl⟩
theorem valueOf78 (t : Addr) (w : World) : (ReflectliteValue.unpack (.iface 78 (.pointer (some t)))).run Tryz.prog w
    = .ok (.agg #[.pointer (some ⟨4, 78, none⟩), .pointer (some ⟨w.heap.size, 0, none⟩), .int .u64 150]) (w.alloc (.cells #[.pointer (some t)] 78)) := by kernel_rfl
theorem type78 (a : Addr) (w : World) : (ReflectliteValue.methodAny (ReflectliteValue.valueError "reflectlite.Value.Type" 0) (fun t _ _ _ => ReflectliteType.toType t) #[.agg #[.pointer (some ⟨4, 78, none⟩), .pointer (some a), .int .u64 150]]).run Tryz.prog w
    = .ok (.iface 108 (.agg #[.pointer (some ⟨4, 78, none⟩)])) w := by kernel_rfl
theorem methodKind (h : Value) (w : World) : (Go.method 306 108 (.agg #[h]) "Kind").run Tryz.prog w = .ok (159, h) w := by kernel_rfl
theorem kind78 (w : World) : ((ReflectliteType.abiMethod fun t => (fun a : Nat => Value.int IntKind.u8 (a : Int)) <$> Rtype.kind t) #[.pointer (some ⟨4, 78, none⟩)]).run Tryz.prog w = .ok (.int .u8 22) w := by kernel_rfl
theorem kind29 (w : World) : ((ReflectliteType.abiMethod fun t => (fun a : Nat => Value.int IntKind.u8 (a : Int)) <$> Rtype.kind t) #[.pointer (some ⟨4, 29, none⟩)]).run Tryz.prog w = .ok (.int .u8 25) w := by kernel_rfl
theorem rlm (z : Sem Value) (f : TypeId → Addr → Nat → Nat → Sem Value) (v : Value) :
    ReflectliteValue.method z f #[v] = (do match ← ReflectliteValue.parts v with | none => z | some (t, a, fl) => f t a fl (fl % 32)) := rfl
theorem parts78 (a : Addr) (w : World) : (ReflectliteValue.parts (.agg #[.pointer (some ⟨4, 78, none⟩), .pointer (some a), .int .u64 150])).run Tryz.prog w = .ok (some (78, a, 150)) w := by kernel_rfl
theorem isNil78 (a p : Addr) (W : World) (ha : W.cell? a = some (.pointer (some p))) :
    (ReflectliteValue.method (ReflectliteValue.valueError "reflectlite.Value.IsNil" 0) ReflectliteValue.isNil #[.agg #[.pointer (some ⟨4, 78, none⟩), .pointer (some a), .int .u64 150]]).run Tryz.prog W = .ok (.bool false) W := by
  rw [rlm]
  simp only [Sem.run_bind, parts78, Result.andThen]
  simp [ReflectliteValue.isNil, loadVar, isAgg, underlying, Tryz.underlying78, ha, Result.andThen]
theorem methodElem (h : Value) (w : World) : (Go.method 306 108 (.agg #[h]) "Elem").run Tryz.prog w = .ok (171, .agg #[h]) w := by kernel_rfl
theorem methodImplements (h : Value) (w : World) : (Go.method 306 108 (.agg #[h]) "Implements").run Tryz.prog w = .ok (172, .agg #[h]) w := by kernel_rfl
theorem methodAssignableTo (h : Value) (w : World) : (Go.method 306 108 (.agg #[h]) "AssignableTo").run Tryz.prog w = .ok (169, .agg #[h]) w := by kernel_rfl
theorem elem78 (w : World) : (ReflectliteType.method ReflectliteType.elem #[.agg #[.pointer (some ⟨4, 78, none⟩)]]).run Tryz.prog w = .ok (.iface 108 (.agg #[.pointer (some ⟨4, 29, none⟩)])) w := by kernel_rfl
theorem implements29 (w : World) : (ReflectliteType.relation "Implements" ReflectliteType.implements_ #[.agg #[.pointer (some ⟨4, 29, none⟩)], .iface 108 (.agg #[.pointer (some ⟨4, 56, none⟩)])]).run Tryz.prog w = .ok (.bool true) w := by kernel_rfl
theorem typeOf29 (v : Value) (w : World) : (ReflectliteType.typeOf #[.iface 29 v]).run Tryz.prog w = .ok (.iface 108 (.agg #[.pointer (some ⟨4, 29, none⟩)])) w := by kernel_rfl
theorem assignable29 (w : World) : (ReflectliteType.relation "AssignableTo" ReflectliteType.assignableTo #[.agg #[.pointer (some ⟨4, 29, none⟩)], .iface 108 (.agg #[.pointer (some ⟨4, 29, none⟩)])]).run Tryz.prog w = .ok (.bool true) w := by kernel_rfl
theorem valueOf29 (a b : Value) (w : World) : (ReflectliteValue.unpack (.iface 29 (.agg #[a, b]))).run Tryz.prog w
    = .ok (.agg #[.pointer (some ⟨4, 29, none⟩), .pointer (some ⟨w.heap.size, 0, none⟩), .int .u64 153]) (w.alloc (.cells #[a, b] 29)) := by kernel_rfl
theorem elemOf78 (w : World) : (Rtype.elem? 78).run Tryz.prog w = .ok (some 29) w := by kernel_rfl
theorem mk29 (p : Addr) (w : World) : (ReflectliteValue.mk 29 p ReflectliteValue.flagAddr).run Tryz.prog w = .ok (.agg #[.pointer (some ⟨4, 29, none⟩), .pointer (some p), .int .u64 409]) w := by kernel_rfl
theorem elemV78 (a p : Addr) (W : World) (ha : W.cell? a = some (.pointer (some p))) :
    (ReflectliteValue.method (ReflectliteValue.valueError "reflectlite.Value.Elem" 0) ReflectliteValue.elem #[.agg #[.pointer (some ⟨4, 78, none⟩), .pointer (some a), .int .u64 150]]).run Tryz.prog W
      = .ok (.agg #[.pointer (some ⟨4, 29, none⟩), .pointer (some p), .int .u64 409]) W := by
  rw [rlm]
  simp only [Sem.run_bind, parts78, Result.andThen]
  simp [ReflectliteValue.elem, loadVar, isAgg, underlying, Tryz.underlying78, ha, Result.andThen, elemOf78, mk29]
theorem rls (v x : Value) : ReflectliteValue.set #[v, x] = (do
    let (some (dst, a, fl), some (src, b, _)) := (← ReflectliteValue.parts v, ← ReflectliteValue.parts x)
      | unsupported (.noEntry "extern/(internal/reflectlite.Value).Set.zeroValue")
    if fl / ReflectliteValue.flagAddr % 2 == 0 then unsupported (.noEntry "extern/(internal/reflectlite.Value).Set.unaddressable")
    let val ← loadVar src b
    if ← Rtype.directlyAssignable dst src then storeVar dst a val
    else if ← Rtype.implements dst src then
      if (← Rtype.kind src) == 20 then
        match val with
        | .nilIface => unsupported (.noEntry "extern/reflectlite: a nil value of one interface type handed on as a value of another")
        | _ => storeVar dst a val
      else storeVar dst a (.iface src val)
    else panicString ("reflectlite.Set: value of type " ++ (← Rtype.spelt src) ++ " is not assignable to type " ++ (← Rtype.spelt dst))
    pure (.tuple #[])) := rfl
theorem parts29a (a : Addr) (w : World) : (ReflectliteValue.parts (.agg #[.pointer (some ⟨4, 29, none⟩), .pointer (some a), .int .u64 409])).run Tryz.prog w = .ok (some (29, a, 409)) w := by kernel_rfl
theorem parts29 (a : Addr) (w : World) : (ReflectliteValue.parts (.agg #[.pointer (some ⟨4, 29, none⟩), .pointer (some a), .int .u64 153])).run Tryz.prog w = .ok (some (29, a, 153)) w := by kernel_rfl
theorem direct29 (w : World) : (Rtype.directlyAssignable 29 29).run Tryz.prog w = .ok true w := by kernel_rfl
/-- (Value).Set: the Fault at block ta gets what the block b holds. -/
theorem set29 (ta b : Nat) (x y o1 o2 : Value) (W : World) (hb : W.heap[b]? = some (.cells #[x, y] 29 (0, 0))) (ht : W.heap[ta]? = some (.cells #[o1, o2] 29 (0, 0))) (hx : x.oneCell' = true) (hy : y.oneCell' = true) :
    (ReflectliteValue.set #[.agg #[.pointer (some ⟨4, 29, none⟩), .pointer (some ⟨ta, 0, none⟩), .int .u64 409], .agg #[.pointer (some ⟨4, 29, none⟩), .pointer (some ⟨b, 0, none⟩), .int .u64 153]]).run Tryz.prog W
      = .ok (.tuple #[]) (W.setRow ta #[x, y]) := by
  rw [rls]
  simp only [Sem.run_bind, parts29a, parts29, Result.andThen]
  simp [ReflectliteValue.flagAddr, Result.andThen, direct29]
  rw [run_loadVar_row (P := Tryz.prog) W b 29 29 #[x, y] (0, 0) _ hb Tryz.underlying29 rfl (by kernel_rfl)]
  simp only
  rw [run_storeVar_row (P := Tryz.prog) W ta 29 29 #[o1, o2] #[x, y] ht (by kernel_rfl) rfl (by simp [hx, hy])]
/-- nothing of what was there has turned but one block -/
structure Mo (w w' : World) (g : Nat) : Prop where
  os : w'.os = w.os
  tape : w'.tape = w.tape
  output : w'.output = w.output
  size : w.heap.size ≤ w'.heap.size
  block : ∀ k, k < w.heap.size → k ≠ g → w'.heap[k]? = w.heap[k]?
set_option maxHeartbeats 4000000 in
set_option maxRecDepth 20000 in
theorem as_hit (tb : Nat) (x y : Int) (o1 o2 : Value) (w : World) (hg : w.cell? ⟨0, 0, none⟩ = some (.iface 108 (.agg #[.pointer (some ⟨4, 56, none⟩)]))) (ht0 : w.heap[tb]? = some (.cells #[o1, o2] 29 (0, 0))) :
    Calls Tryz.prog 28 #[.iface 29 (.agg #[.int .i64 x, .int .i64 y]), .iface 78 (.pointer (some ⟨tb, 0, none⟩))] w fun ev w' => ev = .returned (.bool true) ∧ w'.heap[tb]? = some (.cells #[.int .i64 x, .int .i64 y] 29 (0, 0)) ∧ Mo w w' tb := by
  have h6 := @run_callFunc_extern Tryz.prog 49 _ (fun args => ReflectliteValue.unpack (args.getD 0 (.tuple #[]))) Tryz.func49 (by kernel_rfl) (by kernel_rfl) (by kernel_rfl) (by kernel_rfl)
  have h7 := @run_callFunc_extern Tryz.prog 50 _ (ReflectliteValue.methodAny (ReflectliteValue.valueError "reflectlite.Value.Type" 0) (fun t _ _ _ => ReflectliteType.toType t)) Tryz.func50 (by kernel_rfl) (by kernel_rfl) (by kernel_rfl) (by kernel_rfl)
  have h8 := @run_callFunc_extern Tryz.prog 51 _ (ReflectliteValue.method (ReflectliteValue.valueError "reflectlite.Value.IsNil" 0) ReflectliteValue.isNil) Tryz.func51 (by kernel_rfl) (by kernel_rfl) (by kernel_rfl) (by kernel_rfl)
  have h27 := @run_callFunc_extern Tryz.prog 159 _ (ReflectliteType.abiMethod fun t => do pure (.int .u8 (← Rtype.kind t))) Tryz.func159 (by kernel_rfl) (by kernel_rfl) (by kernel_rfl) (by kernel_rfl)
  have h37 := @run_callFunc_extern Tryz.prog 171 _ (ReflectliteType.method ReflectliteType.elem) Tryz.func171 (by kernel_rfl) (by kernel_rfl) (by kernel_rfl) (by kernel_rfl)
  have h38 := @run_callFunc_extern Tryz.prog 172 _ (ReflectliteType.relation "Implements" ReflectliteType.implements_) Tryz.func172 (by kernel_rfl) (by kernel_rfl) (by kernel_rfl) (by kernel_rfl)
  have h10 := @run_callFunc_extern Tryz.prog 71 _ ReflectliteType.typeOf Tryz.func71 (by kernel_rfl) (by kernel_rfl) (by kernel_rfl) (by kernel_rfl)
  have h35 := @run_callFunc_extern Tryz.prog 169 _ (ReflectliteType.relation "AssignableTo" ReflectliteType.assignableTo) Tryz.func169 (by kernel_rfl) (by kernel_rfl) (by kernel_rfl) (by kernel_rfl)
  have h11 := @run_callFunc_extern Tryz.prog 72 _ (ReflectliteValue.method (ReflectliteValue.valueError "reflectlite.Value.Elem" 0) ReflectliteValue.elem) Tryz.func72 (by kernel_rfl) (by kernel_rfl) (by kernel_rfl) (by kernel_rfl)
  have h12 := @run_callFunc_extern Tryz.prog 73 _ ReflectliteValue.set Tryz.func73 (by kernel_rfl) (by kernel_rfl) (by kernel_rfl) (by kernel_rfl)
  have tO := typeOf29
  have mA := methodAssignableTo
  have a25 := assignable29
  have v25 := valueOf29
  have f6 := valueOf78
  have f7 := type78
  have mK := methodKind
  have mE := methodElem
  have mI := methodImplements
  have k27 := kind78
  have k25 := kind29
  have e27 := elem78
  have i25 := implements29
  have n8 := isNil78 ⟨w.heap.size, 0, none⟩ ⟨tb, 0, none⟩ ((w.alloc (.cells #[.pointer (some ⟨tb, 0, none⟩)] 78)).alloc (.cells #[.pointer (some ⟨4, 78, none⟩), .pointer (some ⟨w.heap.size, 0, none⟩), .int .u64 150] 91)) (by simp)
  have hlt : 0 < w.heap.size := by
    rcases Nat.eq_zero_or_pos w.heap.size with h0 | h
    · simp [World.cell?, h0] at hg
    · exact h
  have hg2 : ((w.alloc (.cells #[.pointer (some ⟨tb, 0, none⟩)] 78)).alloc (.cells #[.pointer (some ⟨4, 78, none⟩), .pointer (some ⟨w.heap.size, 0, none⟩), .int .u64 150] 91)).cell? ⟨0, 0, none⟩ = some (.iface 108 (.agg #[.pointer (some ⟨4, 56, none⟩)])) := by
    rw [World.cell?_alloc_lt _ _ ⟨0, 0, none⟩ (by simp), World.cell?_alloc_lt _ _ ⟨0, 0, none⟩ hlt]; exact hg
  have htl : tb < w.heap.size := (Array.getElem?_eq_some_iff.1 ht0).1
  have el := elemV78 ⟨w.heap.size, 0, none⟩ ⟨tb, 0, none⟩ (((w.alloc (.cells #[.pointer (some ⟨tb, 0, none⟩)] 78)).alloc (.cells #[.pointer (some ⟨4, 78, none⟩), .pointer (some ⟨w.heap.size, 0, none⟩), .int .u64 150] 91)).alloc (.cells #[.pointer (some ⟨4, 78, none⟩), .pointer (some ⟨w.heap.size, 0, none⟩), .int .u64 150] 91)) (by rw [World.cell?_alloc_lt _ _ ⟨w.heap.size, 0, none⟩ (by simp; omega)]; simp)
  have ht3 : ((((w.alloc (.cells #[.pointer (some ⟨tb, 0, none⟩)] 78)).alloc (.cells #[.pointer (some ⟨4, 78, none⟩), .pointer (some ⟨w.heap.size, 0, none⟩), .int .u64 150] 91)).alloc (.cells #[.pointer (some ⟨4, 78, none⟩), .pointer (some ⟨w.heap.size, 0, none⟩), .int .u64 150] 91)).alloc (.cells #[.int .i64 x, .int .i64 y] 29)).heap[tb]? = some (.cells #[o1, o2] 29 (0, 0)) := by
    rw [heap_alloc_old _ _ (by simp; omega), heap_alloc_old _ _ (by simp; omega), heap_alloc_old _ _ (by simp; omega), heap_alloc_old _ _ htl]; exact ht0
  have st := set29 tb (w.heap.size + 1 + 1 + 1) (.int .i64 x) (.int .i64 y) o1 o2 ((((w.alloc (.cells #[.pointer (some ⟨tb, 0, none⟩)] 78)).alloc (.cells #[.pointer (some ⟨4, 78, none⟩), .pointer (some ⟨w.heap.size, 0, none⟩), .int .u64 150] 91)).alloc (.cells #[.pointer (some ⟨4, 78, none⟩), .pointer (some ⟨w.heap.size, 0, none⟩), .int .u64 150] 91)).alloc (.cells #[.int .i64 x, .int .i64 y] 29))
    (by have := heap_alloc_new (((w.alloc (.cells #[.pointer (some ⟨tb, 0, none⟩)] 78)).alloc (.cells #[.pointer (some ⟨4, 78, none⟩), .pointer (some ⟨w.heap.size, 0, none⟩), .int .u64 150] 91)).alloc (.cells #[.pointer (some ⟨4, 78, none⟩), .pointer (some ⟨w.heap.size, 0, none⟩), .int .u64 150] 91)) (.cells #[.int .i64 x, .int .i64 y] 29); simpa using this)
    ht3 rfl rfl
  have HT3 : Hid _ := (show Hid (_ = _) from ht3)
  clear ht3
  go_enter Tryz.func28, Tryz.ntmps28
  go_wp2
  refine wp_loop_rounds 1 ?_
  rw [rounds_succ]
  go_wp2
  go_ret
  refine ⟨rfl, ?_, ?_⟩
  · exact setRow_heap _ _ _ _ _ _ HT3.out
  · refine ⟨rfl, rfl, rfl, by simp [World.setRow]; omega, fun k hk hne => ?_⟩
    rw [setRow_other _ _ _ _ hne, heap_alloc_old _ _ (by simp; omega), heap_alloc_old _ _ (by simp; omega), heap_alloc_old _ _ (by simp; omega), heap_alloc_old _ _ hk]
end Go.Proofs.YtenanfkmmkmolaaGreatDoor
/- HELPERS: a reader that keeps what is wrong; a fault is kept. -/
namespace Go.Proofs.YtenanfkmmkmolaaGreatDoor
open Go.RowKit Go.Mx
set_option linter.unusedVariables false
set_option linter.unusedSimpArgs false
def wrV : Wr → Value
  | none => .nilIface
  | some (c, a) => .iface 29 (.agg #[.int .i64 c, .int .i64 a])
theorem Mo.refl (w : World) (g : Nat) : Mo w w g := ⟨rfl, rfl, rfl, Nat.le_refl _, fun _ _ _ => rfl⟩
theorem Mo.trans {w w1 w2 : World} {g : Nat} (h1 : Mo w w1 g) (h2 : Mo w1 w2 g) : Mo w w2 g :=
  ⟨h2.os.trans h1.os, h2.tape.trans h1.tape, h2.output.trans h1.output, Nat.le_trans h1.size h2.size, fun k hk hn => (h2.block k (Nat.lt_of_lt_of_le hk h1.size) hn).trans (h1.block k hk hn)⟩
theorem Mo.of_below {w w' : World} {g : Nat} (h : Below w.heap.size w w') : Mo w w' g := ⟨h.os, h.tape, h.output, h.size, fun k hk _ => h.block k hk⟩
theorem Mo.below {w w' : World} {g N : Nat} (h : Mo w w' g) (hN : N ≤ g) (hs : N ≤ w.heap.size) : Below N w w' := ⟨h.os, h.tape, h.output, h.size, fun k hk => h.block k (by omega) (by omega)⟩
theorem Mo.alloc (w : World) (g : Nat) (o : Obj) : Mo w (w.alloc o) g := ⟨rfl, rfl, rfl, by simp, fun k hk _ => heap_alloc_old w o hk⟩
theorem Mo.drewN (w : World) (g q : Nat) : Mo w (w.drewN q) g := ⟨rfl, rfl, rfl, Nat.le_refl _, fun _ _ _ => rfl⟩
theorem Mo.set (w : World) (g i : Nat) (v : Value) : Mo w (w.setCell ⟨g, i, none⟩ v) g := ⟨rfl, rfl, rfl, by simp [World.setCell], fun k hk hn => Below.heap_setCell _ _ _ _ hn⟩
theorem Go1.mo {w w' : World} {g k : Nat} (h : Go1 w w' g k) : Mo w w' g := by
  obtain ⟨q, rfl⟩ := h
  exact (Mo.set w g 1 _).trans (Mo.drewN _ g q)
/-- what the runs read of the package's variables -/
structure Gl (w : World) : Prop where
  tabs : Tabs w
  ety : w.cell? ⟨0, 0, none⟩ = some (.iface 108 (.agg #[.pointer (some ⟨4, 56, none⟩)]))
  big : 4 ≤ w.heap.size
theorem Gl.below {w w' : World} {B : Nat} (h : Gl w) (hb : Below B w w') (hB : 3 ≤ B) : Gl w' := ⟨h.tabs.below hb hB, (hb.cell (p := ⟨0, 0, none⟩) (by show 0 < B; omega)).trans h.ety, Nat.le_trans h.big hb.size⟩
/-- a reader with its fault -/
structure RW (w : World) (g : Nat) (t : List Int) (i : Nat) (c : Cs) (wr : Wr) : Prop where
  rd : Rd w g t i c.tv c.ov c.gv c.mv (wrV wr)
  gl : Gl w
  hg : 4 ≤ g
theorem Rd.gl {w : World} {g : Nat} {t : List Int} {i : Nat} {tv ov gv mv xv : Value} (h : Rd w g t i tv ov gv mv xv) : g < w.heap.size := (Array.getElem?_eq_some_iff.1 h.blk).1
theorem cell_lt {w : World} {a : Addr} {v : Value} (h : w.cell? a = some v) : a.block < w.heap.size := by
  rcases Nat.lt_or_ge a.block w.heap.size with h1 | h1
  · exact h1
  · simp [World.cell?, Array.getElem?_eq_none h1] at h
theorem TextAt.mo {w w' : World} {g : Nat} {t : List Int} {tv : Value} (h : TextAt w g t tv) (hm : Mo w w' g) : TextAt w' g t tv := by
  obtain ⟨ad, cap, h1, h2, h3, h4⟩ := h
  refine ⟨ad, cap, h1, h2, h3, fun j hj => ?_⟩
  obtain ⟨b, e1, e2, e3⟩ := h4 j hj
  have hlt := cell_lt e3
  refine ⟨b, e1, e2, ?_⟩
  rw [← e3]
  unfold World.cell?
  rw [hm.block b hlt e2]
theorem RW.mo {w w' : World} {g : Nat} {t : List Int} {i k : Nat} {c : Cs} {wr wr' : Wr} (h : RW w g t i c wr) (hm : Mo w w' g) (hb : w'.heap[g]? = some (.cells #[c.tv, .int .i64 (k : Int), c.ov, c.gv, c.mv, wrV wr'] 76 (0, 0))) (hk : k ≤ t.length) : RW w' g t k c wr' :=
  ⟨⟨hb, h.rd.txt.mo hm, hk, h.rd.bd, h.rd.byt⟩, h.gl.below (hm.below (N := 4) h.hg h.gl.big) (by omega), h.hg⟩
theorem RW.stay {w w' : World} {g : Nat} {t : List Int} {i : Nat} {c : Cs} {wr : Wr} (h : RW w g t i c wr) (hb : Below w.heap.size w w') : RW w' g t i c wr :=
  h.mo (Mo.of_below hb) ((hb.block g h.rd.gl).trans h.rd.blk) h.rd.le
theorem RW.go1 {w w' : World} {g : Nat} {t : List Int} {i k : Nat} {c : Cs} {wr : Wr} (h : RW w g t i c wr) (hm : Go1 w w' g k) (hk : k ≤ t.length) : RW w' g t k c wr :=
  h.mo hm.mo (h.rd.go1 hm hk).blk hk
/-- on, by a call that moves the reader alone -/
theorem rwOn {w w' : World} {g : Nat} {t : List Int} {i k : Nat} {c : Cs} {wr : Wr} (h : Hid (RW w g t i c wr)) (hm : Go1 w w' g k) (hk : k ≤ t.length) : Hid (RW w' g t k c wr) := h.out.go1 hm hk
/-- its cells but the place -/
abbrev Cs.at (c : Cs) (wr : Wr) : Cs := { c with xv := wrV wr }
theorem rdC {w : World} {g : Nat} {t : List Int} {i : Nat} {c : Cs} {wr : Wr} (h : Hid (RW w g t i c wr)) : Hid (RdC w g t i (c.at wr)) := h.out.rd
/-- how a call ends that may keep a fault and make memory -/
def EndW {α : Type} (e : Ending) (w w' : World) (g : Nat) (t : List Int) (c : Cs) (val : α → World → Value → Prop) : Except Nat (α × Nat × Wr) → Prop
  | .error k => e = Gave k ∧ Mo w w' g
  | .ok (a, k, wr) => ∃ v, e = .returned v ∧ val a w' v ∧ Mo w w' g ∧ RW w' g t k c wr
theorem info29 : (Tryz.prog.info? 29).map (fun i => (i.zero, i.size, i.bytes)) = some (some (.agg #[.int .i64 0, .int .i64 0]), 2, 16) := by kernel_rfl
theorem note_store {w w1 : World} {g : Nat} {t : List Int} {i : Nat} {c : Cs} {wr : Wr} {code at_ : Int} (h : RW w g t i c wr) (hm : Mo w w1 g) (hb : w1.heap[g]? = some (.cells #[c.tv, .int .i64 (i : Int), c.ov, c.gv, c.mv, wrV wr] 76 (0, 0))) :
    Mo w (w1.setCell ⟨g, 5, none⟩ (wrV (some (code, at_)))) g ∧ RW (w1.setCell ⟨g, 5, none⟩ (wrV (some (code, at_)))) g t i c (some (code, at_)) := by
  have hm2 := hm.trans (Mo.set w1 g 5 (wrV (some (code, at_))))
  exact ⟨hm2, h.mo hm2 (Joins.block_setCell (i := 5) hb _) h.rd.le⟩
set_option maxHeartbeats 1000000 in
theorem note64_none {w : World} {g : Nat} {t : List Int} {i : Nat} {c : Cs} (R : Hid (RW w g t i c none)) (code at_ : Int) :
    Calls Tryz.prog 64 #[.pointer (some ⟨g, 0, none⟩), .int .i64 code, .int .i64 at_] w fun e w' => e = .returned (.tuple #[]) ∧ Mo w w' g ∧ RW w' g t i c (some (code, at_)) := by
  have hgl := R.out.rd.gl
  have c5 := Joins.cell_of_block R.out.rd.blk 5
  have f5 := Joins.unfrozen_of_block R.out.rd.blk 5
  simp [wrV] at c5
  have C1 := fun W => as_nil (.iface 78 (.pointer (some ⟨w.heap.size, 0, none⟩))) W
  go_enter Tryz.func64, Tryz.ntmps64
  go_wp2_with (go_at_call 28; with_reducible refine (C1 _).mono ?_; rintro e w1 ⟨rfl, rfl⟩)
  all_goals go_end0
  have h1 := note_store (code := code) (at_ := at_) R.out (Mo.refl w g) R.out.rd.blk
  exact ⟨rfl, h1.1.trans (Mo.alloc _ g _), h1.2.stay (Joins.below_alloc1 _ _)⟩
theorem note_facts {w w1 : World} {g : Nat} {t : List Int} {i : Nat} {c : Cs} {c0 a0 : Int} (R : Hid (RW w g t i c (some (c0, a0)))) (hb1 : w1.heap[w.heap.size]? = some (.cells #[.int .i64 c0, .int .i64 a0] 29 (0, 0))) (hm1 : Mo (w.alloc (.cells #[.int .i64 0, .int .i64 0] 29)) w1 w.heap.size) :
    Hid (Mo w w1 g) ∧ Hid (w1.heap[g]? = some (.cells #[c.tv, .int .i64 (i : Int), c.ov, c.gv, c.mv, wrV (some (c0, a0))] 76 (0, 0))) ∧ w1.cell? ⟨w.heap.size, 0, none⟩ = some (.int .i64 c0) ∧ w1.cell? ⟨w.heap.size, 1, none⟩ = some (.int .i64 a0) ∧ w1.frozen? ⟨g, 5, none⟩ = false ∧ w1.cell? ⟨g, 5, none⟩ = some (wrV (some (c0, a0))) := by
  have hgl := R.out.rd.gl
  have hm : Mo w w1 g := ⟨hm1.os, hm1.tape, hm1.output, by have := hm1.size; simp at this; omega, fun k hk _ => (hm1.block k (by simp; omega) (by omega)).trans (heap_alloc_old w _ hk)⟩
  have hbg : w1.heap[g]? = some (.cells #[c.tv, .int .i64 (i : Int), c.ov, c.gv, c.mv, wrV (some (c0, a0))] 76 (0, 0)) := (hm1.block g (by simp; omega) (by omega)).trans ((heap_alloc_old w _ hgl).trans R.out.rd.blk)
  have d0 := Joins.cell_of_block hb1 0
  have d1 := Joins.cell_of_block hb1 1
  have f5 := Joins.unfrozen_of_block hbg 5
  have k5 := Joins.cell_of_block hbg 5
  simp at d0 d1 k5
  exact ⟨hm, hbg, d0, d1, f5, k5⟩
set_option maxHeartbeats 1000000 in
theorem note64_a {w : World} {g : Nat} {t : List Int} {i : Nat} {c : Cs} (c0 a0 : Int) (R : Hid (RW w g t i c (some (c0, a0)))) (code at_ : Int) (h1 : a0 < at_) :
    Calls Tryz.prog 64 #[.pointer (some ⟨g, 0, none⟩), .int .i64 code, .int .i64 at_] w fun e w' => e = .returned (.tuple #[]) ∧ Mo w w' g ∧ RW w' g t i c (note (some (c0, a0)) code at_) := by
  have c5 := Joins.cell_of_block R.out.rd.blk 5
  have hgl := R.out.rd.gl
  simp [wrV] at c5
  have C1 := as_hit w.heap.size c0 a0 (.int .i64 0) (.int .i64 0) (w.alloc (.cells #[.int .i64 0, .int .i64 0] 29)) ((World.cell?_alloc_lt _ _ ⟨0, 0, none⟩ (by have := R.out.gl.big; show 0 < w.heap.size; omega)).trans R.out.gl.ety) (heap_alloc_new w _)
  have b1 : decide (a0 < at_) = true := by simpa using h1
  go_enter Tryz.func64, Tryz.ntmps64
  go_wp2_with (go_at_call 28; with_reducible refine C1.mono ?_; rintro e w1 ⟨rfl, hb1, hm1⟩; obtain ⟨HM, HB, d0, d1, f5, k5⟩ := note_facts R hb1 hm1; clear hb1 hm1)
  all_goals first | go_end0 | refine bodyPost_ret (results_none rfl _ _ _) rfl ?_
  refine ⟨rfl, HM.out, ?_⟩
  rw [note, if_pos (.inl h1)]
  exact R.out.mo HM.out HB.out R.out.rd.le
set_option maxHeartbeats 1000000 in
theorem note64_b {w : World} {g : Nat} {t : List Int} {i : Nat} {c : Cs} (c0 a0 : Int) (R : Hid (RW w g t i c (some (c0, a0)))) (code at_ : Int) (h1 : ¬ a0 < at_) (h2 : a0 = at_) (h3 : c0 ≤ code) :
    Calls Tryz.prog 64 #[.pointer (some ⟨g, 0, none⟩), .int .i64 code, .int .i64 at_] w fun e w' => e = .returned (.tuple #[]) ∧ Mo w w' g ∧ RW w' g t i c (note (some (c0, a0)) code at_) := by
  have c5 := Joins.cell_of_block R.out.rd.blk 5
  have hgl := R.out.rd.gl
  simp [wrV] at c5
  have C1 := as_hit w.heap.size c0 a0 (.int .i64 0) (.int .i64 0) (w.alloc (.cells #[.int .i64 0, .int .i64 0] 29)) ((World.cell?_alloc_lt _ _ ⟨0, 0, none⟩ (by have := R.out.gl.big; show 0 < w.heap.size; omega)).trans R.out.gl.ety) (heap_alloc_new w _)
  subst h2
  have b1 : decide (a0 < a0) = false := by simp
  have b2 : (a0 == a0) = true := by simp
  have b3 : decide (c0 ≤ code) = true := by simpa using h3
  go_enter Tryz.func64, Tryz.ntmps64
  go_wp2_with (go_at_call 28; with_reducible refine C1.mono ?_; rintro e w1 ⟨rfl, hb1, hm1⟩; obtain ⟨HM, HB, d0, d1, f5, k5⟩ := note_facts R hb1 hm1; clear hb1 hm1)
  all_goals first | go_end0 | refine bodyPost_ret (results_none rfl _ _ _) rfl ?_
  refine ⟨rfl, HM.out, ?_⟩
  rw [note, if_pos (.inr ⟨rfl, h3⟩)]
  exact R.out.mo HM.out HB.out R.out.rd.le
set_option maxHeartbeats 1000000 in
theorem note64_c {w : World} {g : Nat} {t : List Int} {i : Nat} {c : Cs} (c0 a0 : Int) (R : Hid (RW w g t i c (some (c0, a0)))) (code at_ : Int) (h1 : ¬ a0 < at_) (h2 : a0 = at_) (h3 : ¬ c0 ≤ code) :
    Calls Tryz.prog 64 #[.pointer (some ⟨g, 0, none⟩), .int .i64 code, .int .i64 at_] w fun e w' => e = .returned (.tuple #[]) ∧ Mo w w' g ∧ RW w' g t i c (note (some (c0, a0)) code at_) := by
  have c5 := Joins.cell_of_block R.out.rd.blk 5
  have hgl := R.out.rd.gl
  simp [wrV] at c5
  have C1 := as_hit w.heap.size c0 a0 (.int .i64 0) (.int .i64 0) (w.alloc (.cells #[.int .i64 0, .int .i64 0] 29)) ((World.cell?_alloc_lt _ _ ⟨0, 0, none⟩ (by have := R.out.gl.big; show 0 < w.heap.size; omega)).trans R.out.gl.ety) (heap_alloc_new w _)
  subst h2
  have b1 : decide (a0 < a0) = false := by simp
  have b2 : (a0 == a0) = true := by simp
  have b3 : decide (c0 ≤ code) = false := by simpa using h3
  go_enter Tryz.func64, Tryz.ntmps64
  go_wp2_with (go_at_call 28; with_reducible refine C1.mono ?_; rintro e w1 ⟨rfl, hb1, hm1⟩; obtain ⟨HM, HB, d0, d1, f5, k5⟩ := note_facts R hb1 hm1; clear hb1 hm1)
  all_goals go_end0
  refine ⟨rfl, ?_⟩
  rw [note, if_neg (by omega)]
  exact note_store R.out HM.out HB.out
set_option maxHeartbeats 1000000 in
theorem note64_d {w : World} {g : Nat} {t : List Int} {i : Nat} {c : Cs} (c0 a0 : Int) (R : Hid (RW w g t i c (some (c0, a0)))) (code at_ : Int) (h1 : ¬ a0 < at_) (h2 : ¬ a0 = at_) :
    Calls Tryz.prog 64 #[.pointer (some ⟨g, 0, none⟩), .int .i64 code, .int .i64 at_] w fun e w' => e = .returned (.tuple #[]) ∧ Mo w w' g ∧ RW w' g t i c (note (some (c0, a0)) code at_) := by
  have c5 := Joins.cell_of_block R.out.rd.blk 5
  have hgl := R.out.rd.gl
  simp [wrV] at c5
  have C1 := as_hit w.heap.size c0 a0 (.int .i64 0) (.int .i64 0) (w.alloc (.cells #[.int .i64 0, .int .i64 0] 29)) ((World.cell?_alloc_lt _ _ ⟨0, 0, none⟩ (by have := R.out.gl.big; show 0 < w.heap.size; omega)).trans R.out.gl.ety) (heap_alloc_new w _)
  have b1 : decide (a0 < at_) = false := by simpa using h1
  have b2 : (a0 == at_) = false := by simpa using h2
  go_enter Tryz.func64, Tryz.ntmps64
  go_wp2_with (go_at_call 28; with_reducible refine C1.mono ?_; rintro e w1 ⟨rfl, hb1, hm1⟩; obtain ⟨HM, HB, d0, d1, f5, k5⟩ := note_facts R hb1 hm1; clear hb1 hm1)
  all_goals go_end0
  refine ⟨rfl, ?_⟩
  rw [note, if_neg (by omega)]
  exact note_store R.out HM.out HB.out
theorem note64_some {w : World} {g : Nat} {t : List Int} {i : Nat} {c : Cs} (c0 a0 : Int) (R : Hid (RW w g t i c (some (c0, a0)))) (code at_ : Int) :
    Calls Tryz.prog 64 #[.pointer (some ⟨g, 0, none⟩), .int .i64 code, .int .i64 at_] w fun e w' => e = .returned (.tuple #[]) ∧ Mo w w' g ∧ RW w' g t i c (note (some (c0, a0)) code at_) := by
  by_cases h1 : a0 < at_
  · exact note64_a c0 a0 R code at_ h1
  · by_cases h2 : a0 = at_
    · by_cases h3 : c0 ≤ code
      · exact note64_b c0 a0 R code at_ h1 h2 h3
      · exact note64_c c0 a0 R code at_ h1 h2 h3
    · exact note64_d c0 a0 R code at_ h1 h2
theorem note64 {w : World} {g : Nat} {t : List Int} {i : Nat} {c : Cs} {wr : Wr} (R : Hid (RW w g t i c wr)) (code at_ : Int) :
    Calls Tryz.prog 64 #[.pointer (some ⟨g, 0, none⟩), .int .i64 code, .int .i64 at_] w fun e w' => e = .returned (.tuple #[]) ∧ Mo w w' g ∧ RW w' g t i c (note wr code at_) := by
  rcases wr with _ | ⟨c0, a0⟩
  · exact note64_none R code at_
  · exact note64_some c0 a0 R code at_
end Go.Proofs.YtenanfkmmkmolaaGreatDoor
/- HELPERS: a count between brackets. -/
namespace Go.Proofs.YtenanfkmmkmolaaGreatDoor
open Go.RowKit Go.Mx
set_option linter.unusedVariables false
set_option linter.unusedSimpArgs false
theorem numGo_val (t : List Int) : ∀ (f i : Nat) (n : Int), 0 ≤ n → 0 ≤ (numGo t f i n).1 ∧ (numGo t f i n).1 + 1 ≤ (n + 1) * 10 ^ f := by
  intro f
  induction f with
  | zero => intro i n h; simp [numGo, h]
  | succ f ih =>
    intro i n h
    unfold numGo
    have hp : (0 : Int) < 10 ^ f := Int.pow_pos (by decide)
    split
    · have h2 := ih (i + 1) (n * 10 + (nx t i - 48)) (by omega)
      refine ⟨h2.1, Int.le_trans h2.2 ?_⟩
      rw [Int.pow_succ, show (n + 1) * (10 ^ f * 10) = ((n + 1) * 10) * 10 ^ f by rw [Int.mul_comm (10 ^ f) 10, Int.mul_assoc]]
      exact Int.mul_le_mul_of_nonneg_right (by omega) (Int.le_of_lt hp)
    · refine ⟨h, ?_⟩
      have : (n + 1) * 1 ≤ (n + 1) * 10 ^ (f + 1) := Int.mul_le_mul_of_nonneg_left (by rw [Int.pow_succ]; omega) (by omega)
      simpa using this
theorem number_bd {t : List Int} {i : Nat} {v : Int} {k : Nat} (h : number t i = .ok (v, k)) : i < k ∧ k ≤ t.length ∧ 0 ≤ v ∧ v < 10000 := by
  unfold number at h
  split at h
  · have := nx_lt (t := t) (i := i) (by omega)
    simp at h
    omega
  · split at h
    · have := nx_lt (t := t) (i := i) (by omega)
      have h1 := numGo_bd t 3 (i + 1) (nx t i - 48) (by omega)
      have h2 := numGo_val t 3 (i + 1) (nx t i - 48) (by omega)
      simp only [Except.ok.injEq] at h
      rw [h] at h1 h2
      simp at h1 h2
      omega
    · cases h
theorem hid {p : Prop} (h : p) : Hid p := h
theorem number_end {t : List Int} {i k : Nat} (h : number t i = .error k) : k = i := by
  unfold number at h
  split at h
  · cases h
  · split at h
    · cases h
    · simp at h; omega
section
variable {g : Nat} {t : List Int} {i : Nat} {c : Cs} {w : World}
theorem numberE (R : Hid (RdC w g t i c)) {v : Int} {k : Nat} (h : number t i = .ok (v, k)) : Calls Tryz.prog 104 #[.pointer (some ⟨g, 0, none⟩)] w fun e w' => e = .returned (.int .i64 v) ∧ Go1 w w' g k := by
  have := number104 R
  rw [h] at this
  exact this
theorem numberN (R : Hid (RdC w g t i c)) {k : Nat} (h : number t i = .error k) : Calls Tryz.prog 104 #[.pointer (some ⟨g, 0, none⟩)] w fun e w' => e = Gave k ∧ Go1 w w' g k := by
  have := number104 R
  rw [h] at this
  exact this
end
set_option maxHeartbeats 1000000 in
theorem numbers86_a {g : Nat} {t : List Int} {i : Nat} {c : Cs} {w : World} {wr : Wr} (R0 : Hid (RW w g t i c wr)) (h : ¬ nx t i = 123) : Calls Tryz.prog 86 #[.pointer (some ⟨g, 0, none⟩)] w fun e w' => e = Gave i ∧ Mo w w' g := by
  have hle := R0.out.rd.le
  have hbd := R0.out.rd.bd
  have z1 := Joins.cell_of_block R0.out.rd.blk 1
  simp [wrV] at z1
  go_enter Tryz.func86, Tryz.ntmps86
  have C1 := mustN (rdC R0) 123 (by decide) h
  go_wp2_with (go_at_call 63; with_reducible refine C1.mono ?_; rintro e w1 ⟨rfl, G1⟩)
  exact ⟨rfl, rfl, G1.mo⟩
set_option maxHeartbeats 1000000 in
theorem numbers86_b {g : Nat} {t : List Int} {i : Nat} {c : Cs} {w : World} {wr : Wr} (R0 : Hid (RW w g t i c wr)) (h : nx t i = 123) {k : Nat} (hn : number t (i + 1) = .error k) : Calls Tryz.prog 86 #[.pointer (some ⟨g, 0, none⟩)] w fun e w' => e = Gave k ∧ Mo w w' g := by
  have hle := R0.out.rd.le
  have hbd := R0.out.rd.bd
  have hi0 := nx_lt (t := t) (i := i) (by omega)
  have z1 := Joins.cell_of_block R0.out.rd.blk 1
  simp [wrV] at z1
  go_enter Tryz.func86, Tryz.ntmps86
  have C1 := mustE (rdC R0) 123 (by decide) h
  go_wp2_with (go_at_call 63; with_reducible refine C1.mono ?_; rintro e w1 ⟨rfl, G1⟩; have R1 := rwOn R0 G1 (by omega))
  have C2 := numberN (rdC R1) hn
  go_wp2_with (go_at_call 104; with_reducible refine C2.mono ?_; rintro e w2 ⟨rfl, G2⟩)
  exact ⟨rfl, rfl, (G1.mo).trans G2.mo⟩
set_option maxHeartbeats 1000000 in
theorem numbers86_f0 {g : Nat} {t : List Int} {i : Nat} {c : Cs} {w : World} {wr : Wr} (R0 : Hid (RW w g t i c wr)) (h : nx t i = 123) {lo : Int} {j : Nat} (hn : number t (i + 1) = .ok (lo, j)) (h1 : ¬ nx t j = 44) (h2 : ¬ nx t j = 125) : Calls Tryz.prog 86 #[.pointer (some ⟨g, 0, none⟩)] w fun e w' => e = Gave j ∧ Mo w w' g := by
  have hle := R0.out.rd.le
  have hbd := R0.out.rd.bd
  have hi0 := nx_lt (t := t) (i := i) (by omega)
  have z1 := Joins.cell_of_block R0.out.rd.blk 1
  simp [wrV] at z1
  go_enter Tryz.func86, Tryz.ntmps86
  have C1 := mustE (rdC R0) 123 (by decide) h
  go_wp2_with (go_at_call 63; with_reducible refine C1.mono ?_; rintro e w1 ⟨rfl, G1⟩; have R1 := rwOn R0 G1 (by omega))
  obtain ⟨n1, n2, n3, n4⟩ := number_bd hn
  have C2 := numberE (rdC R1) hn
  go_wp2_with (go_at_call 104; with_reducible refine C2.mono ?_; rintro e w2 ⟨rfl, G2⟩; have R2 := rwOn R1 G2 (by omega))
  have C3 := tookN (rdC R2) 44 (by decide) h1
  go_wp2_with (go_at_call 60; with_reducible refine C3.mono ?_; rintro e w3 ⟨rfl, G3⟩; have R3 := rwOn R2 G3 (by omega))
  have C4 := mustN (rdC R3) 125 (by decide) h2
  go_wp2_with (go_at_call 63; with_reducible refine C4.mono ?_; rintro e w4 ⟨rfl, G4⟩)
  exact ⟨rfl, rfl, (((G1.mo).trans G2.mo).trans G3.mo).trans G4.mo⟩
set_option maxHeartbeats 1000000 in
theorem numbers86_f1 {g : Nat} {t : List Int} {i : Nat} {c : Cs} {w : World} {wr : Wr} (R0 : Hid (RW w g t i c wr)) (h : nx t i = 123) {lo : Int} {j : Nat} (hn : number t (i + 1) = .ok (lo, j)) (h1 : ¬ nx t j = 44) (h2 : nx t j = 125) (hb : ¬ lo > 1000) : Calls Tryz.prog 86 #[.pointer (some ⟨g, 0, none⟩)] w fun e w' => e = .returned (.tuple #[.int .i64 lo, .int .i64 lo]) ∧ Mo w w' g ∧ RW w' g t (j + 1) c wr := by
  have hle := R0.out.rd.le
  have hbd := R0.out.rd.bd
  have hi0 := nx_lt (t := t) (i := i) (by omega)
  have z1 := Joins.cell_of_block R0.out.rd.blk 1
  simp [wrV] at z1
  go_enter Tryz.func86, Tryz.ntmps86
  have C1 := mustE (rdC R0) 123 (by decide) h
  go_wp2_with (go_at_call 63; with_reducible refine C1.mono ?_; rintro e w1 ⟨rfl, G1⟩; have R1 := rwOn R0 G1 (by omega))
  obtain ⟨n1, n2, n3, n4⟩ := number_bd hn
  have C2 := numberE (rdC R1) hn
  go_wp2_with (go_at_call 104; with_reducible refine C2.mono ?_; rintro e w2 ⟨rfl, G2⟩; have R2 := rwOn R1 G2 (by omega))
  have hj := nx_lt (t := t) (i := j) (by omega)
  have m0 : max lo lo = lo := by omega
  have b1 : decide (1000 < lo) = false := by simp; omega
  have b2 : decide (0 ≤ lo) = true := by simp; omega
  have b3 : decide (lo < lo) = false := by simp
  have C3 := tookN (rdC R2) 44 (by decide) h1
  go_wp2_with (go_at_call 60; with_reducible refine C3.mono ?_; rintro e w3 ⟨rfl, G3⟩; have R3 := rwOn R2 G3 (by omega))
  have C4 := mustE (rdC R3) 125 (by decide) h2
  go_wp2_with (go_at_call 63; with_reducible refine C4.mono ?_; rintro e w4 ⟨rfl, G4⟩; have R4 := rwOn R3 G4 (by omega))
  go_ret2
  exact ⟨rfl, (((G1.mo).trans G2.mo).trans G3.mo).trans G4.mo, R4.out⟩
set_option maxHeartbeats 1000000 in
theorem numbers86_f2 {g : Nat} {t : List Int} {i : Nat} {c : Cs} {w : World} {wr : Wr} (R0 : Hid (RW w g t i c wr)) (h : nx t i = 123) {lo : Int} {j : Nat} (hn : number t (i + 1) = .ok (lo, j)) (h1 : ¬ nx t j = 44) (h2 : nx t j = 125) (hb : lo > 1000) : Calls Tryz.prog 86 #[.pointer (some ⟨g, 0, none⟩)] w fun e w' => e = .returned (.tuple #[.int .i64 lo, .int .i64 lo]) ∧ Mo w w' g ∧ RW w' g t (j + 1) c (note wr 43 i) := by
  have hle := R0.out.rd.le
  have hbd := R0.out.rd.bd
  have hi0 := nx_lt (t := t) (i := i) (by omega)
  have z1 := Joins.cell_of_block R0.out.rd.blk 1
  simp [wrV] at z1
  go_enter Tryz.func86, Tryz.ntmps86
  have C1 := mustE (rdC R0) 123 (by decide) h
  go_wp2_with (go_at_call 63; with_reducible refine C1.mono ?_; rintro e w1 ⟨rfl, G1⟩; have R1 := rwOn R0 G1 (by omega))
  obtain ⟨n1, n2, n3, n4⟩ := number_bd hn
  have C2 := numberE (rdC R1) hn
  go_wp2_with (go_at_call 104; with_reducible refine C2.mono ?_; rintro e w2 ⟨rfl, G2⟩; have R2 := rwOn R1 G2 (by omega))
  have hj := nx_lt (t := t) (i := j) (by omega)
  have m0 : max lo lo = lo := by omega
  have b1 : decide (1000 < lo) = true := by simp; omega
  have b2 : decide (0 ≤ lo) = true := by simp; omega
  have b3 : decide (lo < lo) = false := by simp
  have C3 := tookN (rdC R2) 44 (by decide) h1
  go_wp2_with (go_at_call 60; with_reducible refine C3.mono ?_; rintro e w3 ⟨rfl, G3⟩; have R3 := rwOn R2 G3 (by omega))
  have C4 := mustE (rdC R3) 125 (by decide) h2
  go_wp2_with (go_at_call 63; with_reducible refine C4.mono ?_; rintro e w4 ⟨rfl, G4⟩; have R4 := rwOn R3 G4 (by omega))
  have C5 := note64 R4 43 i
  go_wp2_with (go_at_call 64; with_reducible refine C5.mono ?_; rintro e w5 ⟨rfl, M5, RR5⟩; have R5 := hid RR5)
  go_ret2
  exact ⟨rfl, ((((G1.mo).trans G2.mo).trans G3.mo).trans G4.mo).trans M5, R5.out⟩
set_option maxHeartbeats 1000000 in
theorem numbers86_c0 {g : Nat} {t : List Int} {i : Nat} {c : Cs} {w : World} {wr : Wr} (R0 : Hid (RW w g t i c wr)) (h : nx t i = 123) {lo : Int} {j : Nat} (hn : number t (i + 1) = .ok (lo, j)) (h1 : nx t j = 44) (h2 : nx t (j + 1) = 125) (hb : ¬ lo > 1000) : Calls Tryz.prog 86 #[.pointer (some ⟨g, 0, none⟩)] w fun e w' => e = .returned (.tuple #[.int .i64 lo, .int .i64 (-1)]) ∧ Mo w w' g ∧ RW w' g t (j + 2) c wr := by
  have hle := R0.out.rd.le
  have hbd := R0.out.rd.bd
  have hi0 := nx_lt (t := t) (i := i) (by omega)
  have z1 := Joins.cell_of_block R0.out.rd.blk 1
  simp [wrV] at z1
  go_enter Tryz.func86, Tryz.ntmps86
  have C1 := mustE (rdC R0) 123 (by decide) h
  go_wp2_with (go_at_call 63; with_reducible refine C1.mono ?_; rintro e w1 ⟨rfl, G1⟩; have R1 := rwOn R0 G1 (by omega))
  obtain ⟨n1, n2, n3, n4⟩ := number_bd hn
  have C2 := numberE (rdC R1) hn
  go_wp2_with (go_at_call 104; with_reducible refine C2.mono ?_; rintro e w2 ⟨rfl, G2⟩; have R2 := rwOn R1 G2 (by omega))
  have hj := nx_lt (t := t) (i := j + 1) (by omega)
  have m0 : max lo (-1) = lo := by omega
  have b1 : decide (1000 < lo) = false := by simp; omega
  have C3 := tookE (rdC R2) 44 (by decide) h1
  go_wp2_with (go_at_call 60; with_reducible refine C3.mono ?_; rintro e w3 ⟨rfl, G3⟩; have R3 := rwOn R2 G3 (by omega))
  have C4 := seesE (rdC R3) 125 125 true (by decide) (decide_eq_true (by omega))
  go_wp2_with (go_at_call 83; with_reducible refine C4.mono ?_; rintro e w4 ⟨rfl, G4⟩; have R4 := rwOn R3 G4 (by omega))
  have C5 := mustE (rdC R4) 125 (by decide) h2
  go_wp2_with (go_at_call 63; with_reducible refine C5.mono ?_; rintro e w5 ⟨rfl, G5⟩; have R5 := rwOn R4 G5 (by omega))
  go_ret2
  exact ⟨rfl, ((((G1.mo).trans G2.mo).trans G3.mo).trans G4.mo).trans G5.mo, R5.out⟩
set_option maxHeartbeats 1000000 in
theorem numbers86_c1 {g : Nat} {t : List Int} {i : Nat} {c : Cs} {w : World} {wr : Wr} (R0 : Hid (RW w g t i c wr)) (h : nx t i = 123) {lo : Int} {j : Nat} (hn : number t (i + 1) = .ok (lo, j)) (h1 : nx t j = 44) (h2 : nx t (j + 1) = 125) (hb : lo > 1000) : Calls Tryz.prog 86 #[.pointer (some ⟨g, 0, none⟩)] w fun e w' => e = .returned (.tuple #[.int .i64 lo, .int .i64 (-1)]) ∧ Mo w w' g ∧ RW w' g t (j + 2) c (note wr 43 i) := by
  have hle := R0.out.rd.le
  have hbd := R0.out.rd.bd
  have hi0 := nx_lt (t := t) (i := i) (by omega)
  have z1 := Joins.cell_of_block R0.out.rd.blk 1
  simp [wrV] at z1
  go_enter Tryz.func86, Tryz.ntmps86
  have C1 := mustE (rdC R0) 123 (by decide) h
  go_wp2_with (go_at_call 63; with_reducible refine C1.mono ?_; rintro e w1 ⟨rfl, G1⟩; have R1 := rwOn R0 G1 (by omega))
  obtain ⟨n1, n2, n3, n4⟩ := number_bd hn
  have C2 := numberE (rdC R1) hn
  go_wp2_with (go_at_call 104; with_reducible refine C2.mono ?_; rintro e w2 ⟨rfl, G2⟩; have R2 := rwOn R1 G2 (by omega))
  have hj := nx_lt (t := t) (i := j + 1) (by omega)
  have m0 : max lo (-1) = lo := by omega
  have b1 : decide (1000 < lo) = true := by simp; omega
  have C3 := tookE (rdC R2) 44 (by decide) h1
  go_wp2_with (go_at_call 60; with_reducible refine C3.mono ?_; rintro e w3 ⟨rfl, G3⟩; have R3 := rwOn R2 G3 (by omega))
  have C4 := seesE (rdC R3) 125 125 true (by decide) (decide_eq_true (by omega))
  go_wp2_with (go_at_call 83; with_reducible refine C4.mono ?_; rintro e w4 ⟨rfl, G4⟩; have R4 := rwOn R3 G4 (by omega))
  have C5 := mustE (rdC R4) 125 (by decide) h2
  go_wp2_with (go_at_call 63; with_reducible refine C5.mono ?_; rintro e w5 ⟨rfl, G5⟩; have R5 := rwOn R4 G5 (by omega))
  have C6 := note64 R5 43 i
  go_wp2_with (go_at_call 64; with_reducible refine C6.mono ?_; rintro e w6 ⟨rfl, M6, RR6⟩; have R6 := hid RR6)
  go_ret2
  exact ⟨rfl, (((((G1.mo).trans G2.mo).trans G3.mo).trans G4.mo).trans G5.mo).trans M6, R6.out⟩
set_option maxHeartbeats 1000000 in
theorem numbers86_d {g : Nat} {t : List Int} {i : Nat} {c : Cs} {w : World} {wr : Wr} (R0 : Hid (RW w g t i c wr)) (h : nx t i = 123) {lo : Int} {j : Nat} (hn : number t (i + 1) = .ok (lo, j)) (h1 : nx t j = 44) (h2 : ¬ nx t (j + 1) = 125) {k : Nat} (hm : number t (j + 1) = .error k) : Calls Tryz.prog 86 #[.pointer (some ⟨g, 0, none⟩)] w fun e w' => e = Gave k ∧ Mo w w' g := by
  have hle := R0.out.rd.le
  have hbd := R0.out.rd.bd
  have hi0 := nx_lt (t := t) (i := i) (by omega)
  have z1 := Joins.cell_of_block R0.out.rd.blk 1
  simp [wrV] at z1
  go_enter Tryz.func86, Tryz.ntmps86
  have C1 := mustE (rdC R0) 123 (by decide) h
  go_wp2_with (go_at_call 63; with_reducible refine C1.mono ?_; rintro e w1 ⟨rfl, G1⟩; have R1 := rwOn R0 G1 (by omega))
  obtain ⟨n1, n2, n3, n4⟩ := number_bd hn
  have C2 := numberE (rdC R1) hn
  go_wp2_with (go_at_call 104; with_reducible refine C2.mono ?_; rintro e w2 ⟨rfl, G2⟩; have R2 := rwOn R1 G2 (by omega))
  have hj := nx_lt (t := t) (i := j) (by omega)
  have C3 := tookE (rdC R2) 44 (by decide) h1
  go_wp2_with (go_at_call 60; with_reducible refine C3.mono ?_; rintro e w3 ⟨rfl, G3⟩; have R3 := rwOn R2 G3 (by omega))
  have C4 := seesE (rdC R3) 125 125 false (by decide) (decide_eq_false (by omega))
  go_wp2_with (go_at_call 83; with_reducible refine C4.mono ?_; rintro e w4 ⟨rfl, G4⟩; have R4 := rwOn R3 G4 (by omega))
  have C5 := numberN (rdC R4) hm
  go_wp2_with (go_at_call 104; with_reducible refine C5.mono ?_; rintro e w5 ⟨rfl, G5⟩)
  exact ⟨rfl, rfl, ((((G1.mo).trans G2.mo).trans G3.mo).trans G4.mo).trans G5.mo⟩
set_option maxHeartbeats 1000000 in
theorem numbers86_e {g : Nat} {t : List Int} {i : Nat} {c : Cs} {w : World} {wr : Wr} (R0 : Hid (RW w g t i c wr)) (h : nx t i = 123) {lo : Int} {j : Nat} (hn : number t (i + 1) = .ok (lo, j)) (h1 : nx t j = 44) (h2 : ¬ nx t (j + 1) = 125) {hi : Int} {k : Nat} (hm : number t (j + 1) = .ok (hi, k)) (h3 : ¬ nx t k = 125) : Calls Tryz.prog 86 #[.pointer (some ⟨g, 0, none⟩)] w fun e w' => e = Gave k ∧ Mo w w' g := by
  have hle := R0.out.rd.le
  have hbd := R0.out.rd.bd
  have hi0 := nx_lt (t := t) (i := i) (by omega)
  have z1 := Joins.cell_of_block R0.out.rd.blk 1
  simp [wrV] at z1
  go_enter Tryz.func86, Tryz.ntmps86
  have C1 := mustE (rdC R0) 123 (by decide) h
  go_wp2_with (go_at_call 63; with_reducible refine C1.mono ?_; rintro e w1 ⟨rfl, G1⟩; have R1 := rwOn R0 G1 (by omega))
  obtain ⟨n1, n2, n3, n4⟩ := number_bd hn
  have C2 := numberE (rdC R1) hn
  go_wp2_with (go_at_call 104; with_reducible refine C2.mono ?_; rintro e w2 ⟨rfl, G2⟩; have R2 := rwOn R1 G2 (by omega))
  obtain ⟨p1, p2, p3, p4⟩ := number_bd hm
  have hj := nx_lt (t := t) (i := j) (by omega)
  have C3 := tookE (rdC R2) 44 (by decide) h1
  go_wp2_with (go_at_call 60; with_reducible refine C3.mono ?_; rintro e w3 ⟨rfl, G3⟩; have R3 := rwOn R2 G3 (by omega))
  have C4 := seesE (rdC R3) 125 125 false (by decide) (decide_eq_false (by omega))
  go_wp2_with (go_at_call 83; with_reducible refine C4.mono ?_; rintro e w4 ⟨rfl, G4⟩; have R4 := rwOn R3 G4 (by omega))
  have C5 := numberE (rdC R4) hm
  go_wp2_with (go_at_call 104; with_reducible refine C5.mono ?_; rintro e w5 ⟨rfl, G5⟩; have R5 := rwOn R4 G5 (by omega))
  have C6 := mustN (rdC R5) 125 (by decide) h3
  go_wp2_with (go_at_call 63; with_reducible refine C6.mono ?_; rintro e w6 ⟨rfl, G6⟩)
  exact ⟨rfl, rfl, (((((G1.mo).trans G2.mo).trans G3.mo).trans G4.mo).trans G5.mo).trans G6.mo⟩
set_option maxHeartbeats 1000000 in
theorem numbers86_e0 {g : Nat} {t : List Int} {i : Nat} {c : Cs} {w : World} {wr : Wr} (R0 : Hid (RW w g t i c wr)) (h : nx t i = 123) {lo : Int} {j : Nat} (hn : number t (i + 1) = .ok (lo, j)) (h1 : nx t j = 44) (h2 : ¬ nx t (j + 1) = 125) {hi : Int} {k : Nat} (hm : number t (j + 1) = .ok (hi, k)) (h3 : nx t k = 125) (hb : ¬ (lo > 1000 ∨ hi > 1000 ∨ hi < lo)) : Calls Tryz.prog 86 #[.pointer (some ⟨g, 0, none⟩)] w fun e w' => e = .returned (.tuple #[.int .i64 lo, .int .i64 hi]) ∧ Mo w w' g ∧ RW w' g t (k + 1) c wr := by
  have hle := R0.out.rd.le
  have hbd := R0.out.rd.bd
  have hi0 := nx_lt (t := t) (i := i) (by omega)
  have z1 := Joins.cell_of_block R0.out.rd.blk 1
  simp [wrV] at z1
  go_enter Tryz.func86, Tryz.ntmps86
  have C1 := mustE (rdC R0) 123 (by decide) h
  go_wp2_with (go_at_call 63; with_reducible refine C1.mono ?_; rintro e w1 ⟨rfl, G1⟩; have R1 := rwOn R0 G1 (by omega))
  obtain ⟨n1, n2, n3, n4⟩ := number_bd hn
  have C2 := numberE (rdC R1) hn
  go_wp2_with (go_at_call 104; with_reducible refine C2.mono ?_; rintro e w2 ⟨rfl, G2⟩; have R2 := rwOn R1 G2 (by omega))
  obtain ⟨p1, p2, p3, p4⟩ := number_bd hm
  have hk := nx_lt (t := t) (i := k) (by omega)
  have b1 : decide (1000 < max lo hi) = false := by simp; omega
  have b2 : decide (0 ≤ hi) = true := by simp; omega
  have b3 : decide (hi < lo) = false := by simp; omega
  generalize hmx : max lo hi = mx at b1
  have HMX : Hid (max lo hi = mx) := hmx
  have hj := nx_lt (t := t) (i := j) (by omega)
  have C3 := tookE (rdC R2) 44 (by decide) h1
  go_wp2_with (go_at_call 60; with_reducible refine C3.mono ?_; rintro e w3 ⟨rfl, G3⟩; have R3 := rwOn R2 G3 (by omega))
  have C4 := seesE (rdC R3) 125 125 false (by decide) (decide_eq_false (by omega))
  go_wp2_with (go_at_call 83; with_reducible refine C4.mono ?_; rintro e w4 ⟨rfl, G4⟩; have R4 := rwOn R3 G4 (by omega))
  have C5 := numberE (rdC R4) hm
  go_wp2_with (go_at_call 104; with_reducible refine C5.mono ?_; rintro e w5 ⟨rfl, G5⟩; have R5 := rwOn R4 G5 (by omega))
  have C6 := mustE (rdC R5) 125 (by decide) h3
  go_wp2_with (go_at_call 63; with_reducible refine C6.mono ?_; rintro e w6 ⟨rfl, G6⟩; have R6 := rwOn R5 G6 (by omega))
  go_ret2
  exact ⟨rfl, (((((G1.mo).trans G2.mo).trans G3.mo).trans G4.mo).trans G5.mo).trans G6.mo, R6.out⟩
set_option maxHeartbeats 1000000 in
theorem numbers86_e1 {g : Nat} {t : List Int} {i : Nat} {c : Cs} {w : World} {wr : Wr} (R0 : Hid (RW w g t i c wr)) (h : nx t i = 123) {lo : Int} {j : Nat} (hn : number t (i + 1) = .ok (lo, j)) (h1 : nx t j = 44) (h2 : ¬ nx t (j + 1) = 125) {hi : Int} {k : Nat} (hm : number t (j + 1) = .ok (hi, k)) (h3 : nx t k = 125) (hb : lo > 1000 ∨ hi > 1000) : Calls Tryz.prog 86 #[.pointer (some ⟨g, 0, none⟩)] w fun e w' => e = .returned (.tuple #[.int .i64 lo, .int .i64 hi]) ∧ Mo w w' g ∧ RW w' g t (k + 1) c (note wr 43 i) := by
  have hle := R0.out.rd.le
  have hbd := R0.out.rd.bd
  have hi0 := nx_lt (t := t) (i := i) (by omega)
  have z1 := Joins.cell_of_block R0.out.rd.blk 1
  simp [wrV] at z1
  go_enter Tryz.func86, Tryz.ntmps86
  have C1 := mustE (rdC R0) 123 (by decide) h
  go_wp2_with (go_at_call 63; with_reducible refine C1.mono ?_; rintro e w1 ⟨rfl, G1⟩; have R1 := rwOn R0 G1 (by omega))
  obtain ⟨n1, n2, n3, n4⟩ := number_bd hn
  have C2 := numberE (rdC R1) hn
  go_wp2_with (go_at_call 104; with_reducible refine C2.mono ?_; rintro e w2 ⟨rfl, G2⟩; have R2 := rwOn R1 G2 (by omega))
  obtain ⟨p1, p2, p3, p4⟩ := number_bd hm
  have hk := nx_lt (t := t) (i := k) (by omega)
  have b1 : decide (1000 < max lo hi) = true := by simp; omega
  generalize hmx : max lo hi = mx at b1
  have HMX : Hid (max lo hi = mx) := hmx
  have hj := nx_lt (t := t) (i := j) (by omega)
  have C3 := tookE (rdC R2) 44 (by decide) h1
  go_wp2_with (go_at_call 60; with_reducible refine C3.mono ?_; rintro e w3 ⟨rfl, G3⟩; have R3 := rwOn R2 G3 (by omega))
  have C4 := seesE (rdC R3) 125 125 false (by decide) (decide_eq_false (by omega))
  go_wp2_with (go_at_call 83; with_reducible refine C4.mono ?_; rintro e w4 ⟨rfl, G4⟩; have R4 := rwOn R3 G4 (by omega))
  have C5 := numberE (rdC R4) hm
  go_wp2_with (go_at_call 104; with_reducible refine C5.mono ?_; rintro e w5 ⟨rfl, G5⟩; have R5 := rwOn R4 G5 (by omega))
  have C6 := mustE (rdC R5) 125 (by decide) h3
  go_wp2_with (go_at_call 63; with_reducible refine C6.mono ?_; rintro e w6 ⟨rfl, G6⟩; have R6 := rwOn R5 G6 (by omega))
  have C7 := note64 R6 43 i
  go_wp2_with (go_at_call 64; with_reducible refine C7.mono ?_; rintro e w7 ⟨rfl, M7, RR7⟩; have R7 := hid RR7)
  go_ret2
  exact ⟨rfl, ((((((G1.mo).trans G2.mo).trans G3.mo).trans G4.mo).trans G5.mo).trans G6.mo).trans M7, R7.out⟩
set_option maxHeartbeats 1000000 in
theorem numbers86_e2 {g : Nat} {t : List Int} {i : Nat} {c : Cs} {w : World} {wr : Wr} (R0 : Hid (RW w g t i c wr)) (h : nx t i = 123) {lo : Int} {j : Nat} (hn : number t (i + 1) = .ok (lo, j)) (h1 : nx t j = 44) (h2 : ¬ nx t (j + 1) = 125) {hi : Int} {k : Nat} (hm : number t (j + 1) = .ok (hi, k)) (h3 : nx t k = 125) (hb : ¬ (lo > 1000 ∨ hi > 1000) ∧ hi < lo) : Calls Tryz.prog 86 #[.pointer (some ⟨g, 0, none⟩)] w fun e w' => e = .returned (.tuple #[.int .i64 lo, .int .i64 hi]) ∧ Mo w w' g ∧ RW w' g t (k + 1) c (note wr 43 i) := by
  have hle := R0.out.rd.le
  have hbd := R0.out.rd.bd
  have hi0 := nx_lt (t := t) (i := i) (by omega)
  have z1 := Joins.cell_of_block R0.out.rd.blk 1
  simp [wrV] at z1
  go_enter Tryz.func86, Tryz.ntmps86
  have C1 := mustE (rdC R0) 123 (by decide) h
  go_wp2_with (go_at_call 63; with_reducible refine C1.mono ?_; rintro e w1 ⟨rfl, G1⟩; have R1 := rwOn R0 G1 (by omega))
  obtain ⟨n1, n2, n3, n4⟩ := number_bd hn
  have C2 := numberE (rdC R1) hn
  go_wp2_with (go_at_call 104; with_reducible refine C2.mono ?_; rintro e w2 ⟨rfl, G2⟩; have R2 := rwOn R1 G2 (by omega))
  obtain ⟨p1, p2, p3, p4⟩ := number_bd hm
  have hk := nx_lt (t := t) (i := k) (by omega)
  have b1 : decide (1000 < max lo hi) = false := by simp; omega
  have b2 : decide (0 ≤ hi) = true := by simp; omega
  have b3 : decide (hi < lo) = true := by simp; omega
  generalize hmx : max lo hi = mx at b1
  have HMX : Hid (max lo hi = mx) := hmx
  have hj := nx_lt (t := t) (i := j) (by omega)
  have C3 := tookE (rdC R2) 44 (by decide) h1
  go_wp2_with (go_at_call 60; with_reducible refine C3.mono ?_; rintro e w3 ⟨rfl, G3⟩; have R3 := rwOn R2 G3 (by omega))
  have C4 := seesE (rdC R3) 125 125 false (by decide) (decide_eq_false (by omega))
  go_wp2_with (go_at_call 83; with_reducible refine C4.mono ?_; rintro e w4 ⟨rfl, G4⟩; have R4 := rwOn R3 G4 (by omega))
  have C5 := numberE (rdC R4) hm
  go_wp2_with (go_at_call 104; with_reducible refine C5.mono ?_; rintro e w5 ⟨rfl, G5⟩; have R5 := rwOn R4 G5 (by omega))
  have C6 := mustE (rdC R5) 125 (by decide) h3
  go_wp2_with (go_at_call 63; with_reducible refine C6.mono ?_; rintro e w6 ⟨rfl, G6⟩; have R6 := rwOn R5 G6 (by omega))
  have C7 := note64 R6 43 i
  go_wp2_with (go_at_call 64; with_reducible refine C7.mono ?_; rintro e w7 ⟨rfl, M7, RR7⟩; have R7 := hid RR7)
  go_ret2
  exact ⟨rfl, ((((((G1.mo).trans G2.mo).trans G3.mo).trans G4.mo).trans G5.mo).trans G6.mo).trans M7, R7.out⟩
end Go.Proofs.YtenanfkmmkmolaaGreatDoor
