/- HELPERS: the contract of runes.Fold. -/
import Derived.Test.YtjglehklfdhgaaaDoorNegate
namespace Go.Proofs.YtjglehklfdhgaaaDoor
open Go.Shelf Go.RowKit Go.Lib Go.Sort Go.Mx
set_option linter.unusedVariables false
set_option linter.unusedSimpArgs false
/-- what a range has of some letters, moved -/
def movedOf (g : Int × Int) (a b st : Int) : List (Int × Int) := if min g.2 b < max g.1 a then [] else [(max g.1 a + st, min g.2 b + st)]
theorem box2_kept {w w1 : World} {base size n : Nat} {e t : TypeId} {v : Value} {xs : List Value} {o o' o'' : Obj} (hown : w.ownsRow base e size v n xs) (hb : base ≤ w.heap.size) (q : Nat) (hg : ((((w.alloc o).alloc o').drewN q).alloc o'').grownBy w1 v.ownBlock) : Below base w w1 :=
  ((below_drewN ((((Below.refl _ _).alloc hb _)).alloc (by simp; omega) _) q).alloc (by simp; omega) _).grown hg (by simp; omega) (fun k hk => (hown.lt k hk).1)
/-- what lay elsewhere lies there still -/
def KeepsBut (w w' : World) (o : Option Nat) : Prop := ∀ (p : Addr) (x : Value), p.block < w.heap.size → some p.block ≠ o → w.cell? p = some x → w'.cell? p = some x
theorem keeps2 (w : World) (o o' : Obj) (q : Nat) (r : Option Nat) : KeepsBut w (((w.alloc o).alloc o').drewN q) r := fun p x hp _ hx =>
  ((below_drewN (((Below.refl w.heap.size w).alloc (Nat.le_refl _) o).alloc (by simp) o') q).cell hp).trans hx
theorem keeps3 {w w1 : World} {o o' o'' : Obj} {r : Option Nat} (q : Nat) (hg : ((((w.alloc o).alloc o').drewN q).alloc o'').grownBy w1 r) : KeepsBut w w1 r := fun p x hp hne hx =>
  hg.cell ((((below_drewN (((Below.refl w.heap.size w).alloc (Nat.le_refl _) o).alloc (by simp) o') q).alloc (by simp; omega) o'').cell hp).trans hx) hne
set_option maxHeartbeats 2000000 in
set_option maxRecDepth 1000000 in
theorem moved48 (base : Nat) (P : List (Int × Int)) (n : Nat) (v : Value) (lo hi a b st : Int) (w : World) (hown : w.ownsRow base 57 2 v n (fl P)) (hb : base ≤ w.heap.size) (hsz : n ≤ 1000000)
    (hl0 : 0 ≤ lo) (hl1 : lo ≤ 1114111) (hh0 : 0 ≤ hi) (hh1 : hi ≤ 1114111) (ha0 : 0 ≤ a) (ha1 : a ≤ 1000) (hb0 : 0 ≤ b) (hb1 : b ≤ 1000) (hs0 : -1000 ≤ st) (hs1 : st ≤ 1000) :
    Calls Tryd.prog 48 #[v, .agg #[.int .i64 lo, .int .i64 hi], .agg #[.int .i64 a, .int .i64 b], .int .i64 st] w fun e w' => ∃ v', e = .returned v' ∧ w'.ownsRow base 57 2 v' (n + (movedOf (lo, hi) a b st).length) (fl (P ++ movedOf (lo, hi) a b st)) ∧ Below base w w' ∧ KeepsBut w w' v.ownBlock := by
  obtain ⟨i0, hi0, hz0, hz1, hz2⟩ := info_parts info57
  have hmx : 0 ≤ max lo a ∧ max lo a ≤ 1114111 := by omega
  have hmn : 0 ≤ min hi b ∧ min hi b ≤ 1114111 := by omega
  by_cases hc : min hi b < max lo a
  · have hm : movedOf (lo, hi) a b st = [] := by unfold movedOf; rw [if_pos hc]
    rw [hm]
    clear hm
    go_enter Tryd.func48, Tryd.ntmps48
    go_wp2
    go_quiet (fail)
    go_wp2
    go_ret
    refine ⟨_, rfl, by rw [List.append_nil]; exact (show (((w.alloc _).alloc _).drewN _).ownsRow base 57 2 v n (fl P) from (hown.alloc _).alloc _), below_drewN (((Below.refl _ _).alloc hb _).alloc (by simp; omega) _) _, keeps2 _ _ _ _ _⟩
  · have hm : movedOf (lo, hi) a b st = [(max lo a + st, min hi b + st)] := by unfold movedOf; rw [if_neg hc]
    rw [hm]
    clear hm
    go_enter Tryd.func48, Tryd.ntmps48
    go_wp2
    go_quiet (fail)
    go_wp2_with (at_builtin; refine wpList_append_own _ rfl (.tmp 25) (.tmp 33) 42 rfl base 57 i0 (.agg #[.int .i64 0, .int .i64 0]) 2 16 Tryd.underlying42 hi0 hz0 hz1 hz2 rfl (by decide) v n _ rfl (by exact (show ((((w.alloc _).alloc _).drewN nq).ownsRow base 57 2 v n (fl P)) from (hown.alloc _).alloc _).alloc _) ⟨w.heap.size + 2, 0, none⟩ 1 1 [.int .i64 (max lo a + st), .int .i64 (min hi b + st)] rfl rfl (by exact news_two _ _ _ _ _ (by simp)) (two_cells_int _ _ _) (by unfold maxLen; omega) (by omega) (by simp; omega) ?_; intro v1 w1 ho1 hg1 _)
    go_ret
    refine ⟨_, rfl, by rw [fl_one]; simpa using ho1, box2_kept (t := 57) hown hb nq hg1, keeps3 nq hg1⟩
/-- the other case of what a range has -/
def foldOf (g : Int × Int) : List (Int × Int) := movedOf g 65 90 32 ++ movedOf g 97 122 (-32)
def allFold (L : List (Int × Int)) : List (Int × Int) := (L.map foldOf).flatten
theorem moved_len (g : Int × Int) (a b st : Int) : (movedOf g a b st).length ≤ 1 := by unfold movedOf; split <;> simp
theorem moved_bd (g : Int × Int) (a b st : Int) (h0 : 0 ≤ a + st) (h1 : b + st ≤ 1114111) (h2 : 0 ≤ a) : bdB (movedOf g a b st) := by
  intro x hx
  unfold movedOf at hx
  split at hx
  · simp at hx
  · simp at hx; subst hx; simp only; omega
theorem allFold_bd (L : List (Int × Int)) : bdB (allFold L) := by
  induction L with
  | nil => intro g hg; simp [allFold] at hg
  | cons a t ih =>
    have h : allFold (a :: t) = foldOf a ++ allFold t := by simp [allFold]
    rw [h]
    exact bdB_append (bdB_append (moved_bd _ _ _ _ (by omega) (by omega) (by omega)) (moved_bd _ _ _ _ (by omega) (by omega) (by omega))) ih
theorem allFold_take (L : List (Int × Int)) (k : Nat) (h : k < L.length) : allFold (L.take (k + 1)) = allFold (L.take k) ++ foldOf (L.getD k (0, 0)) := by
  unfold allFold
  rw [List.take_succ_eq_append_getElem h, List.map_append, List.flatten_append]
  simp [List.getD, h]
def FoldEnd (N : Nat) (w w' : World) (e : Ending) (L : List (Int × Int)) : Prop := if rightB L = true then GatherEnd N w w' e (allParts (L ++ allFold L)) else e = .returned (.tuple #[.slice none 0 0, .int .i64 10]) ∧ Below N w w'
/-- gather of two lists -/
theorem gather_two (A B : List (Int × Int)) (u v : Value) (w : World) (N : Nat) (hA : RowAt N w u A) (hB : RowAt w.heap.size w v B) (hN : N ≤ w.heap.size) (hlen : (A ++ B).length ≤ 1000000) (hbd : bdB (A ++ B)) :
    Calls Tryd.prog 47 #[.slice (some ⟨w.heap.size, 0, none⟩) 2 2] (w.alloc (.cells #[u, v] 42)) fun e w' => GatherEnd (w.alloc (.cells #[u, v] 42)).heap.size (w.alloc (.cells #[u, v] 42)) w' e (allParts (A ++ B)) := by
  have hfl : [A, B].flatten = A ++ B := by simp
  have hc0 : (w.alloc (.cells #[u, v] 42)).cell? ⟨w.heap.size, 0 + 0, none⟩ = some u := (World.cell?_alloc_at _ _ _ 0 rfl).trans rfl
  have hc1 : (w.alloc (.cells #[u, v] 42)).cell? ⟨w.heap.size, 0 + 1, none⟩ = some v := (World.cell?_alloc_at _ _ _ 1 rfl).trans rfl
  have hA3 : RowAt (w.alloc (.cells #[u, v] 42)).heap.size (w.alloc (.cells #[u, v] 42)) u A := hA.below ((Below.refl w.heap.size w).alloc (Nat.le_refl _) _) hN (by simp; omega)
  have hB3 : RowAt (w.alloc (.cells #[u, v] 42)).heap.size (w.alloc (.cells #[u, v] 42)) v B := hB.below ((Below.refl w.heap.size w).alloc (Nat.le_refl _) _) (Nat.le_refl _) (by simp)
  have hg := gather47 [A, B] w.heap.size 0 2 2 1000000 (w.alloc (.cells #[u, v] 42)) rfl (by show ([A, B].flatten).length ≤ 1000000; rw [hfl]; exact hlen) (by omega) (by omega) (by show bdB [A, B].flatten; rw [hfl]; exact hbd) (by simp)
    (by intro j hj
        match j, hj with
        | 0, _ => exact ⟨_, hc0, hA3⟩
        | 1, _ => exact ⟨_, hc1, hB3⟩)
  rw [hfl] at hg
  exact hg
set_option maxHeartbeats 3000000 in
set_option maxRecDepth 1000000 in
theorem fold_ok (L : List (Int × Int)) (ad : Option Addr) (n cap : Nat) (w : World) (hn : Hid (n = L.length)) (hl : Hid (RowAt w.heap.size w (.slice ad n cap) L)) (hr : Hid (rightB L = true)) :
    Calls Tryd.prog 29 #[.slice ad n cap] w fun e w' => GatherEnd w.heap.size w w' e (allParts (L ++ allFold L)) := by
  have hlen := rightB_len hr.out
  rw [← hn.out] at hlen
  have hr1 := right25 L ad n cap w hn.out (by omega) hl.out
  rw [hr.out] at hr1
  go_enter Tryd.func29, Tryd.ntmps29
  go_wp2_with (go_at_call 25; refine hr1.mono ?_; rintro e w1 ⟨rfl, hb1⟩; have hs1 := hb1.size)
  go_loopw [4, 12] (fun v i wr => ∃ (k m : Nat) (P : List (Int × Int)), k ≤ n ∧ m ≤ 2 * k ∧ i = .int .i64 k ∧ wr.ownsRow w.heap.size 57 2 v m (fl P) ∧ Below w.heap.size w wr ∧ Hid (P = allFold (L.take k) ∧ m = P.length))
    (fun _ i _ => n - (intOf i).toNat)
  case atStart => exact ⟨0, 0, [], by omega, by omega, rfl, World.ownsRow_nil _ _ _ _, hb1, by exact ⟨by simp [allFold], rfl⟩⟩
  case round =>
    obtain ⟨k, m, P, hk, hm, rfl, hown, hbw, HR⟩ := hrel
    have hsz := hbw.size
    by_cases hlt : k < n
    · obtain ⟨ad', cap', he, h | ⟨b, off, rfl, hbN, hc0, hc1⟩⟩ := hl.out
      · exact absurd h (by rw [← hn.out]; omega)
      · have hn' := hn.out
        simp only [Value.slice.injEq] at he
        obtain ⟨rfl, -, rfl⟩ := he
        have d0 := (hbw.cell (p := ⟨b, off + k * 2, none⟩) hbN).trans (hc0 k (by omega))
        have d1 := (hbw.cell (p := ⟨b, off + k * 2 + 1, none⟩) hbN).trans (hc1 k (by omega))
        have htk := allFold_take L k (by omega)
        rw [← HR.out.1] at htk
        have hdm := right_at L 0 k (by have := hr.out; unfold rightB at this; rw [Bool.and_eq_true] at this; exact this.2) (by omega)
        generalize L.getD k (0, 0) = g at d0 d1 htk hdm
        obtain ⟨lo, hi⟩ := g
        simp only at d0 d1 hdm
        obtain ⟨hl0, hl1⟩ : 0 ≤ lo ∧ lo ≤ 1114111 := by have := hdm.1; simp [dom] at this; omega
        obtain ⟨hh0, hh1⟩ : 0 ≤ hi ∧ hi ≤ 1114111 := by have := hdm.2; simp [dom] at this; omega
        have HR2 : Hid (allFold (L.take (k + 1)) = P ++ foldOf (lo, hi) ∧ m = P.length) := ⟨htk, HR.out.2⟩
        clear htk HR hc0 hc1 hn' hdm
        have hm1 := moved_len (lo, hi) 65 90 32
        have hm2 := moved_len (lo, hi) 97 122 (-32)
        have q0 : (wr.alloc (.cells #[.int .i64 lo, .int .i64 hi] 57)).cell? ⟨wr.heap.size, 0, none⟩ = some (.int .i64 lo) := (World.cell?_alloc_at _ _ _ 0 rfl).trans rfl
        have q1 : (wr.alloc (.cells #[.int .i64 lo, .int .i64 hi] 57)).cell? ⟨wr.heap.size, 1, none⟩ = some (.int .i64 hi) := (World.cell?_alloc_at _ _ _ 1 rfl).trans rfl
        have hc1 := moved48 w.heap.size P m _ lo hi 65 90 32 (wr.alloc (.cells #[.int .i64 lo, .int .i64 hi] 57)) (hown.alloc _) (by simp; omega) (by omega) hl0 hl1 hh0 hh1 (by omega) (by omega) (by omega) (by omega) (by omega) (by omega)
        generalize hM1 : movedOf (lo, hi) 65 90 32 = M1 at hc1 hm1
        go_wp2_with fail
        refine hc1.mono ?_
        rintro e w2 ⟨v2, rfl, ho2, hb2, hk2⟩
        have hne : some wr.heap.size ≠ Value.ownBlock _ := fun e => by have := (hown.lt _ e.symm).2; omega
        have c0 := hk2 ⟨wr.heap.size, 0, none⟩ _ (by simp) hne q0
        have c1 := hk2 ⟨wr.heap.size, 1, none⟩ _ (by simp) hne q1
        have hbw2 : Below w.heap.size w w2 := (hbw.alloc hsz _).trans hb2
        have hs2 := hbw2.size
        have hc2 := moved48 w.heap.size (P ++ M1) (m + M1.length) v2 lo hi 97 122 (-32) w2 ho2 hs2 (by omega) hl0 hl1 hh0 hh1 (by omega) (by omega) (by omega) (by omega) (by omega) (by omega)
        generalize hM2 : movedOf (lo, hi) 97 122 (-32) = M2 at hc2 hm2
        clear hk2 hne q0 q1
        go_wp2_with fail
        refine hc2.mono ?_
        rintro e w3 ⟨v3, rfl, ho3, hb3, hk3⟩
        clear hk3
        go_wp2
        go_roundw
        case rel => exact ⟨k + 1, m + M1.length + M2.length, P ++ M1 ++ M2, by omega, by omega, by go_num, ho3, hbw2.trans hb3, by exact ⟨by rw [HR2.out.1, foldOf, hM1, hM2, List.append_assoc], by rw [List.length_append, List.length_append, ← HR2.out.2]⟩⟩
        case measure => simp [intOf]; omega
    · obtain rfl : k = n := by omega
      have hR := HR.out
      rw [List.take_of_length_le (by rw [← hn.out]; exact Nat.le_refl _)] at hR
      obtain ⟨rfl, hmP⟩ := hR
      have hfl : [L, allFold L].flatten = L ++ allFold L := by simp
      have hrow := row_own hmP hown
      have hA3 : RowAt wr.heap.size wr (.slice ad k cap) L := hl.out.below hbw (Nat.le_refl _) hsz
      have hlr := rightB_len hr.out
      have hln : (L ++ allFold L).length ≤ 1000000 := by rw [List.length_append, ← hmP]; omega
      have hbd : bdB (L ++ allFold L) := bdB_append (rightB_bd hr.out) (allFold_bd L)
      have hgt := fun v (hv : RowAt wr.heap.size wr v (allFold L)) => gather_two L (allFold L) (.slice ad k cap) v wr wr.heap.size hA3 hv (Nat.le_refl _) hln hbd
      clear hfl hA3 hln hbd hmP
      rcases Joins.ownsRow_forms hown with ⟨rfl, h0⟩ | ⟨g1, cp1, rfl⟩
      · have hg := hgt _ hrow
        clear hgt hrow
        go_wp2_with (go_at_call 47; refine hg.mono ?_; intro e w4 hG; obtain ⟨v4, c4, rfl⟩ := hG.form)
        go_ret2
        exact hG.low (hbw.alloc hsz _) (by simp; omega)
      · have hg := hgt _ hrow
        clear hgt hrow
        go_wp2_with (go_at_call 47; refine hg.mono ?_; intro e w4 hG; obtain ⟨v4, c4, rfl⟩ := hG.form)
        go_ret2
        exact hG.low (hbw.alloc hsz _) (by simp; omega)
set_option maxHeartbeats 1000000 in
theorem fold_bad (L : List (Int × Int)) (ad : Option Addr) (n cap : Nat) (w : World) (hn : Hid (n = L.length)) (hS2 : n ≤ 17592186044416) (hl : Hid (RowAt w.heap.size w (.slice ad n cap) L)) (hr : Hid (rightB L = false)) :
    Calls Tryd.prog 29 #[.slice ad n cap] w fun e w' => e = .returned (.tuple #[.slice none 0 0, .int .i64 10]) ∧ Below w.heap.size w w' := by
  have hr1 := right25 L ad n cap w hn.out hS2 hl.out
  rw [hr.out] at hr1
  go_enter Tryd.func29, Tryd.ntmps29
  go_wp2_with (go_at_call 25; refine hr1.mono ?_; rintro e w1 ⟨rfl, hb1⟩)
  go_ret2
  exact ⟨rfl, hb1⟩
theorem fold29 (L : List (Int × Int)) (ad : Option Addr) (n cap : Nat) (w : World) (hn : n = L.length) (hS2 : n ≤ 17592186044416) (hl : RowAt w.heap.size w (.slice ad n cap) L) :
    Calls Tryd.prog 29 #[.slice ad n cap] w fun e w' => FoldEnd w.heap.size w w' e L := by
  unfold FoldEnd
  cases hr : rightB L
  · simp only [Bool.false_eq_true, if_false]
    exact fold_bad L ad n cap w hn hS2 hl hr
  · simp only [if_true]
    exact fold_ok L ad n cap w hn hl hr
end Go.Proofs.YtjglehklfdhgaaaDoor
