/- HELPERS: the contract of runes.appendParts. -/
import Derived.Test.YtjglehklfdhgaaaDoorCls
namespace Go.Proofs.YtjglehklfdhgaaaDoor
open Go.Shelf Go.RowKit Go.Lib Go.Sort Go.Mx
set_option linter.unusedVariables false
set_option linter.unusedSimpArgs false
/-- what a range has of the domain -/
def partsOf (g : Int × Int) : List (Int × Int) := (if g.1 < 55296 then [(g.1, min g.2 55295)] else []) ++ (if 57343 < g.2 then [(max g.1 57344, g.2)] else [])
theorem news_two (w : World) (a b : Value) (t : TypeId) (g : Nat) (hg : g = w.heap.size) : ∀ (j : Nat) (u : Value), [a, b][j]? = some u → (w.alloc (.cells #[a, b] t)).cell? ((⟨g, 0, none⟩ : Addr).add j) = some u := by
  intro j u h
  match j, h with
  | 0, h => simp at h; subst h; exact (World.cell?_alloc_at _ t g 0 hg).trans rfl
  | 1, h => simp at h; subst h; exact (World.cell?_alloc_at _ t g 1 hg).trans rfl
theorem two_cells_int (k : IntKind) (r s : Int) : ∀ u : Value, u ∈ [Value.int k r, Value.int k s] → u.oneCell' = true := by
  intro u hu; simp at hu; rcases hu with rfl | rfl <;> rfl
theorem box_kept {w w1 : World} {base size n : Nat} {e t : TypeId} {v : Value} {xs : List Value} {a b : Value} {o : Obj} (hown : w.ownsRow base e size v n xs) (hg : ((w.alloc (.cells #[a, b] t)).alloc o).grownBy w1 v.ownBlock) :
    w1.cell? ⟨w.heap.size, 0, none⟩ = some a ∧ w1.cell? ⟨w.heap.size, 1, none⟩ = some b := by
  have hne : some w.heap.size = v.ownBlock → False := fun e => by have := (hown.lt _ e.symm).2; omega
  have c0 : ((w.alloc (.cells #[a, b] t)).alloc o).cell? ⟨w.heap.size, 0, none⟩ = some a := (World.cell?_alloc_past _ _ _ (by simp)).trans ((World.cell?_alloc_at _ t _ 0 rfl).trans rfl)
  have c1 : ((w.alloc (.cells #[a, b] t)).alloc o).cell? ⟨w.heap.size, 1, none⟩ = some b := (World.cell?_alloc_past _ _ _ (by simp)).trans ((World.cell?_alloc_at _ t _ 1 rfl).trans rfl)
  exact ⟨hg.cell c0 hne, hg.cell c1 hne⟩
theorem below_append {w w1 : World} {base size n : Nat} {e : TypeId} {v : Value} {xs : List Value} {o o' : Obj} (hown : w.ownsRow base e size v n xs) (hb : base ≤ w.heap.size) (hg : ((w.alloc o).alloc o').grownBy w1 v.ownBlock) : Below base w w1 :=
  (((Below.refl _ _).alloc hb _).alloc (by simp; omega) _).grown hg (by simp; omega) (fun k hk => (hown.lt k hk).1)
theorem below_append1 {w w1 : World} {base size n : Nat} {e : TypeId} {v : Value} {xs : List Value} {o : Obj} (hown : w.ownsRow base e size v n xs) (hb : base ≤ w.heap.size) (hg : (w.alloc o).grownBy w1 v.ownBlock) : Below base w w1 :=
  ((Below.refl _ _).alloc hb _).grown hg (by simp; omega) (fun k hk => (hown.lt k hk).1)
set_option maxHeartbeats 1000000 in
set_option maxRecDepth 1000000 in
theorem parts56 (base : Nat) (L : List (Int × Int)) (n : Nat) (v : Value) (lo hi : Int) (w : World) (hown : w.ownsRow base 57 2 v n (fl L)) (hb : base ≤ w.heap.size) (hsz : n ≤ 4398046511104) :
    Calls Tryd.prog 56 #[v, .agg #[.int .i64 lo, .int .i64 hi]] w fun e w' => ∃ v' , e = .returned v' ∧ w'.ownsRow base 57 2 v' (n + (partsOf (lo, hi)).length) (fl (L ++ partsOf (lo, hi))) ∧ Below base w w' := by
  obtain ⟨i0, hi0, hz0, hz1, hz2⟩ := info_parts info57
  have hP : partsOf (lo, hi) = (if lo < 55296 then [(lo, min hi 55295)] else []) ++ (if 57343 < hi then [(max lo 57344, hi)] else []) := rfl
  by_cases h1 : lo < 55296
  · rw [if_pos h1] at hP
    by_cases h2 : 57343 < hi
    · rw [if_pos h2] at hP
      rw [hP, fl_append]
      clear hP
      go_enter Tryd.func56, Tryd.ntmps56
      go_wp2_with (first
        | (at_builtin; refine wpList_append_own _ rfl (.tmp 8) (.tmp 15) 42 rfl base 57 i0 (.agg #[.int .i64 0, .int .i64 0]) 2 16 Tryd.underlying42 hi0 hz0 hz1 hz2 rfl (by decide) v n _ rfl ((hown.alloc _).alloc _) ⟨w.heap.size + 1, 0, none⟩ 1 1 [.int .i64 lo, .int .i64 (min hi 55295)] rfl rfl (by exact news_two _ _ _ _ _ (by simp)) (two_cells_int _ _ _) (by unfold maxLen; omega) (by omega) (by simp; omega) ?_; intro v1 w1 ho1 hg1 _; obtain ⟨c0, c1⟩ := box_kept hown hg1; have hb1 := below_append hown hb hg1; have hs1 := hb1.size; clear hg1)
        | (at_builtin; refine wpList_append_own _ rfl (.tmp 20) (.tmp 27) 42 rfl base 57 i0 (.agg #[.int .i64 0, .int .i64 0]) 2 16 Tryd.underlying42 hi0 hz0 hz1 hz2 rfl (by decide) v1 (n + 1) _ rfl (ho1.alloc _) ⟨w1.heap.size, 0, none⟩ 1 1 [.int .i64 (max lo 57344), .int .i64 hi] rfl rfl (by exact news_two _ _ _ _ _ rfl) (two_cells_int _ _ _) (by unfold maxLen; omega) (by omega) (by simp; omega) ?_; intro v2 w2 ho2 hg2 _; have hb2 := hb1.trans (below_append1 ho1 (by omega) hg2); clear hg2))
      go_ret
      refine ⟨_, rfl, ?_, hb2⟩
      simpa [fl, encR, List.append_assoc] using ho2
    · rw [if_neg h2] at hP
      rw [hP, fl_append]
      clear hP
      go_enter Tryd.func56, Tryd.ntmps56
      go_wp2_with (first
        | (at_builtin; refine wpList_append_own _ rfl (.tmp 8) (.tmp 15) 42 rfl base 57 i0 (.agg #[.int .i64 0, .int .i64 0]) 2 16 Tryd.underlying42 hi0 hz0 hz1 hz2 rfl (by decide) v n _ rfl ((hown.alloc _).alloc _) ⟨w.heap.size + 1, 0, none⟩ 1 1 [.int .i64 lo, .int .i64 (min hi 55295)] rfl rfl (by exact news_two _ _ _ _ _ (by simp)) (two_cells_int _ _ _) (by unfold maxLen; omega) (by omega) (by simp; omega) ?_; intro v1 w1 ho1 hg1 _; obtain ⟨c0, c1⟩ := box_kept hown hg1; have hb1 := below_append hown hb hg1; have hs1 := hb1.size; clear hg1))
      go_ret
      refine ⟨_, rfl, ?_, hb1⟩
      simpa [fl, encR, List.append_assoc] using ho1
  · rw [if_neg h1] at hP
    by_cases h2 : 57343 < hi
    · rw [if_pos h2] at hP
      rw [hP, fl_append]
      clear hP
      go_enter Tryd.func56, Tryd.ntmps56
      go_wp2_with (first
        | (at_builtin; refine wpList_append_own _ rfl (.tmp 20) (.tmp 27) 42 rfl base 57 i0 (.agg #[.int .i64 0, .int .i64 0]) 2 16 Tryd.underlying42 hi0 hz0 hz1 hz2 rfl (by decide) v n _ rfl ((hown.alloc _).alloc _) ⟨w.heap.size + 1, 0, none⟩ 1 1 [.int .i64 (max lo 57344), .int .i64 hi] rfl rfl (by exact news_two _ _ _ _ _ (by simp)) (two_cells_int _ _ _) (by unfold maxLen; omega) (by omega) (by simp; omega) ?_; intro v1 w1 ho1 hg1 _; have hb1 := below_append hown hb hg1; have hs1 := hb1.size; clear hg1))
      go_ret
      refine ⟨_, rfl, ?_, hb1⟩
      simpa [fl, encR, List.append_assoc] using ho1
    · rw [if_neg h2] at hP
      rw [hP, fl_append]
      clear hP
      go_enter Tryd.func56, Tryd.ntmps56
      go_wp2
      go_ret
      refine ⟨_, rfl, ?_, (Below.refl _ _).alloc hb _⟩
      simpa [fl, encR, List.append_assoc] using hown.alloc _
end Go.Proofs.YtjglehklfdhgaaaDoor
