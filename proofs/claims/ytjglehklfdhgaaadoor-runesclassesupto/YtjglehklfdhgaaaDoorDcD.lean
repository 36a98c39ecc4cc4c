/- HELPERS: the document's side of classes: lay over nothing. -/
import Derived.Test.YtjglehklfdhgaaaDoorDcC
import Derived.Laws.AppendOwnNone
namespace Go.Proofs.YtjglehklfdhgaaaDoor
open Go.RowKit Go.Mx
set_option linter.unusedVariables false
set_option linter.unusedSimpArgs false
set_option maxHeartbeats 4000000 in
set_option maxRecDepth 1000000 in
theorem lay_none (x : Int × Int) (w : World) :
    Calls Tryd.prog 62 #[.slice none 0 0, .agg #[.int .i64 x.1, .int .i64 x.2]] w fun e w' => ∃ v, e = .returned v ∧ w'.ownsRow w.heap.size 57 2 v 1 (fl [x]) ∧ Below w.heap.size w w' := by
  obtain ⟨i0, hi0, hz0, hz1, hz2⟩ := info_parts info57
  obtain ⟨xl, xh⟩ := x
  simp only
  have hd : decide ((0 : Int) < 0) = false := by simp
  go_enter Tryd.func62, Tryd.ntmps62
  go_wp2
  refine wp_loop_rounds 1 ?_
  rw [rounds_succ]
  go_wp2
  go_quiet (fail)
  go_wp2
  refine wp_loop_rounds 1 ?_
  rw [rounds_succ]
  go_wp2
  go_quiet (fail)
  go_wp2_with (first
    | (at_builtin; refine wpList_append_own _ rfl (.tmp 66) (.tmp 68) 42 rfl w.heap.size 57 i0 (.agg #[.int .i64 0, .int .i64 0]) 2 16 Tryd.underlying42 hi0 hz0 hz1 hz2 rfl (by decide) _ 0 [] rfl (World.ownsRow_nil _ _ _ _) ⟨w.heap.size + 1, 0, none⟩ 1 1 [.int .i64 xl, .int .i64 xh] rfl rfl (by exact news_two _ _ _ _ _ (by simp)) (two_cells_int _ _ _) (by unfold maxLen; omega) (by omega) (by simp <;> omega) ?_; intro v4 w4 ho4 hg4 _)
    | (at_builtin; refine wpList_append_own_none rfl (.tmp 70) (.tmp 73) 42 rfl w.heap.size 57 i0 2 Tryd.underlying42 hi0 _ 1 _ rfl ho4 rfl ?_))
  go_ret
  refine ⟨_, rfl, by simpa [fl, encR] using ho4, ?_⟩
  exact ((below_drewN ((Below.refl _ _).alloc (Nat.le_refl _) _) _).alloc (by simp) _).grown hg4 (by simp <;> omega) (fun k hk => by simp [Act.eval, Value.ownBlock] at hk)
/-- lay over a row that is nil or the call's own -/
theorem lay_own (L : List (Int × Int)) (x : Int × Int) (B n : Nat) (v : Value) (w : World) (hn : n = L.length) (ho : w.ownsRow B 57 2 v n (fl L)) (hB : inB L) (hx : inB [x]) (hS : n ≤ 100000000) :
    Calls Tryd.prog 62 #[v, .agg #[.int .i64 x.1, .int .i64 x.2]] w fun e w' => ∃ v', e = .returned v' ∧ w'.ownsRow w.heap.size 57 2 v' (layL L x).length (fl (layL L x)) ∧ Below w.heap.size w w' := by
  have hr := row_own hn ho
  rcases ho.2 with ⟨rfl, h0⟩ | ⟨g, cap, cur, rfl, hb, hg, hnc, hcm, _⟩
  · have hL : L = [] := List.eq_nil_of_length_eq_zero (by omega)
    subst hL
    exact lay_none x w
  · unfold maxLen at hcm
    obtain ⟨ad', cap', he, h⟩ := hr
    simp only [Value.slice.injEq] at he
    obtain ⟨rfl, -, rfl⟩ := he
    rcases h with h | ⟨b, off, hab, hbN, hc0, hc1⟩
    · have hlt : g < w.heap.size := (ho.lt g rfl).2
      exact lay62 L x g 0 n cap w hn.symm hS hlt (fun k hk => by omega) (fun k hk => by omega) hB hx hnc (by omega)
    · simp only [Option.some.injEq, Addr.mk.injEq, and_true] at hab
      obtain ⟨rfl, rfl⟩ := hab
      exact lay62 L x g 0 n cap w hn.symm hS hbN hc0 hc1 hB hx hnc (by omega)
end Go.Proofs.YtjglehklfdhgaaaDoor
