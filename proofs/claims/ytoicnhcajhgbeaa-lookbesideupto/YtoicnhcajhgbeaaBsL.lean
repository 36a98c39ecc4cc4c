/- HELPERS: the walk of LookBeside: what its ways share. -/
import Derived.Test.YtoicnhcajhgbeaaPutL
namespace Go.Proofs.Ytoicnhcajhgbeaa
open Go.RowKit Go.Lk
set_option linter.unusedVariables false
set_option linter.unusedSimpArgs false
theorem holdS (k : Nat) (hk : k < 6) (A c : Int) (hc : c = ((2 ^ k : Nat) : Int)) (R : Bool) (hR : has6 k A = R) (w : World) : Calls Try.prog 13 #[.int .i64 c, .int .i64 A] w fun e w' => e = .returned (.bool R) ∧ w' = w := by
  have h := hold_row k hk A w c hc
  rw [hR] at h
  exact h
theorem has_sum (b1 b2 b3 b4 b5 : Bool) : has6 0 (sumB b1 b2 b3 b4 b5 6) = b1 ∧ has6 1 (sumB b1 b2 b3 b4 b5 6) = b2 ∧ has6 2 (sumB b1 b2 b3 b4 b5 6) = b3 ∧ has6 3 (sumB b1 b2 b3 b4 b5 6) = b4 ∧ has6 4 (sumB b1 b2 b3 b4 b5 6) = b5 ∧ has6 5 (sumB b1 b2 b3 b4 b5 6) = !b5 := by
  cases b1 <;> cases b2 <;> cases b3 <;> cases b4 <;> cases b5 <;> decide +kernel
theorem wpList_append_one {ops : Array Oper} {rest : List Oper} {o : Oper} {a : Act} {w : World} {Q : Exit → Act → World → Prop} (hgd : o.guard = none) (s x : Operand)
    (ho : o.op = .call { callee := .builtin .append, args := #[s, x], argTypes := #[22, 22] }) (base : Nat) (v : Value) (n : Nat) (xs : List Int) (hs : a.eval s = v) (hown : w.ownsRow base 3 1 v n (I64 xs))
    (y : Int) (hx : a.eval x = .slice (some ⟨w.heap.size, 0, none⟩) 1 1) (hb : n ≤ 17592186044415) (hbase : base ≤ w.heap.size) (w0 : World) (hB : Below base w0 w)
    (h : ∀ v' w', Hid (w'.ownsRow base 3 1 v' (n + 1) (I64 (xs ++ [y]))) → Below base w0 w' → wpList Try.prog ops Q rest (a.put o.dst v') w') : wpList Try.prog ops Q (o :: rest) a (w.alloc (.cells #[.int .i64 y] 3)) := by
  obtain ⟨i0, hi, hz0, hz1, hz2⟩ := info_parts info3
  refine wpList_append_own _ hgd s x 22 ho base 3 i0 (.int .i64 0) 1 8 Try.underlying22 hi hz0 hz1 hz2 rfl (by decide) v n _ hs (hown.alloc _) ⟨w.heap.size, 0, none⟩ 1 1 [.int .i64 y] hx rfl (by exact news_one _ _ _ _ rfl) (one_cell_int _ _) (by unfold maxLen; omega) (by omega) (by simp; omega) ?_
  intro v' w' ho' hg' _
  refine h v' w' ?_ (hB.trans (below_app1 hown hbase hg'))
  show w'.ownsRow base 3 1 v' (n + 1) (I64 (xs ++ [y]))
  rw [show I64 (xs ++ [y]) = I64 xs ++ [.int .i64 y] from List.map_append]
  exact ho'
set_option maxHeartbeats 2000000 in
theorem beside_out (l : List Int) (ad ao : Option Addr) (n cap no co : Nat) (p : Int) (w0 : World) (h : p < 0 ∨ (n : Int) < p) :
    Calls Try.prog 5 #[.slice ad n cap, .int .i64 p, .slice ao no co] w0 fun e w' => e = .returned (.bool true) ∧ Below w0.heap.size w0 w' := by
  have haw := awake8 w0
  have hat := fun w => at_out l ad n cap p w h
  by_cases h1 : p < 0
  · clear h
    go_enter Try.func5, Try.ntmps5
    go_wp2_with fail
    refine haw.mono ?_
    rintro e w ⟨rfl, hb0⟩
    go_wp2_with fail
    refine (hat _).mono ?_
    rintro e w' ⟨rfl, hb1⟩
    go_wp2
    go_ret
    exact ⟨rfl, hb0.trans (hb1.mono hb0.size)⟩
  · have h2 : (n : Int) < p := by omega
    clear h
    go_enter Try.func5, Try.ntmps5
    go_wp2_with fail
    refine haw.mono ?_
    rintro e w ⟨rfl, hb0⟩
    go_wp2_with fail
    refine (hat _).mono ?_
    rintro e w' ⟨rfl, hb1⟩
    go_wp2
    go_ret
    exact ⟨rfl, hb0.trans (hb1.mono hb0.size)⟩
/-- the two runes beside a place -/
theorem beside_eq (l pre suf : List Int) (p : Nat) (hp : p ≤ l.length) (h1 : 0 < p ↔ 0 < pre.length) (h2 : p < l.length ↔ 0 < suf.length)
    (ha : 0 < p → l.getD (p - 1) 0 = pre.getD (pre.length - 1) 0) (hh : p < l.length → l.getD p 0 = suf.getD 0 0) : atP l p = atP (pre ++ suf) pre.length :=
  at_same l (pre ++ suf) p pre.length hp (by simp) (by omega) (by rw [List.length_append]; omega) (fun h => by rw [ha h, getD_left pre suf _ (by have := h1.1 h; omega)]) (fun h => by rw [hh h, getD_right pre suf 0 _ (by omega)])
end Go.Proofs.Ytoicnhcajhgbeaa
