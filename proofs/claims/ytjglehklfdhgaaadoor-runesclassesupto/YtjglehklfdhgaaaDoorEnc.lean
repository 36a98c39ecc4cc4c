/- HELPERS: the contract of runes.appendRune. -/
import Derived.Test.YtjglehklfdhgaaaDoorCut
import Derived.Deep.RegionLawGrows
import Derived.Lib.SmallJoins
namespace Go.Proofs.YtjglehklfdhgaaaDoor
open Go.RowKit Go.Mx
set_option linter.unusedVariables false
set_option linter.unusedSimpArgs false
/-- append onto a row that the call owns, as one step of a region that draws -/
theorem step_append_own {P : Program} {ops : Array Oper} {o : Oper} {a : Act} {w : World} {K : Act → World → Prop} {Q : Exit → Act → World → Prop} {E : Prop}
    (hg : o.guard = none) (s x : Operand) (t : TypeId) (hop : o.op = Op.call { callee := Callee.builtin Builtin.append, args := #[s, x], argTypes := #[t, t] })
    (base : Nat) (e : TypeId) (i : TypeInfo) (z : Value) (size bytes : Nat) (h1 : P.underlying t = some (.slice e)) (h2 : P.info? e = some i) (h3 : i.zero = some z) (h4 : i.size = size) (h5 : i.bytes = bytes) (h6 : z.cells.size = size) (h7 : 0 < size)
    (v : Value) (n : Nat) (xs : List Value) (hs : a.eval s = v) (hown : w.ownsRow base e size v n xs)
    (ad : Addr) (m c : Nat) (news : List Value) (hx : a.eval x = .slice (some ad) m c) (hn : news.length = m * size) (hc : ∀ j u, news[j]? = some u → w.cell? (ad.add j) = some u) (h1c : ∀ u ∈ news, u.oneCell' = true)
    (b1 : n + m ≤ maxLen) (b2 : (n + m) * bytes ≤ 140737488355328) (hb : base ≤ w.heap.size)
    (hK : ∀ v' w', w'.ownsRow base e size v' (n + m) (xs ++ news) → w.grownBy w' v.ownBlock → K (a.put o.dst v') w') :
    if Region.wanted o (yielded ops a.tmps) = true then Oper.wp P o a w K Q else E := by
  have hw : Region.wanted o (yielded ops a.tmps) = true := by simp [Region.wanted, hg]
  rw [if_pos hw]
  obtain ⟨v', w', hrun, r1, r2, _⟩ := run_append_own (P := P) w base t o.type e i z size bytes h1 h2 h3 h4 h5 h6 h7 v n xs hown ad m c news hn hc h1c b1 b2 hb
  unfold Oper.wp
  simp [execOp, hop, resolve, invoke, builtin, hs, hx, hrun, Result.andThen]
  exact hK v' w' r1 r2
theorem info5 : (Tryd.prog.info? 5).map (fun i => (i.zero, i.size, i.bytes)) = some (some (.int .u8 0), 1, 1) := by kernel_rfl
abbrev U8 (l : List Int) : List Value := l.map (Value.int .u8)
def enc (r : Int) : List Int :=
  if r < 128 then [r] else if r < 2048 then [192 + r / 64, 128 + r % 64] else if r < 65536 then [224 + r / 4096, 128 + r / 64 % 64, 128 + r % 64] else [240 + r / 262144, 128 + r / 4096 % 64, 128 + r / 64 % 64, 128 + r % 64]
theorem and63b (x : Int) (h0 : 0 ≤ x) (h1 : x < 2097152) : bits .and .i64 x 63 = x % 64 := bits_mask .i64 40 (by decide) i64_small 6 (by decide) x h0 (by omega)
theorem or0 (y : Int) (h0 : 0 ≤ y) (h1 : y < 64) : bits .or .i64 0 y = y := by have := or6 0 y (by omega) (by omega) (by omega) h0 h1; omega
theorem or0b (y : Int) (h0 : 0 ≤ y) (h1 : y < 128) : bits .or .i64 0 y = y := by
  have := bits_join .i64 40 (by decide) i64_small 7 0 y (by omega) (by omega) (by omega) h0 (by omega) (by omega)
  omega
theorem or4 (y : Int) (h0 : 0 ≤ y) (h1 : y < 16) : bits .or .i64 224 y = 224 + y := bits_join .i64 40 (by decide) i64_small 4 224 y (by decide) (by decide) (by decide) h0 h1 (by omega)
theorem or3 (y : Int) (h0 : 0 ≤ y) (h1 : y < 8) : bits .or .i64 240 y = 240 + y := bits_join .i64 40 (by decide) i64_small 3 240 y (by decide) (by decide) (by decide) h0 h1 (by omega)
theorem below_app {w w1 : World} {base size n : Nat} {e : TypeId} {v : Value} {xs : List Value} {o : Obj} (hown : w.ownsRow base e size v n xs) (hb : base ≤ w.heap.size) (hg : (w.alloc o).drew.grownBy w1 v.ownBlock) : Below base w w1 :=
  (((Below.refl _ _).alloc hb _).drew).grown hg (by simp; omega) (fun k hk => (hown.lt k hk).1)
theorem below_app1 {w w1 : World} {base size n : Nat} {e : TypeId} {v : Value} {xs : List Value} {o : Obj} (hown : w.ownsRow base e size v n xs) (hb : base ≤ w.heap.size) (hg : (w.alloc o).grownBy w1 v.ownBlock) : Below base w w1 :=
  ((Below.refl _ _).alloc hb _).grown hg (by simp; omega) (fun k hk => (hown.lt k hk).1)
theorem u8_in (x : Int) (h0 : 0 ≤ x) (h1 : x < 256) : IntKind.u8.wrap x = x := by rw [IntKind.wrap_u8]; omega
set_option maxHeartbeats 1000000 in
set_option maxRecDepth 1000000 in
theorem app1 (base : Nat) (L : List Int) (n : Nat) (v : Value) (r : Int) (w : World) (hT : Tabs w) (hown : w.ownsRow base 5 1 v n (U8 L)) (hb : base ≤ w.heap.size) (hsz : n ≤ 100000000) (h0 : 0 ≤ r) (h1 : r < 128) :
    Calls Tryd.prog 45 #[v, .int .i64 r] w fun e w' => ∃ v', e = .returned v' ∧ w'.ownsRow base 5 1 v' (n + 1) (U8 L ++ [.int .u8 (r)]) ∧ Below base w w' := by
  obtain ⟨i0, hi0, hz0, hz1, hz2⟩ := info_parts info5
  have f2 := hT.2 8 (by decide)
  have f3 := hT.2 11 (by decide)
  have f4 := hT.2 14 (by decide)
  have m2 := hT.2 3 (by decide)
  simp only [TabF, List.getD_cons_succ, List.getD_cons_zero] at f2 f3 f4 m2
  clear hT
  have e1 := or0b r (by omega) (by omega)
  go_enter Tryd.func45, Tryd.ntmps45
  go_wp2
  refine wp_loop_rounds 1 ?_
  rw [rounds_succ]
  go_wp2
  go_region_law (refine step_append_own rfl (.tmp 24) (.tmp 34) 25 rfl base 5 i0 (.int .u8 0) 1 1 Tryd.underlying25 hi0 hz0 hz1 hz2 rfl (by decide) v n _ (by simp [Act.eval, Act.put]) (by exact (hown.alloc _).drew) ⟨w.heap.size, 0, none⟩ 1 1 [.int .u8 (IntKind.u8.wrap (r))] (by simp [Act.eval, Act.put]) rfl (by intro j u hj; exact news_one w _ 5 _ rfl j u hj) (one_cell_int _ _) (by unfold maxLen; omega) (by omega) (by simp; omega) ?_; intro v1 w1 ho1 hg1)
  have hb1 := below_app hown hb hg1
  have hs1 := hb1.size
  rw [u8_in _ (by omega) (by omega)] at ho1
  clear hg1
  go_wp2
  refine wp_loop_rounds 1 ?_
  rw [rounds_succ]
  go_wp2
  go_ret
  exact ⟨_, rfl, by simpa [List.append_assoc] using ho1, hb1⟩
set_option maxHeartbeats 1000000 in
set_option maxRecDepth 1000000 in
theorem app2 (base : Nat) (L : List Int) (n : Nat) (v : Value) (r : Int) (w : World) (hT : Tabs w) (hown : w.ownsRow base 5 1 v n (U8 L)) (hb : base ≤ w.heap.size) (hsz : n ≤ 100000000) (h0 : 128 ≤ r) (h1 : r < 2048) :
    Calls Tryd.prog 45 #[v, .int .i64 r] w fun e w' => ∃ v', e = .returned v' ∧ w'.ownsRow base 5 1 v' (n + 2) (U8 L ++ [.int .u8 (192 + r / 64), .int .u8 (128 + r % 64)]) ∧ Below base w w' := by
  obtain ⟨i0, hi0, hz0, hz1, hz2⟩ := info_parts info5
  have f2 := hT.2 8 (by decide)
  have f3 := hT.2 11 (by decide)
  have f4 := hT.2 14 (by decide)
  have m2 := hT.2 6 (by decide)
  simp only [TabF, List.getD_cons_succ, List.getD_cons_zero] at f2 f3 f4 m2
  clear hT
  have e1 := or6 192 (r / 64) (by omega) (by omega) (by omega) (by omega) (by omega)
  have a2 := and63b (r) (by omega) (by omega)
  have o2 := or6 128 (r % 64) (by omega) (by omega) (by omega) (by omega) (by omega)
  go_enter Tryd.func45, Tryd.ntmps45
  go_wp2
  refine wp_loop_rounds 2 ?_
  rw [rounds_succ]
  go_wp2
  rw [rounds_succ]
  go_wp2
  go_region_law (refine step_append_own rfl (.tmp 24) (.tmp 34) 25 rfl base 5 i0 (.int .u8 0) 1 1 Tryd.underlying25 hi0 hz0 hz1 hz2 rfl (by decide) v n _ (by simp [Act.eval, Act.put]) (by exact (hown.alloc _).drew) ⟨w.heap.size, 0, none⟩ 1 1 [.int .u8 (IntKind.u8.wrap (192 + r / 64))] (by simp [Act.eval, Act.put]) rfl (by intro j u hj; exact news_one w _ 5 _ rfl j u hj) (one_cell_int _ _) (by unfold maxLen; omega) (by omega) (by simp; omega) ?_; intro v1 w1 ho1 hg1)
  have hb1 := below_app hown hb hg1
  have hs1 := hb1.size
  rw [u8_in _ (by omega) (by omega)] at ho1
  clear hg1
  go_wp2
  refine wp_loop_rounds 2 ?_
  rw [rounds_succ]
  go_wp2_with (at_builtin; refine wpList_append_own _ rfl (.tmp 40) (.tmp 47) 25 rfl base 5 i0 (.int .u8 0) 1 1 Tryd.underlying25 hi0 hz0 hz1 hz2 rfl (by decide) v1 (n + 1) _ rfl (ho1.alloc _) ⟨w1.heap.size, 0, none⟩ 1 1 [.int .u8 (128 + r % 64)] rfl rfl (by exact news_one _ _ _ _ rfl) (one_cell_int _ _) (by unfold maxLen; omega) (by omega) (by simp; omega) ?_; intro v2 w2 ho2 hg2 _; have hb2 := hb1.trans (below_app1 ho1 (by omega) hg2); have hs2 := hb2.size; clear hg2)
  rw [rounds_succ]
  go_wp2
  go_ret
  exact ⟨_, rfl, by simpa [List.append_assoc] using ho2, hb2⟩
set_option maxHeartbeats 1000000 in
set_option maxRecDepth 1000000 in
theorem app3 (base : Nat) (L : List Int) (n : Nat) (v : Value) (r : Int) (w : World) (hT : Tabs w) (hown : w.ownsRow base 5 1 v n (U8 L)) (hb : base ≤ w.heap.size) (hsz : n ≤ 100000000) (h0 : 2048 ≤ r) (h1 : r < 65536) :
    Calls Tryd.prog 45 #[v, .int .i64 r] w fun e w' => ∃ v', e = .returned v' ∧ w'.ownsRow base 5 1 v' (n + 3) (U8 L ++ [.int .u8 (224 + r / 4096), .int .u8 (128 + r / 64 % 64), .int .u8 (128 + r % 64)]) ∧ Below base w w' := by
  obtain ⟨i0, hi0, hz0, hz1, hz2⟩ := info_parts info5
  have f2 := hT.2 8 (by decide)
  have f3 := hT.2 11 (by decide)
  have f4 := hT.2 14 (by decide)
  have m2 := hT.2 9 (by decide)
  simp only [TabF, List.getD_cons_succ, List.getD_cons_zero] at f2 f3 f4 m2
  clear hT
  have e1 := or4 (r / 4096) (by omega) (by omega)
  have a2 := and63b (r / 64) (by omega) (by omega)
  have o2 := or6 128 (r / 64 % 64) (by omega) (by omega) (by omega) (by omega) (by omega)
  have a3 := and63b (r) (by omega) (by omega)
  have o3 := or6 128 (r % 64) (by omega) (by omega) (by omega) (by omega) (by omega)
  go_enter Tryd.func45, Tryd.ntmps45
  go_wp2
  refine wp_loop_rounds 3 ?_
  rw [rounds_succ]
  go_wp2
  rw [rounds_succ]
  go_wp2
  rw [rounds_succ]
  go_wp2
  go_region_law (refine step_append_own rfl (.tmp 24) (.tmp 34) 25 rfl base 5 i0 (.int .u8 0) 1 1 Tryd.underlying25 hi0 hz0 hz1 hz2 rfl (by decide) v n _ (by simp [Act.eval, Act.put]) (by exact (hown.alloc _).drew) ⟨w.heap.size, 0, none⟩ 1 1 [.int .u8 (IntKind.u8.wrap (224 + r / 4096))] (by simp [Act.eval, Act.put]) rfl (by intro j u hj; exact news_one w _ 5 _ rfl j u hj) (one_cell_int _ _) (by unfold maxLen; omega) (by omega) (by simp; omega) ?_; intro v1 w1 ho1 hg1)
  have hb1 := below_app hown hb hg1
  have hs1 := hb1.size
  rw [u8_in _ (by omega) (by omega)] at ho1
  clear hg1
  go_wp2
  refine wp_loop_rounds 3 ?_
  rw [rounds_succ]
  go_wp2_with (at_builtin; refine wpList_append_own _ rfl (.tmp 40) (.tmp 47) 25 rfl base 5 i0 (.int .u8 0) 1 1 Tryd.underlying25 hi0 hz0 hz1 hz2 rfl (by decide) v1 (n + 1) _ rfl (ho1.alloc _) ⟨w1.heap.size, 0, none⟩ 1 1 [.int .u8 (128 + r / 64 % 64)] rfl rfl (by exact news_one _ _ _ _ rfl) (one_cell_int _ _) (by unfold maxLen; omega) (by omega) (by simp; omega) ?_; intro v2 w2 ho2 hg2 _; have hb2 := hb1.trans (below_app1 ho1 (by omega) hg2); have hs2 := hb2.size; clear hg2)
  rw [rounds_succ]
  go_wp2_with (at_builtin; refine wpList_append_own _ rfl (.tmp 40) (.tmp 47) 25 rfl base 5 i0 (.int .u8 0) 1 1 Tryd.underlying25 hi0 hz0 hz1 hz2 rfl (by decide) v2 (n + 2) _ rfl (ho2.alloc _) ⟨w2.heap.size, 0, none⟩ 1 1 [.int .u8 (128 + r % 64)] rfl rfl (by exact news_one _ _ _ _ rfl) (one_cell_int _ _) (by unfold maxLen; omega) (by omega) (by simp; omega) ?_; intro v3 w3 ho3 hg3 _; have hb3 := hb2.trans (below_app1 ho2 (by omega) hg3); have hs3 := hb3.size; clear hg3)
  rw [rounds_succ]
  go_wp2
  go_ret
  exact ⟨_, rfl, by simpa [List.append_assoc] using ho3, hb3⟩
set_option maxHeartbeats 1000000 in
set_option maxRecDepth 1000000 in
theorem app4 (base : Nat) (L : List Int) (n : Nat) (v : Value) (r : Int) (w : World) (hT : Tabs w) (hown : w.ownsRow base 5 1 v n (U8 L)) (hb : base ≤ w.heap.size) (hsz : n ≤ 100000000) (h0 : 65536 ≤ r) (h1 : r < 1114112) :
    Calls Tryd.prog 45 #[v, .int .i64 r] w fun e w' => ∃ v', e = .returned v' ∧ w'.ownsRow base 5 1 v' (n + 4) (U8 L ++ [.int .u8 (240 + r / 262144), .int .u8 (128 + r / 4096 % 64), .int .u8 (128 + r / 64 % 64), .int .u8 (128 + r % 64)]) ∧ Below base w w' := by
  obtain ⟨i0, hi0, hz0, hz1, hz2⟩ := info_parts info5
  have f2 := hT.2 8 (by decide)
  have f3 := hT.2 11 (by decide)
  have f4 := hT.2 14 (by decide)
  have m2 := hT.2 12 (by decide)
  simp only [TabF, List.getD_cons_succ, List.getD_cons_zero] at f2 f3 f4 m2
  clear hT
  have e1 := or3 (r / 262144) (by omega) (by omega)
  have a2 := and63b (r / 4096) (by omega) (by omega)
  have o2 := or6 128 (r / 4096 % 64) (by omega) (by omega) (by omega) (by omega) (by omega)
  have a3 := and63b (r / 64) (by omega) (by omega)
  have o3 := or6 128 (r / 64 % 64) (by omega) (by omega) (by omega) (by omega) (by omega)
  have a4 := and63b (r) (by omega) (by omega)
  have o4 := or6 128 (r % 64) (by omega) (by omega) (by omega) (by omega) (by omega)
  go_enter Tryd.func45, Tryd.ntmps45
  go_wp2
  refine wp_loop_rounds 4 ?_
  rw [rounds_succ]
  go_wp2
  rw [rounds_succ]
  go_wp2
  rw [rounds_succ]
  go_wp2
  rw [rounds_succ]
  go_wp2
  go_region_law (refine step_append_own rfl (.tmp 24) (.tmp 34) 25 rfl base 5 i0 (.int .u8 0) 1 1 Tryd.underlying25 hi0 hz0 hz1 hz2 rfl (by decide) v n _ (by simp [Act.eval, Act.put]) (by exact (hown.alloc _).drew) ⟨w.heap.size, 0, none⟩ 1 1 [.int .u8 (IntKind.u8.wrap (240 + r / 262144))] (by simp [Act.eval, Act.put]) rfl (by intro j u hj; exact news_one w _ 5 _ rfl j u hj) (one_cell_int _ _) (by unfold maxLen; omega) (by omega) (by simp; omega) ?_; intro v1 w1 ho1 hg1)
  have hb1 := below_app hown hb hg1
  have hs1 := hb1.size
  rw [u8_in _ (by omega) (by omega)] at ho1
  clear hg1
  go_wp2
  refine wp_loop_rounds 4 ?_
  rw [rounds_succ]
  go_wp2_with (at_builtin; refine wpList_append_own _ rfl (.tmp 40) (.tmp 47) 25 rfl base 5 i0 (.int .u8 0) 1 1 Tryd.underlying25 hi0 hz0 hz1 hz2 rfl (by decide) v1 (n + 1) _ rfl (ho1.alloc _) ⟨w1.heap.size, 0, none⟩ 1 1 [.int .u8 (128 + r / 4096 % 64)] rfl rfl (by exact news_one _ _ _ _ rfl) (one_cell_int _ _) (by unfold maxLen; omega) (by omega) (by simp; omega) ?_; intro v2 w2 ho2 hg2 _; have hb2 := hb1.trans (below_app1 ho1 (by omega) hg2); have hs2 := hb2.size; clear hg2)
  rw [rounds_succ]
  go_wp2_with (at_builtin; refine wpList_append_own _ rfl (.tmp 40) (.tmp 47) 25 rfl base 5 i0 (.int .u8 0) 1 1 Tryd.underlying25 hi0 hz0 hz1 hz2 rfl (by decide) v2 (n + 2) _ rfl (ho2.alloc _) ⟨w2.heap.size, 0, none⟩ 1 1 [.int .u8 (128 + r / 64 % 64)] rfl rfl (by exact news_one _ _ _ _ rfl) (one_cell_int _ _) (by unfold maxLen; omega) (by omega) (by simp; omega) ?_; intro v3 w3 ho3 hg3 _; have hb3 := hb2.trans (below_app1 ho2 (by omega) hg3); have hs3 := hb3.size; clear hg3)
  rw [rounds_succ]
  go_wp2_with (at_builtin; refine wpList_append_own _ rfl (.tmp 40) (.tmp 47) 25 rfl base 5 i0 (.int .u8 0) 1 1 Tryd.underlying25 hi0 hz0 hz1 hz2 rfl (by decide) v3 (n + 3) _ rfl (ho3.alloc _) ⟨w3.heap.size, 0, none⟩ 1 1 [.int .u8 (128 + r % 64)] rfl rfl (by exact news_one _ _ _ _ rfl) (one_cell_int _ _) (by unfold maxLen; omega) (by omega) (by simp; omega) ?_; intro v4 w4 ho4 hg4 _; have hb4 := hb3.trans (below_app1 ho3 (by omega) hg4); have hs4 := hb4.size; clear hg4)
  rw [rounds_succ]
  go_wp2
  go_ret
  exact ⟨_, rfl, by simpa [List.append_assoc] using ho4, hb4⟩
theorem app45 (base : Nat) (L : List Int) (n : Nat) (v : Value) (r : Int) (w : World) (hT : Tabs w) (hown : w.ownsRow base 5 1 v n (U8 L)) (hb : base ≤ w.heap.size) (hsz : n ≤ 100000000) (h0 : 0 ≤ r) (h1 : r < 1114112) :
    Calls Tryd.prog 45 #[v, .int .i64 r] w fun e w' => ∃ v', e = .returned v' ∧ w'.ownsRow base 5 1 v' (n + (enc r).length) (U8 (L ++ enc r)) ∧ Below base w w' := by
  by_cases g1 : r < 128
  · have he : enc r = [r] := by unfold enc; rw [if_pos g1]
    rw [he, U8, List.map_append]
    exact app1 base L n v r w hT hown hb hsz h0 g1
  · by_cases g2 : r < 2048
    · have he : enc r = [192 + r / 64, 128 + r % 64] := by unfold enc; rw [if_neg g1, if_pos g2]
      rw [he, U8, List.map_append]
      exact app2 base L n v r w hT hown hb hsz (by omega) g2
    · by_cases g3 : r < 65536
      · have he : enc r = [224 + r / 4096, 128 + r / 64 % 64, 128 + r % 64] := by unfold enc; rw [if_neg g1, if_neg g2, if_pos g3]
        rw [he, U8, List.map_append]
        exact app3 base L n v r w hT hown hb hsz (by omega) g3
      · have he : enc r = [240 + r / 262144, 128 + r / 4096 % 64, 128 + r / 64 % 64, 128 + r % 64] := by unfold enc; rw [if_neg g1, if_neg g2, if_neg g3]
        rw [he, U8, List.map_append]
        exact app4 base L n v r w hT hown hb hsz (by omega) h1
theorem enc_len (r : Int) : 1 ≤ (enc r).length ∧ (enc r).length ≤ 4 := by
  unfold enc
  split
  · simp
  · split
    · simp
    · split <;> simp
def encL (l : List Int) : List Int := l.flatMap enc
theorem encL_len (l : List Int) : (encL l).length ≤ 4 * l.length := by
  induction l with
  | nil => simp [encL]
  | cons a t ih => have := enc_len a; simp only [encL, List.flatMap_cons, List.length_append, List.length_cons] at *; omega
/-- a slice value whose cells hold ints, in a block below N -/
def IntsAt (N : Nat) (w : World) (v : Value) (l : List Int) : Prop := ∃ ad cap, v = .slice ad l.length cap ∧ l.length ≤ cap ∧ cap ≤ 17592186044416 ∧ (l.length = 0 ∨ ∃ b off, ad = some ⟨b, off, none⟩ ∧ b < N ∧ (∀ k, k < l.length → w.cell? ⟨b, off + k, none⟩ = some (.int .i64 (l.getD k 0))))
theorem IntsAt.below {N N' B : Nat} {w w' : World} {v : Value} {l : List Int} (h : IntsAt N w v l) (hb : Below B w w') (hB : N ≤ B) (hN : N ≤ N') : IntsAt N' w' v l := by
  obtain ⟨ad, cap, hv, hc1, hc2, h | ⟨b, off, ha, hbN, h0⟩⟩ := h
  · exact ⟨ad, cap, hv, hc1, hc2, .inl h⟩
  · exact ⟨ad, cap, hv, hc1, hc2, .inr ⟨b, off, ha, by omega, fun k hk => (hb.cell (p := ⟨b, off + k, none⟩) (by show b < B; omega)).trans (h0 k hk)⟩⟩
def EncEnd (N : Nat) (w w' : World) (e : Ending) (l : List Int) : Prop :=
  Below N w w' ∧ (if 4194304 < l.length then e = .returned (.tuple #[.slice none 0 0, .int .i64 2]) else if l.all dom = true then ∃ g cap, e = .returned (.tuple #[.slice (some ⟨g, 0, none⟩) (encL l).length cap, .int .i64 0]) ∧ w'.ownsRow N 5 1 (.slice (some ⟨g, 0, none⟩) (encL l).length cap) (encL l).length (U8 (encL l)) else e = .returned (.tuple #[.slice none 0 0, .int .i64 10]))
theorem EncEnd.form {N : Nat} {w w' : World} {e : Ending} {l : List Int} (h : EncEnd N w w' e l) : ∃ v c, e = .returned (.tuple #[v, .int .i64 c]) := by
  obtain ⟨_, h⟩ := h
  split at h
  · exact ⟨_, _, h⟩
  · split at h
    · obtain ⟨g, cap, h, _⟩ := h; exact ⟨_, _, h⟩
    · exact ⟨_, _, h⟩
theorem EncEnd.low {N N' : Nat} {w0 w w' : World} {e : Ending} {l : List Int} (h : EncEnd N w w' e l) (hb : Below N' w0 w) (hN : N' ≤ N) : EncEnd N' w0 w' e l := by
  obtain ⟨h1, h2⟩ := h
  refine ⟨hb.trans (h1.mono hN), ?_⟩
  split
  · rename_i h3; rwa [if_pos h3] at h2
  · rename_i h3
    rw [if_neg h3] at h2
    split
    · rename_i h4
      rw [if_pos h4] at h2
      obtain ⟨g, cap, h5, h6⟩ := h2
      exact ⟨g, cap, h5, Joins.ownsRow_le h6 hN⟩
    · rename_i h4; rwa [if_neg h4] at h2
theorem take_snocI (l : List Int) (k : Nat) (h : k < l.length) : l.take (k + 1) = l.take k ++ [l.getD k 0] := by
  rw [List.take_succ_eq_append_getElem h]; simp [h]
theorem all_dom_bad (l : List Int) (k : Nat) (h : k < l.length) (hb : dom (l.getD k 0) = false) : l.all dom = false := by
  rw [List.all_eq_false]
  have e : l.getD k 0 = l[k] := by simp [h]
  exact ⟨_, List.getElem_mem h, by rw [← e, hb]; simp⟩
theorem dom_bd {r : Int} (h : dom r = true) : 0 ≤ r ∧ r < 1114112 := by simp [dom] at h; omega
end Go.Proofs.YtjglehklfdhgaaaDoor
