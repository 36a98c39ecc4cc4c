/- HELPERS: Rq, Rr, Rs, Ctstar, Ctplus. -/
import Derived.Test.YtenanfkmmkmolaaGreatDoorK03
/- HELPERS: nodes that come out; the dot, a rune that stands for itself. -/
namespace Go.Proofs.YtenanfkmmkmolaaGreatDoor
open Go.RowKit Go.Mx
set_option linter.unusedVariables false
set_option linter.unusedSimpArgs false
theorem size26 : (Tryz.prog.info? 26).map (·.size) = some 9 := by kernel_rfl
theorem wpList_store_node {ops : Array Oper} {rest : List Oper} {o : Oper} {a : Act} {w : World} {Q : Exit → Act → World → Prop} (hgd : o.guard = none) (x y : Operand) (ho : o.op = .store 26 x y)
    (nb : Nat) (cells : List Value) (old : Array Value) (hx : a.eval x = .pointer (some ⟨nb, 0, none⟩)) (hy : a.eval y = .agg cells.toArray) (hg : w.heap[nb]? = some (.cells old 26 (0, 0))) (hold : old.size = 9) (h9 : cells.length = 9) (h1 : ∀ u ∈ cells, u.oneCell' = true)
    (h : wpList Tryz.prog ops Q rest (a.put o.dst undef) (w.setRow nb cells.toArray)) : wpList Tryz.prog ops Q (o :: rest) a w :=
  wpList_store_row hgd 26 x y ho nb cells.toArray hx hy 26 old hg (by rw [size26]; simp [h9]) (by simp [hold, h9]) (Array.all_eq_true_iff_forall_mem.2 fun u hu => h1 u (by simpa using hu)) h
theorem results_node {fn : Func} {p : Tmp} (hr : fn.results = #[.cell p 26]) (tmps : Array Value) (w : World) (nb : Nat) (cells : List Value) (hp : tmps.getD p undef = .pointer (some ⟨nb, 0, none⟩)) (hg : w.heap[nb]? = some (.cells cells.toArray 26 (0, 0))) (h9 : cells.length = 9) :
    (results fn tmps).run Tryz.prog w = .ok (.agg cells.toArray) w :=
  results_cell_row hr tmps w nb 26 cells.toArray (0, 0) _ hp hg Tryz.underlying26 rfl (by rw [size26]; simp [h9])
theorem TV.setRow {N nb : Nat} {w : World} {c : List Value} {t : Tree} {F : List Nat} {cs : Array Value} (h : TV N w c t F) (hn : nb < N) : TV N (w.setRow nb cs) c t F :=
  h.kept fun k hk => setRow_other _ _ _ _ (by have := (h.low k hk).1; omega)
/-- a node is put into the result's block -/
theorem ret_node {W w1 : World} {g : Nat} {t : List Int} {i0 i : Nat} {c : Cs} {wr0 wr : Wr} {cells : List Value} {x : Tree} {F : List Nat} (h0 : RW W g t i0 c wr0) (hM1 : Mo (W.alloc (.cells Z9 26)) w1 g) (h : RW w1 g t i c wr) (hT : TV (W.heap.size + 1) w1 cells x F) (hF : F.Nodup) :
    w1.heap[W.heap.size]? = some (.cells Z9 26 (0, 0)) ∧ Mo W (w1.setRow W.heap.size cells.toArray) g ∧ RW (w1.setRow W.heap.size cells.toArray) g t i c wr ∧ (w1.setRow W.heap.size cells.toArray).heap[W.heap.size]? = some (.cells cells.toArray 26 (0, 0)) ∧ valT W.heap.size x (w1.setRow W.heap.size cells.toArray) (.agg cells.toArray) ∧ cells.length = 9 ∧ ∀ u ∈ cells, u.oneCell' = true := by
  obtain ⟨a1, a2, a3⟩ := cell_end h0 rfl hM1 h cells.toArray
  exact ⟨res_block h0 rfl hM1, a1, a2, a3, ⟨cells, F, rfl, (hT.setRow (Nat.lt_succ_self _)).le (Nat.le_succ _), hF⟩, hT.nine, hT.oneCells⟩
abbrev clsL (rv : Value) : List Value := [.int .i64 2, rv, .int .i64 0, .slice none 0 0, .int .i64 0, .int .i64 0, .bool false, .int .i64 0, .string ⟨#[]⟩]
abbrev asrL (a : Int) : List Value := [.int .i64 3, .slice none 0 0, .int .i64 a, .slice none 0 0, .int .i64 0, .int .i64 0, .bool false, .int .i64 0, .string ⟨#[]⟩]
theorem cls_tv {N : Nat} {L : Rng} {w : World} {rv : Value} (h : valR N L w rv) : TV N w (clsL rv) (.cls L) (rv.ownBlock.toList ++ ((Value.slice none 0 0).ownBlock.toList ++ [])) := .mk h (World.ownsRow_nil _ _ _ _) .nil
theorem asr_tv (N : Nat) (w : World) (a : Int) : TV N w (asrL a) (.asr a) ((Value.slice none 0 0).ownBlock.toList ++ ((Value.slice none 0 0).ownBlock.toList ++ [])) := .mk (World.ownsRow_nil _ _ _ _) (World.ownsRow_nil _ _ _ _) .nil
theorem cls_nodup (rv : Value) : (rv.ownBlock.toList ++ ((Value.slice none 0 0).ownBlock.toList ++ [])).Nodup := by
  have : (Value.slice none 0 0).ownBlock = none := rfl
  rw [this]
  cases rv.ownBlock <;> simp
theorem valC_T {N : Nat} {L : Rng} {w : World} {v : Value} (h : valC N L w v) : valT N (.cls L) w v := by
  obtain ⟨rv, rfl, h⟩ := h
  exact ⟨clsL rv, _, rfl, cls_tv h, cls_nodup rv⟩
theorem negE (w : World) : Calls Tryz.prog 88 #[.slice none 0 0] w fun e w' => ∃ ad' cap', e = .returned (.tuple #[.slice ad' (XG []).length cap', .int .i64 (cG [])]) ∧ valR w.heap.size (XG []) w' (.slice ad' (XG []).length cap') ∧ Below w.heap.size w w' :=
  negS [] none 0 w 0 (by decide) (World.ownsRow_nil _ _ _ _)
theorem neg10 (w : World) : Calls Tryz.prog 88 #[.slice (some ⟨w.heap.size, 0, none⟩) 1 1] (w.alloc (.cells #[.int .i64 10, .int .i64 10] 62)) fun e w' => ∃ ad' cap', e = .returned (.tuple #[.slice ad' (XG [(10, 10)]).length cap', .int .i64 (cG [(10, 10)])]) ∧ valR (w.alloc (.cells #[.int .i64 10, .int .i64 10] 62)).heap.size (XG [(10, 10)]) w' (.slice ad' (XG [(10, 10)]).length cap') ∧ Below (w.alloc (.cells #[.int .i64 10, .int .i64 10] 62)).heap.size (w.alloc (.cells #[.int .i64 10, .int .i64 10] 62)) w' :=
  negS [(10, 10)] _ 1 _ w.heap.size (by decide) (own_new w [(10, 10)] _ rfl (by decide) 1 rfl)
set_option maxHeartbeats 2000000 in
theorem dot66_all {g : Nat} {t : List Int} {i : Nat} {c : Cs} {w : World} {wr : Wr} (R0 : Hid (RW w g t i c wr)) {fold : Bool} (L0 : Hid (Fl w g c fold true)) :
    Calls Tryz.prog 66 #[.pointer (some ⟨g, 0, none⟩)] w fun e w' => ∃ v, e = .returned v ∧ valT w.heap.size (.cls (XG [])) w' v ∧ Mo w w' g ∧ RW w' g t i c wr := by
  have hle := R0.out.rd.le
  have RW1 : Hid (RW (w.alloc (.cells Z9 26)) g t i c wr) := rwBelow R0 (Joins.below_alloc1 w _)
  obtain ⟨ob, n, cap, h1, h2, h3, h4, h5, h6⟩ := (L0.out.mo (Mo.alloc w g (.cells Z9 26)))
  have C1 := top41 (rdC RW1) ob n cap h1 h3 h4
  go_enter Tryz.func66, Tryz.ntmps66
  go_wp2_with (go_at_call 41; with_reducible refine C1.mono ?_; rintro e w1 ⟨rfl, G1⟩; have k6 := cell_mo G1.mo h6 h2; have R1 := rwOn RW1 G1 hle)
  have C2 := negE w1
  go_wp2_with (first | (go_at_call 88; with_reducible refine C2.mono ?_; rintro e w2 ⟨ad2, cap2, rfl, V2, B2⟩; have R2 := rwBelow R1 B2; have M2 := G1.mo.trans (Mo.of_below B2); obtain ⟨K0, K1, K2, K3, K4, K5, K6⟩ := ret_node R0.out M2 R2.out (cls_tv (Joins.ownsRow_le V2 (by have := G1.mo.size; simpa using this))) (cls_nodup _)) | (refine wpList_store_node rfl (.tmp 2) (.tmp 19) rfl w.heap.size (clsL (.slice ad2 (XG []).length cap2)) Z9 rfl rfl K0 rfl K5 K6 ?_))
  refine bodyPost_ret (results_node rfl _ _ w.heap.size _ rfl K3 K5) rfl ?_
  exact ⟨_, rfl, K4, K1, K2⟩
set_option maxHeartbeats 2000000 in
theorem dot66_not {g : Nat} {t : List Int} {i : Nat} {c : Cs} {w : World} {wr : Wr} (R0 : Hid (RW w g t i c wr)) {fold : Bool} (L0 : Hid (Fl w g c fold false)) :
    Calls Tryz.prog 66 #[.pointer (some ⟨g, 0, none⟩)] w fun e w' => ∃ v, e = .returned v ∧ valT w.heap.size (.cls (XG [(10, 10)])) w' v ∧ Mo w w' g ∧ RW w' g t i c wr := by
  have hle := R0.out.rd.le
  have RW1 : Hid (RW (w.alloc (.cells Z9 26)) g t i c wr) := rwBelow R0 (Joins.below_alloc1 w _)
  obtain ⟨ob, n, cap, h1, h2, h3, h4, h5, h6⟩ := (L0.out.mo (Mo.alloc w g (.cells Z9 26)))
  have C1 := top41 (rdC RW1) ob n cap h1 h3 h4
  go_enter Tryz.func66, Tryz.ntmps66
  go_wp2_with (go_at_call 41; with_reducible refine C1.mono ?_; rintro e w1 ⟨rfl, G1⟩; have k6 := cell_mo G1.mo h6 h2; have R1 := rwOn RW1 G1 hle)
  have CO := only87 10 w1
  go_wp2_with (go_at_call 87; with_reducible refine CO.mono ?_; rintro e wo ⟨rfl, rfl⟩)
  have C2 := neg10 w1
  go_wp2_with (first | (go_at_call 88; with_reducible refine C2.mono ?_; rintro e w2 ⟨ad2, cap2, rfl, V2, B2⟩; have BB := (Joins.below_alloc1 w1 _).trans (Joins.below_le B2 (by simp)); have R2 := rwBelow R1 BB; have M2 := G1.mo.trans (Mo.of_below BB); obtain ⟨K0, K1, K2, K3, K4, K5, K6⟩ := ret_node R0.out M2 R2.out (cls_tv (Joins.ownsRow_le V2 (by have := G1.mo.size; simp at this ⊢; omega))) (cls_nodup _)) | (refine wpList_store_node rfl (.tmp 2) (.tmp 19) rfl w.heap.size (clsL (.slice ad2 (XG [(10, 10)]).length cap2)) Z9 rfl rfl K0 rfl K5 K6 ?_))
  refine bodyPost_ret (results_node rfl _ _ w.heap.size _ rfl K3 K5) rfl ?_
  exact ⟨_, rfl, K4, K1, K2⟩
set_option maxHeartbeats 2000000 in
theorem literal69 {g : Nat} {t : List Int} {i : Nat} {c : Cs} {w : World} {wr : Wr} (R0 : Hid (RW w g t i c wr)) {fold all : Bool} (L0 : Hid (Fl w g c fold all)) (x : Int) :
    Calls Tryz.prog 69 #[.pointer (some ⟨g, 0, none⟩), .int .i64 x] w fun e w' => ∃ v, e = .returned v ∧ valT w.heap.size (.cls (about fold [(x, x)])) w' v ∧ Mo w w' g ∧ RW w' g t i c wr := by
  have hgl := R0.out.rd.gl
  have BA : Below w.heap.size w ((w.alloc (.cells Z9 26)).alloc (.cells #[.int .i64 x, .int .i64 x] 62)) := Joins.below_alloc2 w _ _
  have RW1 : Hid (RW ((w.alloc (.cells Z9 26)).alloc (.cells #[.int .i64 x, .int .i64 x] 62)) g t i c wr) := rwBelow R0 BA
  have LW1 := flOn L0 (Mo.of_below (g := g) BA)
  have VO : Hid (valR (w.heap.size + 1) [(x, x)] ((w.alloc (.cells Z9 26)).alloc (.cells #[.int .i64 x, .int .i64 x] 62)) (.slice (some ⟨w.heap.size + 1, 0, none⟩) 1 1)) := by
    have h := own_new (w.alloc (.cells Z9 26)) [(x, x)] #[.int .i64 x, .int .i64 x] rfl (by simp) 1 rfl
    rw [show (w.alloc (.cells Z9 26)).heap.size = w.heap.size + 1 by simp] at h
    exact h
  have CO := only87 x (w.alloc (.cells Z9 26))
  rw [show (w.alloc (.cells Z9 26)).heap.size = w.heap.size + 1 by simp] at CO
  have C2 := about95 RW1 LW1 (w.heap.size + 1) [(x, x)] _ VO (by simp) (by omega) (by simp)
  have MA : Mo (w.alloc (.cells Z9 26)) ((w.alloc (.cells Z9 26)).alloc (.cells #[.int .i64 x, .int .i64 x] 62)) g := Mo.alloc _ g _
  go_enter Tryz.func69, Tryz.ntmps69
  go_wp2_with (go_at_call 87; with_reducible refine CO.mono ?_; rintro e wo ⟨rfl, rfl⟩)
  go_wp2_with (first | (go_at_call 95; with_reducible refine C2.mono ?_; rintro e w2 ⟨v2, rfl, V2, M2, R2⟩; obtain ⟨ad2, cap2, rfl⟩ := slice_form V2; obtain ⟨K0, K1, K2, K3, K4, K5, K6⟩ := ret_node R0.out (MA.trans M2) R2 (cls_tv V2) (cls_nodup _)) | (refine wpList_store_node rfl (.tmp 4) (.tmp 9) rfl w.heap.size (clsL (.slice ad2 (about fold [(x, x)]).length cap2)) Z9 rfl rfl K0 rfl K5 K6 ?_))
  refine bodyPost_ret (results_node rfl _ _ w.heap.size _ rfl K3 K5) rfl ?_
  exact ⟨_, rfl, K4, K1, K2⟩
theorem assert92 (x : Int) (w : World) : Calls Tryz.prog 92 #[.int .u8 x] w fun e w' => e = .returned (.int .i64 (assertL x)) ∧ w' = w := by
  unfold assertL
  by_cases h1 : x = 65
  · subst h1
    go_enter Tryz.func92, Tryz.ntmps92
    go_wp2
    go_ret
    exact ⟨rfl, rfl⟩
  · by_cases h2 : x = 122
    · subst h2
      go_enter Tryz.func92, Tryz.ntmps92
      go_wp2
      go_ret
      exact ⟨rfl, rfl⟩
    · by_cases h3 : x = 98
      · subst h3
        go_enter Tryz.func92, Tryz.ntmps92
        go_wp2
        go_ret
        exact ⟨rfl, rfl⟩
      · by_cases h4 : x = 66
        · subst h4
          go_enter Tryz.func92, Tryz.ntmps92
          go_wp2
          go_ret
          exact ⟨rfl, rfl⟩
        · rw [if_neg h1, if_neg h2, if_neg h3, if_neg h4]
          go_enter Tryz.func92, Tryz.ntmps92
          go_wp2
          go_ret
          exact ⟨rfl, rfl⟩
theorem class67 {g : Nat} {t : List Int} {i : Nat} {c : Cs} {w : World} {wr : Wr} (R0 : Hid (RW w g t i c wr)) {fold all : Bool} (L0 : Hid (Fl w g c fold all)) (h : nx t i = 91) :
    Calls Tryz.prog 67 #[.pointer (some ⟨g, 0, none⟩)] w fun e w' => EndW e w w' g t c (valC w.heap.size) (classP t fold i wr) := by
  unfold classP
  rw [if_pos h]
  by_cases h1 : nx t (i + 1) = 94
  · rw [if_pos h1, decide_eq_true h1]
    cases hz : item t fold (i + 2) wr with
    | error k => exact class67_a1 R0 L0 h h1 hz
    | ok y =>
      obtain ⟨L1, k1, wr1⟩ := y
      have hC := class67_b1 R0 L0 h h1 hz
      simp only
      cases hz2 : items t fold (t.length + 1) L1 k1 wr1 with
      | error k => rw [hz2] at hC; exact hC
      | ok y2 => obtain ⟨L, k, wr2⟩ := y2; rw [hz2] at hC; exact hC
  · rw [if_neg h1, decide_eq_false h1]
    cases hz : item t fold (i + 1) wr with
    | error k => exact class67_a0 R0 L0 h h1 hz
    | ok y =>
      obtain ⟨L1, k1, wr1⟩ := y
      have hC := class67_b0 R0 L0 h h1 hz
      simp only
      cases hz2 : items t fold (t.length + 1) L1 k1 wr1 with
      | error k => rw [hz2] at hC; exact hC
      | ok y2 => obtain ⟨L, k, wr2⟩ := y2; rw [hz2] at hC; exact hC
end Go.Proofs.YtenanfkmmkmolaaGreatDoor
/- HELPERS: atoms. -/
namespace Go.Proofs.YtenanfkmmkmolaaGreatDoor
open Go.RowKit Go.Mx
set_option linter.unusedVariables false
set_option linter.unusedSimpArgs false
theorem getD_two {t : List Int} {i : Nat} {x : Int} (hx : t.getD (i + 1) 0 = x) (hne : x ≠ 0) : i + 2 ≤ t.length := by
  rcases Nat.lt_or_ge (i + 1) t.length with h1 | h1
  · omega
  · exact absurd (by rw [← hx]; simp [List.getD, List.getElem?_eq_none h1]) hne
theorem assertL_ne {x : Int} (h : ¬ assertL x = 0) : x ≠ 0 := by
  intro e
  subst e
  exact h (by decide)
theorem valT_agg {N : Nat} {x : Tree} {w : World} {v : Value} (h : valT N x w v) : ∃ cells F, v = .agg cells.toArray ∧ TV N w cells x F ∧ F.Nodup := h
theorem clsT {f : Nat} {args : Array Value} {w : World} {g : Nat} {t : List Int} {c : Cs} {L : Rng} {k : Nat} {wr : Wr} (h : Calls Tryz.prog f args w fun e w' => ∃ v, e = .returned v ∧ valC w.heap.size L w' v ∧ Mo w w' g ∧ RW w' g t k c wr) : Calls Tryz.prog f args w fun e w' => ∃ v, e = .returned v ∧ valT w.heap.size (.cls L) w' v ∧ Mo w w' g ∧ RW w' g t k c wr :=
  h.mono fun e w' ⟨v, h1, h2, h3⟩ => ⟨v, h1, valC_T h2, h3⟩
theorem nil_nodup : ((Value.slice none 0 0).ownBlock.toList ++ ((Value.slice none 0 0).ownBlock.toList ++ ([] : List Nat))).Nodup := cls_nodup _
set_option maxHeartbeats 2000000 in
theorem escape68_a {g : Nat} {t : List Int} {i : Nat} {c : Cs} {w : World} {wr : Wr} (R0 : Hid (RW w g t i c wr)) {fold all : Bool} (L0 : Hid (Fl w g c fold all)) (h : nx t i = 92) {x : Int} (hx : t.getD (i + 1) 0 = x) {a : Int} (ha : assertL x = a) (hne : ¬ a = 0) : Calls Tryz.prog 68 #[.pointer (some ⟨g, 0, none⟩)] w fun e w' => ∃ v, e = .returned v ∧ valT w.heap.size (.asr a) w' v ∧ Mo w w' g ∧ RW w' g t (i + 2) c wr := by
  have hle := R0.out.rd.le
  have hbd := R0.out.rd.bd
  have hgl := R0.out.rd.gl
  have RW1 : Hid (RW (w.alloc (.cells Z9 26)) g t i c wr) := rwBelow R0 (Joins.below_alloc1 w _)
  have LW1 : Hid (Fl (w.alloc (.cells Z9 26)) g c fold all) := flOn L0 (Mo.alloc w g _)
  have hi2 := getD_two hx (assertL_ne (by rw [ha]; exact hne))
  have hne1 : (a != 0) = true := by simpa using hne
  have C1 := escX (rdC RW1) h hx
  go_enter Tryz.func68, Tryz.ntmps68
  go_wp2_with (go_at_call 91; (with_reducible refine C1.mono ?_); rintro e w1 ⟨rfl, G1⟩; have R1 := rwOn RW1 G1 hle; have y1 := Joins.cell_of_block R1.out.rd.blk 1; have u1 := Joins.unfrozen_of_block R1.out.rd.blk 1; simp at y1)
  have C2 := assert92 x w1
  rw [ha] at C2
  have G3 : Go1 w1 (w1.setCell ⟨g, 1, none⟩ (.int .i64 ((i : Int) + 2))) g (i + 2) := ⟨0, rfl⟩
  have R3 := rwOn R1 G3 hi2
  have M3 := G1.mo.trans G3.mo
  obtain ⟨K0, K1, K2, K3, K4, K5, K6⟩ := ret_node R0.out M3 R3.out (asr_tv (w.heap.size + 1) _ a) nil_nodup
  go_wp2_with (first | (go_at_call 92; (with_reducible refine C2.mono ?_); rintro e w2 ⟨rfl, q2⟩; have q2 := q2.symm; subst q2) | (refine wpList_store_node rfl (.tmp 2) (.tmp 22) rfl w.heap.size (asrL a) Z9 rfl rfl K0 rfl K5 K6 ?_))
  refine bodyPost_ret (results_node rfl _ _ w.heap.size _ rfl K3 K5) rfl ?_
  exact ⟨_, rfl, K4, K1, K2⟩
set_option maxHeartbeats 2000000 in
theorem escape68_b {g : Nat} {t : List Int} {i : Nat} {c : Cs} {w : World} {wr : Wr} (R0 : Hid (RW w g t i c wr)) {fold all : Bool} (L0 : Hid (Fl w g c fold all)) (h : nx t i = 92) {x : Int} (hx : t.getD (i + 1) 0 = x) (ha : assertL x = 0) {L1 : Rng} (hs : setL x = some L1) : Calls Tryz.prog 68 #[.pointer (some ⟨g, 0, none⟩)] w fun e w' => ∃ v, e = .returned v ∧ valT w.heap.size (.cls L1) w' v ∧ Mo w w' g ∧ RW w' g t (i + 2) c wr := by
  have hle := R0.out.rd.le
  have hbd := R0.out.rd.bd
  have hgl := R0.out.rd.gl
  have RW1 : Hid (RW (w.alloc (.cells Z9 26)) g t i c wr) := rwBelow R0 (Joins.below_alloc1 w _)
  have LW1 : Hid (Fl (w.alloc (.cells Z9 26)) g c fold all) := flOn L0 (Mo.alloc w g _)
  have hi2 := getD_two hx (setL_len hs).2
  have C1 := escX (rdC RW1) h hx
  go_enter Tryz.func68, Tryz.ntmps68
  go_wp2_with (go_at_call 91; (with_reducible refine C1.mono ?_); rintro e w1 ⟨rfl, G1⟩; have R1 := rwOn RW1 G1 hle; have y1 := Joins.cell_of_block R1.out.rd.blk 1; have u1 := Joins.unfrozen_of_block R1.out.rd.blk 1; simp at y1)
  have C2 := assert92 x w1
  rw [ha] at C2
  go_wp2_with (go_at_call 92; (with_reducible refine C2.mono ?_); rintro e w2 ⟨rfl, q2⟩; have q2 := q2.symm; subst q2)
  have C3 := setS (w := w1) hs
  go_wp2_with (first | (go_at_call 93; (with_reducible refine C3.mono ?_); rintro e w3 ⟨b3, cap3, rfl, V3, B3⟩; have R3 := rwBelow R1 B3; have y3 := Joins.cell_of_block R3.out.rd.blk 1; have u3 := Joins.unfrozen_of_block R3.out.rd.blk 1; simp at y3; have G4 : Go1 w3 (w3.setCell ⟨g, 1, none⟩ (.int .i64 ((i : Int) + 2))) g (i + 2) := ⟨0, rfl⟩; have R4 := rwOn R3 G4 hi2; have M4 := (G1.mo.trans (Mo.of_below B3)).trans G4.mo; have V4 := valR_mo (Joins.ownsRow_le V3 (show w.heap.size + 1 ≤ w1.heap.size by have := G1.mo.size; simpa using this)) G4.mo (by omega); obtain ⟨K0, K1, K2, K3, K4, K5, K6⟩ := ret_node R0.out M4 R4.out (cls_tv V4) (cls_nodup _)) | (refine wpList_store_node rfl (.tmp 2) (.tmp 35) rfl w.heap.size (clsL (.slice (some ⟨b3, 0, none⟩) L1.length cap3)) Z9 rfl rfl K0 rfl K5 K6 ?_))
  refine bodyPost_ret (results_node rfl _ _ w.heap.size _ rfl K3 K5) rfl ?_
  exact ⟨_, rfl, K4, K1, K2⟩
set_option maxHeartbeats 2000000 in
theorem escape68_c {g : Nat} {t : List Int} {i : Nat} {c : Cs} {w : World} {wr : Wr} (R0 : Hid (RW w g t i c wr)) {fold all : Bool} (L0 : Hid (Fl w g c fold all)) (h : nx t i = 92) {x : Int} (hx : t.getD (i + 1) 0 = x) (ha : assertL x = 0) (hs : setL x = none) {k : Nat} (hz : single2 t i wr = .error k) : Calls Tryz.prog 68 #[.pointer (some ⟨g, 0, none⟩)] w fun e w' => e = Gave k ∧ Mo w w' g := by
  have hle := R0.out.rd.le
  have hbd := R0.out.rd.bd
  have hgl := R0.out.rd.gl
  have RW1 : Hid (RW (w.alloc (.cells Z9 26)) g t i c wr) := rwBelow R0 (Joins.below_alloc1 w _)
  have LW1 : Hid (Fl (w.alloc (.cells Z9 26)) g c fold all) := flOn L0 (Mo.alloc w g _)
  have C1 := escX (rdC RW1) h hx
  go_enter Tryz.func68, Tryz.ntmps68
  go_wp2_with (go_at_call 91; (with_reducible refine C1.mono ?_); rintro e w1 ⟨rfl, G1⟩; have R1 := rwOn RW1 G1 hle; have y1 := Joins.cell_of_block R1.out.rd.blk 1; have u1 := Joins.unfrozen_of_block R1.out.rd.blk 1; simp at y1)
  have C2 := assert92 x w1
  rw [ha] at C2
  go_wp2_with (go_at_call 92; (with_reducible refine C2.mono ?_); rintro e w2 ⟨rfl, q2⟩; have q2 := q2.symm; subst q2)
  have C3 := setN (w := w1) hs
  go_wp2_with (go_at_call 93; (with_reducible refine C3.mono ?_); rintro e w3 ⟨rfl, q3⟩; have q3 := q3.symm; subst q3)
  have C4 := endE (single94 R1) hz
  go_wp2_with (go_at_call 94; (with_reducible refine C4.mono ?_); rintro e w4 ⟨rfl, M4⟩)
  exact ⟨rfl, rfl, (Mo.alloc w g _).trans (G1.mo.trans M4)⟩
set_option maxHeartbeats 2000000 in
theorem escape68_d {g : Nat} {t : List Int} {i : Nat} {c : Cs} {w : World} {wr : Wr} (R0 : Hid (RW w g t i c wr)) {fold all : Bool} (L0 : Hid (Fl w g c fold all)) (h : nx t i = 92) {x : Int} (hx : t.getD (i + 1) 0 = x) (ha : assertL x = 0) (hs : setL x = none) {cd : Int} {b : Bool} {k : Nat} {wr2 : Wr} (hz : single2 t i wr = .ok ((cd, b), k, wr2)) : Calls Tryz.prog 68 #[.pointer (some ⟨g, 0, none⟩)] w fun e w' => ∃ v, e = .returned v ∧ valT w.heap.size (.cls (about fold [(cd, cd)])) w' v ∧ Mo w w' g ∧ RW w' g t k c wr2 := by
  have hle := R0.out.rd.le
  have hbd := R0.out.rd.bd
  have hgl := R0.out.rd.gl
  have RW1 : Hid (RW (w.alloc (.cells Z9 26)) g t i c wr) := rwBelow R0 (Joins.below_alloc1 w _)
  have LW1 : Hid (Fl (w.alloc (.cells Z9 26)) g c fold all) := flOn L0 (Mo.alloc w g _)
  have C1 := escX (rdC RW1) h hx
  go_enter Tryz.func68, Tryz.ntmps68
  go_wp2_with (go_at_call 91; (with_reducible refine C1.mono ?_); rintro e w1 ⟨rfl, G1⟩; have R1 := rwOn RW1 G1 hle; have y1 := Joins.cell_of_block R1.out.rd.blk 1; have u1 := Joins.unfrozen_of_block R1.out.rd.blk 1; simp at y1)
  have C2 := assert92 x w1
  rw [ha] at C2
  go_wp2_with (go_at_call 92; (with_reducible refine C2.mono ?_); rintro e w2 ⟨rfl, q2⟩; have q2 := q2.symm; subst q2)
  have C3 := setN (w := w1) hs
  go_wp2_with (go_at_call 93; (with_reducible refine C3.mono ?_); rintro e w3 ⟨rfl, q3⟩; have q3 := q3.symm; subst q3)
  have C4 := endOB (single94 R1) hz
  go_wp2_with (go_at_call 94; (with_reducible refine C4.mono ?_); rintro e w4 ⟨rfl, M4, RR4⟩)
  have R4 := hid RR4
  have M4' := G1.mo.trans M4
  have C5 := literal69 R4 (flOn LW1 M4') cd
  go_wp2_with (first | (go_at_call 69; (with_reducible refine C5.mono ?_); rintro e w5 ⟨v5, rfl, ⟨cells, F, rfl, T5, F5⟩, M5, R5⟩; obtain ⟨K0, K1, K2, K3, K4, K5, K6⟩ := ret_node R0.out (M4'.trans M5) R5 (T5.le (by have := M4'.size; simpa using this)) F5) | (refine wpList_store_node rfl (.tmp 2) (.tmp 43) rfl w.heap.size cells Z9 rfl rfl K0 rfl K5 K6 ?_))
  refine bodyPost_ret (results_node rfl _ _ w.heap.size _ rfl K3 K5) rfl ?_
  exact ⟨_, rfl, K4, K1, K2⟩
set_option maxHeartbeats 2000000 in
theorem atom46_hat {g : Nat} {t : List Int} {i : Nat} {c : Cs} {w : World} {wr : Wr} (R0 : Hid (RW w g t i c wr)) {fold all : Bool} (L0 : Hid (Fl w g c fold all)) (hi : i < t.length) (hx : nx t i = 94) : Calls Tryz.prog 46 #[.pointer (some ⟨g, 0, none⟩)] w fun e w' => ∃ v, e = .returned v ∧ valT w.heap.size (.asr 4) w' v ∧ Mo w w' g ∧ RW w' g t (i + 1) c wr := by
  have hle := R0.out.rd.le
  have hbd := R0.out.rd.bd
  have hgl := R0.out.rd.gl
  have RW1 : Hid (RW (w.alloc (.cells Z9 26)) g t i c wr) := rwBelow R0 (Joins.below_alloc1 w _)
  have LW1 : Hid (Fl (w.alloc (.cells Z9 26)) g c fold all) := flOn L0 (Mo.alloc w g _)
  obtain ⟨ad, cap, htv, t2, t3, t4⟩ := RW1.out.rd.txt
  obtain ⟨tb, rfl, tne, tcell⟩ := t4 i hi
  rw [getD_nx hi] at tcell
  have z0 := Joins.cell_of_block RW1.out.rd.blk 0
  have z1 := Joins.cell_of_block RW1.out.rd.blk 1
  have f1 := Joins.unfrozen_of_block RW1.out.rd.blk 1
  simp [htv] at z0 z1
  generalize hxx : nx t i = x at *
  have hgt : ¬ g = tb := fun h => tne h.symm
  clear t4
  have GM : ∀ q, Go1 (w.alloc (.cells Z9 26)) (((w.alloc (.cells Z9 26)).drewN q).setCell ⟨g, 1, none⟩ (.int .i64 ((i : Int) + 1))) g (i + 1) := fun q => ⟨q, rfl⟩
  have RM : ∀ q, Hid (RW (((w.alloc (.cells Z9 26)).drewN q).setCell ⟨g, 1, none⟩ (.int .i64 ((i : Int) + 1))) g t (i + 1) c wr) := fun q => rwOn RW1 (GM q) hi
  subst hx
  have hK := fun q => ret_node R0.out (GM q).mo (RM q).out (asr_tv (w.heap.size + 1) _ 4) nil_nodup
  go_enter Tryz.func46, Tryz.ntmps46
  go_wp2_with fail
  go_quiet (fail)
  go_wp2_with (refine wpList_store_node rfl (.tmp 2) (.tmp 33) rfl w.heap.size (asrL 4) Z9 rfl rfl (hK _).1 rfl rfl (hK 0).2.2.2.2.2.2 ?_)
  refine bodyPost_ret (results_node rfl _ _ w.heap.size _ rfl (hK _).2.2.2.1 rfl) rfl ?_
  exact ⟨_, rfl, (hK _).2.2.2.2.1, (hK _).2.1, (hK _).2.2.1⟩
set_option maxHeartbeats 2000000 in
theorem atom46_dol {g : Nat} {t : List Int} {i : Nat} {c : Cs} {w : World} {wr : Wr} (R0 : Hid (RW w g t i c wr)) {fold all : Bool} (L0 : Hid (Fl w g c fold all)) (hi : i < t.length) (hx : nx t i = 36) : Calls Tryz.prog 46 #[.pointer (some ⟨g, 0, none⟩)] w fun e w' => ∃ v, e = .returned v ∧ valT w.heap.size (.asr 8) w' v ∧ Mo w w' g ∧ RW w' g t (i + 1) c wr := by
  have hle := R0.out.rd.le
  have hbd := R0.out.rd.bd
  have hgl := R0.out.rd.gl
  have RW1 : Hid (RW (w.alloc (.cells Z9 26)) g t i c wr) := rwBelow R0 (Joins.below_alloc1 w _)
  have LW1 : Hid (Fl (w.alloc (.cells Z9 26)) g c fold all) := flOn L0 (Mo.alloc w g _)
  obtain ⟨ad, cap, htv, t2, t3, t4⟩ := RW1.out.rd.txt
  obtain ⟨tb, rfl, tne, tcell⟩ := t4 i hi
  rw [getD_nx hi] at tcell
  have z0 := Joins.cell_of_block RW1.out.rd.blk 0
  have z1 := Joins.cell_of_block RW1.out.rd.blk 1
  have f1 := Joins.unfrozen_of_block RW1.out.rd.blk 1
  simp [htv] at z0 z1
  generalize hxx : nx t i = x at *
  have hgt : ¬ g = tb := fun h => tne h.symm
  clear t4
  have GM : ∀ q, Go1 (w.alloc (.cells Z9 26)) (((w.alloc (.cells Z9 26)).drewN q).setCell ⟨g, 1, none⟩ (.int .i64 ((i : Int) + 1))) g (i + 1) := fun q => ⟨q, rfl⟩
  have RM : ∀ q, Hid (RW (((w.alloc (.cells Z9 26)).drewN q).setCell ⟨g, 1, none⟩ (.int .i64 ((i : Int) + 1))) g t (i + 1) c wr) := fun q => rwOn RW1 (GM q) hi
  subst hx
  have hK := fun q => ret_node R0.out (GM q).mo (RM q).out (asr_tv (w.heap.size + 1) _ 8) nil_nodup
  go_enter Tryz.func46, Tryz.ntmps46
  go_wp2_with fail
  go_quiet (fail)
  go_wp2_with (refine wpList_store_node rfl (.tmp 2) (.tmp 43) rfl w.heap.size (asrL 8) Z9 rfl rfl (hK _).1 rfl rfl (hK 0).2.2.2.2.2.2 ?_)
  refine bodyPost_ret (results_node rfl _ _ w.heap.size _ rfl (hK _).2.2.2.1 rfl) rfl ?_
  exact ⟨_, rfl, (hK _).2.2.2.2.1, (hK _).2.1, (hK _).2.2.1⟩
set_option maxHeartbeats 2000000 in
theorem atom46_dot_true {g : Nat} {t : List Int} {i : Nat} {c : Cs} {w : World} {wr : Wr} (R0 : Hid (RW w g t i c wr)) {fold all : Bool} (L0 : Hid (Fl w g c fold all)) (hi : i < t.length) (hal : all = true) (hx : nx t i = 46) : Calls Tryz.prog 46 #[.pointer (some ⟨g, 0, none⟩)] w fun e w' => ∃ v, e = .returned v ∧ valT w.heap.size (.cls (XG [])) w' v ∧ Mo w w' g ∧ RW w' g t (i + 1) c wr := by
  have hle := R0.out.rd.le
  have hbd := R0.out.rd.bd
  have hgl := R0.out.rd.gl
  have RW1 : Hid (RW (w.alloc (.cells Z9 26)) g t i c wr) := rwBelow R0 (Joins.below_alloc1 w _)
  have LW1 : Hid (Fl (w.alloc (.cells Z9 26)) g c fold all) := flOn L0 (Mo.alloc w g _)
  obtain ⟨ad, cap, htv, t2, t3, t4⟩ := RW1.out.rd.txt
  obtain ⟨tb, rfl, tne, tcell⟩ := t4 i hi
  rw [getD_nx hi] at tcell
  have z0 := Joins.cell_of_block RW1.out.rd.blk 0
  have z1 := Joins.cell_of_block RW1.out.rd.blk 1
  have f1 := Joins.unfrozen_of_block RW1.out.rd.blk 1
  simp [htv] at z0 z1
  generalize hxx : nx t i = x at *
  have hgt : ¬ g = tb := fun h => tne h.symm
  clear t4
  have GM : ∀ q, Go1 (w.alloc (.cells Z9 26)) (((w.alloc (.cells Z9 26)).drewN q).setCell ⟨g, 1, none⟩ (.int .i64 ((i : Int) + 1))) g (i + 1) := fun q => ⟨q, rfl⟩
  have RM : ∀ q, Hid (RW (((w.alloc (.cells Z9 26)).drewN q).setCell ⟨g, 1, none⟩ (.int .i64 ((i : Int) + 1))) g t (i + 1) c wr) := fun q => rwOn RW1 (GM q) hi
  subst hx hal
  have C5 := fun q => dot66_all (RM q) (flOn LW1 (GM q).mo)
  go_enter Tryz.func46, Tryz.ntmps46
  go_wp2_with fail
  go_quiet (fail)
  go_wp2_with (first | (go_at_call 66; (with_reducible refine (C5 _).mono ?_); rintro e w5 ⟨v5, rfl, ⟨cells, F, rfl, T5, F5⟩, M5, R5⟩; obtain ⟨K0, K1, K2, K3, K4, K5, K6⟩ := ret_node R0.out ((GM _).mo.trans M5) R5 (T5.le (by have := (GM 0).mo.size; simp [World.setCell] at this ⊢)) F5) | (refine wpList_store_node rfl (.tmp 2) (.tmp 23) rfl w.heap.size cells Z9 rfl rfl K0 rfl K5 K6 ?_))
  refine bodyPost_ret (results_node rfl _ _ w.heap.size _ rfl K3 K5) rfl ?_
  exact ⟨_, rfl, K4, K1, K2⟩
set_option maxHeartbeats 2000000 in
theorem atom46_dot_false {g : Nat} {t : List Int} {i : Nat} {c : Cs} {w : World} {wr : Wr} (R0 : Hid (RW w g t i c wr)) {fold all : Bool} (L0 : Hid (Fl w g c fold all)) (hi : i < t.length) (hal : all = false) (hx : nx t i = 46) : Calls Tryz.prog 46 #[.pointer (some ⟨g, 0, none⟩)] w fun e w' => ∃ v, e = .returned v ∧ valT w.heap.size (.cls (XG [(10, 10)])) w' v ∧ Mo w w' g ∧ RW w' g t (i + 1) c wr := by
  have hle := R0.out.rd.le
  have hbd := R0.out.rd.bd
  have hgl := R0.out.rd.gl
  have RW1 : Hid (RW (w.alloc (.cells Z9 26)) g t i c wr) := rwBelow R0 (Joins.below_alloc1 w _)
  have LW1 : Hid (Fl (w.alloc (.cells Z9 26)) g c fold all) := flOn L0 (Mo.alloc w g _)
  obtain ⟨ad, cap, htv, t2, t3, t4⟩ := RW1.out.rd.txt
  obtain ⟨tb, rfl, tne, tcell⟩ := t4 i hi
  rw [getD_nx hi] at tcell
  have z0 := Joins.cell_of_block RW1.out.rd.blk 0
  have z1 := Joins.cell_of_block RW1.out.rd.blk 1
  have f1 := Joins.unfrozen_of_block RW1.out.rd.blk 1
  simp [htv] at z0 z1
  generalize hxx : nx t i = x at *
  have hgt : ¬ g = tb := fun h => tne h.symm
  clear t4
  have GM : ∀ q, Go1 (w.alloc (.cells Z9 26)) (((w.alloc (.cells Z9 26)).drewN q).setCell ⟨g, 1, none⟩ (.int .i64 ((i : Int) + 1))) g (i + 1) := fun q => ⟨q, rfl⟩
  have RM : ∀ q, Hid (RW (((w.alloc (.cells Z9 26)).drewN q).setCell ⟨g, 1, none⟩ (.int .i64 ((i : Int) + 1))) g t (i + 1) c wr) := fun q => rwOn RW1 (GM q) hi
  subst hx hal
  have C5 := fun q => dot66_not (RM q) (flOn LW1 (GM q).mo)
  go_enter Tryz.func46, Tryz.ntmps46
  go_wp2_with fail
  go_quiet (fail)
  go_wp2_with (first | (go_at_call 66; (with_reducible refine (C5 _).mono ?_); rintro e w5 ⟨v5, rfl, ⟨cells, F, rfl, T5, F5⟩, M5, R5⟩; obtain ⟨K0, K1, K2, K3, K4, K5, K6⟩ := ret_node R0.out ((GM _).mo.trans M5) R5 (T5.le (by have := (GM 0).mo.size; simp [World.setCell] at this ⊢)) F5) | (refine wpList_store_node rfl (.tmp 2) (.tmp 23) rfl w.heap.size cells Z9 rfl rfl K0 rfl K5 K6 ?_))
  refine bodyPost_ret (results_node rfl _ _ w.heap.size _ rfl K3 K5) rfl ?_
  exact ⟨_, rfl, K4, K1, K2⟩
set_option maxHeartbeats 2000000 in
theorem atom46_cls_e {g : Nat} {t : List Int} {i : Nat} {c : Cs} {w : World} {wr : Wr} (R0 : Hid (RW w g t i c wr)) {fold all : Bool} (L0 : Hid (Fl w g c fold all)) (hi : i < t.length) (hx : nx t i = 91) {k : Nat} (hz : classP t fold i wr = .error k) : Calls Tryz.prog 46 #[.pointer (some ⟨g, 0, none⟩)] w fun e w' => e = Gave k ∧ Mo w w' g := by
  have hle := R0.out.rd.le
  have hbd := R0.out.rd.bd
  have hgl := R0.out.rd.gl
  have RW1 : Hid (RW (w.alloc (.cells Z9 26)) g t i c wr) := rwBelow R0 (Joins.below_alloc1 w _)
  have LW1 : Hid (Fl (w.alloc (.cells Z9 26)) g c fold all) := flOn L0 (Mo.alloc w g _)
  obtain ⟨ad, cap, htv, t2, t3, t4⟩ := RW1.out.rd.txt
  obtain ⟨tb, rfl, tne, tcell⟩ := t4 i hi
  rw [getD_nx hi] at tcell
  have z0 := Joins.cell_of_block RW1.out.rd.blk 0
  have z1 := Joins.cell_of_block RW1.out.rd.blk 1
  have f1 := Joins.unfrozen_of_block RW1.out.rd.blk 1
  simp [htv] at z0 z1
  generalize hxx : nx t i = x at *
  have hgt : ¬ g = tb := fun h => tne h.symm
  clear t4
  have G0 : ∀ q, Go1 (w.alloc (.cells Z9 26)) ((w.alloc (.cells Z9 26)).drewN q) g i := fun q => Go1.stay RW1.out.rd q
  have RQ : ∀ q, Hid (RW ((w.alloc (.cells Z9 26)).drewN q) g t i c wr) := fun q => rwOn RW1 (G0 q) hle
  have hcc : nx t i = 91 := hxx.trans hx
  subst hx
  have C5 := fun q => endE (class67 (RQ q) (flOn LW1 (G0 q).mo) hcc) hz
  go_enter Tryz.func46, Tryz.ntmps46
  go_wp2_with fail
  go_quiet (fail)
  go_wp2_with (go_at_call 67; (with_reducible refine (C5 _).mono ?_); rintro e w5 ⟨rfl, M5⟩)
  exact ⟨rfl, rfl, (Mo.alloc w g _).trans ((G0 _).mo.trans M5)⟩
set_option maxHeartbeats 2000000 in
theorem atom46_cls_o {g : Nat} {t : List Int} {i : Nat} {c : Cs} {w : World} {wr : Wr} (R0 : Hid (RW w g t i c wr)) {fold all : Bool} (L0 : Hid (Fl w g c fold all)) (hi : i < t.length) (hx : nx t i = 91) {L1 : Rng} {k : Nat} {wr2 : Wr} (hz : classP t fold i wr = .ok (L1, k, wr2)) : Calls Tryz.prog 46 #[.pointer (some ⟨g, 0, none⟩)] w fun e w' => ∃ v, e = .returned v ∧ valT w.heap.size (.cls L1) w' v ∧ Mo w w' g ∧ RW w' g t k c wr2 := by
  have hle := R0.out.rd.le
  have hbd := R0.out.rd.bd
  have hgl := R0.out.rd.gl
  have RW1 : Hid (RW (w.alloc (.cells Z9 26)) g t i c wr) := rwBelow R0 (Joins.below_alloc1 w _)
  have LW1 : Hid (Fl (w.alloc (.cells Z9 26)) g c fold all) := flOn L0 (Mo.alloc w g _)
  obtain ⟨ad, cap, htv, t2, t3, t4⟩ := RW1.out.rd.txt
  obtain ⟨tb, rfl, tne, tcell⟩ := t4 i hi
  rw [getD_nx hi] at tcell
  have z0 := Joins.cell_of_block RW1.out.rd.blk 0
  have z1 := Joins.cell_of_block RW1.out.rd.blk 1
  have f1 := Joins.unfrozen_of_block RW1.out.rd.blk 1
  simp [htv] at z0 z1
  generalize hxx : nx t i = x at *
  have hgt : ¬ g = tb := fun h => tne h.symm
  clear t4
  have G0 : ∀ q, Go1 (w.alloc (.cells Z9 26)) ((w.alloc (.cells Z9 26)).drewN q) g i := fun q => Go1.stay RW1.out.rd q
  have RQ : ∀ q, Hid (RW ((w.alloc (.cells Z9 26)).drewN q) g t i c wr) := fun q => rwOn RW1 (G0 q) hle
  have hcc : nx t i = 91 := hxx.trans hx
  subst hx
  have C5 := fun q => clsT (endO (class67 (RQ q) (flOn LW1 (G0 q).mo) hcc) hz)
  go_enter Tryz.func46, Tryz.ntmps46
  go_wp2_with fail
  go_quiet (fail)
  go_wp2_with (first | (go_at_call 67; (with_reducible refine (C5 _).mono ?_); rintro e w5 ⟨v5, rfl, ⟨cells, F, rfl, T5, F5⟩, M5, R5⟩; obtain ⟨K0, K1, K2, K3, K4, K5, K6⟩ := ret_node R0.out ((G0 _).mo.trans M5) R5 (T5.le (by simp)) F5) | (refine wpList_store_node rfl (.tmp 2) (.tmp 47) rfl w.heap.size cells Z9 rfl rfl K0 rfl K5 K6 ?_))
  refine bodyPost_ret (results_node rfl _ _ w.heap.size _ rfl K3 K5) rfl ?_
  exact ⟨_, rfl, K4, K1, K2⟩
set_option maxHeartbeats 2000000 in
theorem atom46_esc_a {g : Nat} {t : List Int} {i : Nat} {c : Cs} {w : World} {wr : Wr} (R0 : Hid (RW w g t i c wr)) {fold all : Bool} (L0 : Hid (Fl w g c fold all)) (hi : i < t.length) (hx : nx t i = 92) {y : Int} (hy : t.getD (i + 1) 0 = y) {a : Int} (ha : assertL y = a) (hne : ¬ a = 0) : Calls Tryz.prog 46 #[.pointer (some ⟨g, 0, none⟩)] w fun e w' => ∃ v, e = .returned v ∧ valT w.heap.size (.asr a) w' v ∧ Mo w w' g ∧ RW w' g t (i + 2) c wr := by
  have hle := R0.out.rd.le
  have hbd := R0.out.rd.bd
  have hgl := R0.out.rd.gl
  have RW1 : Hid (RW (w.alloc (.cells Z9 26)) g t i c wr) := rwBelow R0 (Joins.below_alloc1 w _)
  have LW1 : Hid (Fl (w.alloc (.cells Z9 26)) g c fold all) := flOn L0 (Mo.alloc w g _)
  obtain ⟨ad, cap, htv, t2, t3, t4⟩ := RW1.out.rd.txt
  obtain ⟨tb, rfl, tne, tcell⟩ := t4 i hi
  rw [getD_nx hi] at tcell
  have z0 := Joins.cell_of_block RW1.out.rd.blk 0
  have z1 := Joins.cell_of_block RW1.out.rd.blk 1
  have f1 := Joins.unfrozen_of_block RW1.out.rd.blk 1
  simp [htv] at z0 z1
  generalize hxx : nx t i = x at *
  have hgt : ¬ g = tb := fun h => tne h.symm
  clear t4
  have G0 : ∀ q, Go1 (w.alloc (.cells Z9 26)) ((w.alloc (.cells Z9 26)).drewN q) g i := fun q => Go1.stay RW1.out.rd q
  have RQ : ∀ q, Hid (RW ((w.alloc (.cells Z9 26)).drewN q) g t i c wr) := fun q => rwOn RW1 (G0 q) hle
  have hcc : nx t i = 92 := hxx.trans hx
  subst hx
  have C5 := fun q => escape68_a (RQ q) (flOn LW1 (G0 q).mo) hcc hy ha hne
  go_enter Tryz.func46, Tryz.ntmps46
  go_wp2_with fail
  go_quiet (fail)
  go_wp2_with (first | (go_at_call 68; (with_reducible refine (C5 _).mono ?_); rintro e w5 ⟨v5, rfl, ⟨cells, F, rfl, T5, F5⟩, M5, R5⟩; obtain ⟨K0, K1, K2, K3, K4, K5, K6⟩ := ret_node R0.out ((G0 _).mo.trans M5) R5 (T5.le (by simp)) F5) | (refine wpList_store_node rfl (.tmp 2) (.tmp 51) rfl w.heap.size cells Z9 rfl rfl K0 rfl K5 K6 ?_))
  refine bodyPost_ret (results_node rfl _ _ w.heap.size _ rfl K3 K5) rfl ?_
  exact ⟨_, rfl, K4, K1, K2⟩
set_option maxHeartbeats 2000000 in
theorem atom46_esc_b {g : Nat} {t : List Int} {i : Nat} {c : Cs} {w : World} {wr : Wr} (R0 : Hid (RW w g t i c wr)) {fold all : Bool} (L0 : Hid (Fl w g c fold all)) (hi : i < t.length) (hx : nx t i = 92) {y : Int} (hy : t.getD (i + 1) 0 = y) (ha : assertL y = 0) {L1 : Rng} (hs : setL y = some L1) : Calls Tryz.prog 46 #[.pointer (some ⟨g, 0, none⟩)] w fun e w' => ∃ v, e = .returned v ∧ valT w.heap.size (.cls L1) w' v ∧ Mo w w' g ∧ RW w' g t (i + 2) c wr := by
  have hle := R0.out.rd.le
  have hbd := R0.out.rd.bd
  have hgl := R0.out.rd.gl
  have RW1 : Hid (RW (w.alloc (.cells Z9 26)) g t i c wr) := rwBelow R0 (Joins.below_alloc1 w _)
  have LW1 : Hid (Fl (w.alloc (.cells Z9 26)) g c fold all) := flOn L0 (Mo.alloc w g _)
  obtain ⟨ad, cap, htv, t2, t3, t4⟩ := RW1.out.rd.txt
  obtain ⟨tb, rfl, tne, tcell⟩ := t4 i hi
  rw [getD_nx hi] at tcell
  have z0 := Joins.cell_of_block RW1.out.rd.blk 0
  have z1 := Joins.cell_of_block RW1.out.rd.blk 1
  have f1 := Joins.unfrozen_of_block RW1.out.rd.blk 1
  simp [htv] at z0 z1
  generalize hxx : nx t i = x at *
  have hgt : ¬ g = tb := fun h => tne h.symm
  clear t4
  have G0 : ∀ q, Go1 (w.alloc (.cells Z9 26)) ((w.alloc (.cells Z9 26)).drewN q) g i := fun q => Go1.stay RW1.out.rd q
  have RQ : ∀ q, Hid (RW ((w.alloc (.cells Z9 26)).drewN q) g t i c wr) := fun q => rwOn RW1 (G0 q) hle
  have hcc : nx t i = 92 := hxx.trans hx
  subst hx
  have C5 := fun q => escape68_b (RQ q) (flOn LW1 (G0 q).mo) hcc hy ha hs
  go_enter Tryz.func46, Tryz.ntmps46
  go_wp2_with fail
  go_quiet (fail)
  go_wp2_with (first | (go_at_call 68; (with_reducible refine (C5 _).mono ?_); rintro e w5 ⟨v5, rfl, ⟨cells, F, rfl, T5, F5⟩, M5, R5⟩; obtain ⟨K0, K1, K2, K3, K4, K5, K6⟩ := ret_node R0.out ((G0 _).mo.trans M5) R5 (T5.le (by simp)) F5) | (refine wpList_store_node rfl (.tmp 2) (.tmp 51) rfl w.heap.size cells Z9 rfl rfl K0 rfl K5 K6 ?_))
  refine bodyPost_ret (results_node rfl _ _ w.heap.size _ rfl K3 K5) rfl ?_
  exact ⟨_, rfl, K4, K1, K2⟩
set_option maxHeartbeats 2000000 in
theorem atom46_esc_c {g : Nat} {t : List Int} {i : Nat} {c : Cs} {w : World} {wr : Wr} (R0 : Hid (RW w g t i c wr)) {fold all : Bool} (L0 : Hid (Fl w g c fold all)) (hi : i < t.length) (hx : nx t i = 92) {y : Int} (hy : t.getD (i + 1) 0 = y) (ha : assertL y = 0) (hs : setL y = none) {k : Nat} (hz : single2 t i wr = .error k) : Calls Tryz.prog 46 #[.pointer (some ⟨g, 0, none⟩)] w fun e w' => e = Gave k ∧ Mo w w' g := by
  have hle := R0.out.rd.le
  have hbd := R0.out.rd.bd
  have hgl := R0.out.rd.gl
  have RW1 : Hid (RW (w.alloc (.cells Z9 26)) g t i c wr) := rwBelow R0 (Joins.below_alloc1 w _)
  have LW1 : Hid (Fl (w.alloc (.cells Z9 26)) g c fold all) := flOn L0 (Mo.alloc w g _)
  obtain ⟨ad, cap, htv, t2, t3, t4⟩ := RW1.out.rd.txt
  obtain ⟨tb, rfl, tne, tcell⟩ := t4 i hi
  rw [getD_nx hi] at tcell
  have z0 := Joins.cell_of_block RW1.out.rd.blk 0
  have z1 := Joins.cell_of_block RW1.out.rd.blk 1
  have f1 := Joins.unfrozen_of_block RW1.out.rd.blk 1
  simp [htv] at z0 z1
  generalize hxx : nx t i = x at *
  have hgt : ¬ g = tb := fun h => tne h.symm
  clear t4
  have G0 : ∀ q, Go1 (w.alloc (.cells Z9 26)) ((w.alloc (.cells Z9 26)).drewN q) g i := fun q => Go1.stay RW1.out.rd q
  have RQ : ∀ q, Hid (RW ((w.alloc (.cells Z9 26)).drewN q) g t i c wr) := fun q => rwOn RW1 (G0 q) hle
  have hcc : nx t i = 92 := hxx.trans hx
  subst hx
  have C5 := fun q => escape68_c (RQ q) (flOn LW1 (G0 q).mo) hcc hy ha hs hz
  go_enter Tryz.func46, Tryz.ntmps46
  go_wp2_with fail
  go_quiet (fail)
  go_wp2_with (go_at_call 68; (with_reducible refine (C5 _).mono ?_); rintro e w5 ⟨rfl, M5⟩)
  exact ⟨rfl, rfl, (Mo.alloc w g _).trans ((G0 _).mo.trans M5)⟩
set_option maxHeartbeats 2000000 in
theorem atom46_esc_d {g : Nat} {t : List Int} {i : Nat} {c : Cs} {w : World} {wr : Wr} (R0 : Hid (RW w g t i c wr)) {fold all : Bool} (L0 : Hid (Fl w g c fold all)) (hi : i < t.length) (hx : nx t i = 92) {y : Int} (hy : t.getD (i + 1) 0 = y) (ha : assertL y = 0) (hs : setL y = none) {cd : Int} {b : Bool} {k : Nat} {wr2 : Wr} (hz : single2 t i wr = .ok ((cd, b), k, wr2)) : Calls Tryz.prog 46 #[.pointer (some ⟨g, 0, none⟩)] w fun e w' => ∃ v, e = .returned v ∧ valT w.heap.size (.cls (about fold [(cd, cd)])) w' v ∧ Mo w w' g ∧ RW w' g t k c wr2 := by
  have hle := R0.out.rd.le
  have hbd := R0.out.rd.bd
  have hgl := R0.out.rd.gl
  have RW1 : Hid (RW (w.alloc (.cells Z9 26)) g t i c wr) := rwBelow R0 (Joins.below_alloc1 w _)
  have LW1 : Hid (Fl (w.alloc (.cells Z9 26)) g c fold all) := flOn L0 (Mo.alloc w g _)
  obtain ⟨ad, cap, htv, t2, t3, t4⟩ := RW1.out.rd.txt
  obtain ⟨tb, rfl, tne, tcell⟩ := t4 i hi
  rw [getD_nx hi] at tcell
  have z0 := Joins.cell_of_block RW1.out.rd.blk 0
  have z1 := Joins.cell_of_block RW1.out.rd.blk 1
  have f1 := Joins.unfrozen_of_block RW1.out.rd.blk 1
  simp [htv] at z0 z1
  generalize hxx : nx t i = x at *
  have hgt : ¬ g = tb := fun h => tne h.symm
  clear t4
  have G0 : ∀ q, Go1 (w.alloc (.cells Z9 26)) ((w.alloc (.cells Z9 26)).drewN q) g i := fun q => Go1.stay RW1.out.rd q
  have RQ : ∀ q, Hid (RW ((w.alloc (.cells Z9 26)).drewN q) g t i c wr) := fun q => rwOn RW1 (G0 q) hle
  have hcc : nx t i = 92 := hxx.trans hx
  subst hx
  have C5 := fun q => escape68_d (RQ q) (flOn LW1 (G0 q).mo) hcc hy ha hs hz
  go_enter Tryz.func46, Tryz.ntmps46
  go_wp2_with fail
  go_quiet (fail)
  go_wp2_with (first | (go_at_call 68; (with_reducible refine (C5 _).mono ?_); rintro e w5 ⟨v5, rfl, ⟨cells, F, rfl, T5, F5⟩, M5, R5⟩; obtain ⟨K0, K1, K2, K3, K4, K5, K6⟩ := ret_node R0.out ((G0 _).mo.trans M5) R5 (T5.le (by simp)) F5) | (refine wpList_store_node rfl (.tmp 2) (.tmp 51) rfl w.heap.size cells Z9 rfl rfl K0 rfl K5 K6 ?_))
  refine bodyPost_ret (results_node rfl _ _ w.heap.size _ rfl K3 K5) rfl ?_
  exact ⟨_, rfl, K4, K1, K2⟩
set_option maxHeartbeats 2000000 in
theorem atom46_lit_e {g : Nat} {t : List Int} {i : Nat} {c : Cs} {w : World} {wr : Wr} (R0 : Hid (RW w g t i c wr)) {fold all : Bool} (L0 : Hid (Fl w g c fold all)) (hi : i < t.length) (n1 : ¬ nx t i = 46) (n2 : ¬ nx t i = 94) (n3 : ¬ nx t i = 36) (n4 : ¬ nx t i = 91) (n5 : ¬ nx t i = 92) {k : Nat} (hz : runeBut t notPlain i = .error k) : Calls Tryz.prog 46 #[.pointer (some ⟨g, 0, none⟩)] w fun e w' => e = Gave k ∧ Mo w w' g := by
  have hle := R0.out.rd.le
  have hbd := R0.out.rd.bd
  have hgl := R0.out.rd.gl
  have RW1 : Hid (RW (w.alloc (.cells Z9 26)) g t i c wr) := rwBelow R0 (Joins.below_alloc1 w _)
  have LW1 : Hid (Fl (w.alloc (.cells Z9 26)) g c fold all) := flOn L0 (Mo.alloc w g _)
  obtain ⟨ad, cap, htv, t2, t3, t4⟩ := RW1.out.rd.txt
  obtain ⟨tb, rfl, tne, tcell⟩ := t4 i hi
  rw [getD_nx hi] at tcell
  have z0 := Joins.cell_of_block RW1.out.rd.blk 0
  have z1 := Joins.cell_of_block RW1.out.rd.blk 1
  have f1 := Joins.unfrozen_of_block RW1.out.rd.blk 1
  simp [htv] at z0 z1
  generalize hxx : nx t i = x at *
  have hgt : ¬ g = tb := fun h => tne h.symm
  clear t4
  have G0 : ∀ q, Go1 (w.alloc (.cells Z9 26)) ((w.alloc (.cells Z9 26)).drewN q) g i := fun q => Go1.stay RW1.out.rd q
  have RQ : ∀ q, Hid (RW ((w.alloc (.cells Z9 26)).drewN q) g t i c wr) := fun q => rwOn RW1 (G0 q) hle
  have C5 := fun q => runeN (RQ q) ⟨#[92, 46, 43, 42, 63, 40, 41, 124, 91, 93, 123, 125, 94, 36]⟩ hz
  go_enter Tryz.func46, Tryz.ntmps46
  go_wp2_with fail
  go_quiet (fail)
  go_wp2_with (go_at_call 70; (with_reducible refine (C5 _).mono ?_); rintro e w5 ⟨rfl, G5⟩)
  exact ⟨rfl, rfl, (Mo.alloc w g _).trans ((G0 _).mo.trans G5.mo)⟩
set_option maxHeartbeats 2000000 in
theorem atom46_lit_o {g : Nat} {t : List Int} {i : Nat} {c : Cs} {w : World} {wr : Wr} (R0 : Hid (RW w g t i c wr)) {fold all : Bool} (L0 : Hid (Fl w g c fold all)) (hi : i < t.length) (n1 : ¬ nx t i = 46) (n2 : ¬ nx t i = 94) (n3 : ¬ nx t i = 36) (n4 : ¬ nx t i = 91) (n5 : ¬ nx t i = 92) {cd : Int} {k : Nat} (hz : runeBut t notPlain i = .ok (cd, k)) : Calls Tryz.prog 46 #[.pointer (some ⟨g, 0, none⟩)] w fun e w' => ∃ v, e = .returned v ∧ valT w.heap.size (.cls (about fold [(cd, cd)])) w' v ∧ Mo w w' g ∧ RW w' g t k c wr := by
  have hle := R0.out.rd.le
  have hbd := R0.out.rd.bd
  have hgl := R0.out.rd.gl
  have RW1 : Hid (RW (w.alloc (.cells Z9 26)) g t i c wr) := rwBelow R0 (Joins.below_alloc1 w _)
  have LW1 : Hid (Fl (w.alloc (.cells Z9 26)) g c fold all) := flOn L0 (Mo.alloc w g _)
  obtain ⟨ad, cap, htv, t2, t3, t4⟩ := RW1.out.rd.txt
  obtain ⟨tb, rfl, tne, tcell⟩ := t4 i hi
  rw [getD_nx hi] at tcell
  have z0 := Joins.cell_of_block RW1.out.rd.blk 0
  have z1 := Joins.cell_of_block RW1.out.rd.blk 1
  have f1 := Joins.unfrozen_of_block RW1.out.rd.blk 1
  simp [htv] at z0 z1
  generalize hxx : nx t i = x at *
  have hgt : ¬ g = tb := fun h => tne h.symm
  clear t4
  have G0 : ∀ q, Go1 (w.alloc (.cells Z9 26)) ((w.alloc (.cells Z9 26)).drewN q) g i := fun q => Go1.stay RW1.out.rd q
  have RQ : ∀ q, Hid (RW ((w.alloc (.cells Z9 26)).drewN q) g t i c wr) := fun q => rwOn RW1 (G0 q) hle
  have hkk := (runeBut_bd hz).2
  have C4 := fun q => runeE (RQ q) ⟨#[92, 46, 43, 42, 63, 40, 41, 124, 91, 93, 123, 125, 94, 36]⟩ hz
  go_enter Tryz.func46, Tryz.ntmps46
  go_wp2_with fail
  go_quiet (fail)
  go_wp2_with (go_at_call 70; (with_reducible refine (C4 _).mono ?_); rintro e w4 ⟨rfl, G4⟩; have R4 := rwOn (RQ _) G4 hkk; have M4 := (G0 _).mo.trans G4.mo)
  have C5 := literal69 R4 (flOn LW1 M4) cd
  go_wp2_with (first | (go_at_call 69; (with_reducible refine C5.mono ?_); rintro e w5 ⟨v5, rfl, ⟨cells, F, rfl, T5, F5⟩, M5, R5⟩; obtain ⟨K0, K1, K2, K3, K4, K5, K6⟩ := ret_node R0.out (M4.trans M5) R5 (T5.le (by have := M4.size; simpa using this)) F5) | (refine wpList_store_node rfl (.tmp 2) (.tmp 55) rfl w.heap.size cells Z9 rfl rfl K0 rfl K5 K6 ?_))
  refine bodyPost_ret (results_node rfl _ _ w.heap.size _ rfl K3 K5) rfl ?_
  exact ⟨_, rfl, K4, K1, K2⟩
end Go.Proofs.YtenanfkmmkmolaaGreatDoor
/- HELPERS: an atom with its count. -/
namespace Go.Proofs.YtenanfkmmkmolaaGreatDoor
open Go.RowKit Go.Mx
set_option linter.unusedVariables false
set_option linter.unusedSimpArgs false
theorem blk9 {w : World} {b : Nat} {a0 a1 a2 a3 a4 a5 a6 a7 a8 : Value} (h : w.heap[b]? = some (.cells #[a0, a1, a2, a3, a4, a5, a6, a7, a8] 26 (0, 0))) :
    w.cell? ⟨b, 0, none⟩ = some a0 ∧ w.cell? ⟨b, 1, none⟩ = some a1 ∧ w.cell? ⟨b, 2, none⟩ = some a2 ∧ w.cell? ⟨b, 3, none⟩ = some a3 ∧ w.cell? ⟨b, 4, none⟩ = some a4 ∧ w.cell? ⟨b, 5, none⟩ = some a5 ∧ w.cell? ⟨b, 6, none⟩ = some a6 ∧ w.cell? ⟨b, 7, none⟩ = some a7 ∧ w.cell? ⟨b, 8, none⟩ = some a8 := by
  have f := fun i => Joins.cell_of_block h i
  exact ⟨f 0, f 1, f 2, f 3, f 4, f 5, f 6, f 7, f 8⟩
theorem frz9 {w : World} {b : Nat} {cs : Array Value} (h : w.heap[b]? = some (.cells cs 26 (0, 0))) :
    w.frozen? ⟨b, 0, none⟩ = false ∧ w.frozen? ⟨b, 1, none⟩ = false ∧ w.frozen? ⟨b, 2, none⟩ = false ∧ w.frozen? ⟨b, 3, none⟩ = false ∧ w.frozen? ⟨b, 4, none⟩ = false ∧ w.frozen? ⟨b, 5, none⟩ = false ∧ w.frozen? ⟨b, 6, none⟩ = false ∧ w.frozen? ⟨b, 7, none⟩ = false ∧ w.frozen? ⟨b, 8, none⟩ = false := by
  have f := fun i => Joins.unfrozen_of_block h i
  exact ⟨f 0, f 1, f 2, f 3, f 4, f 5, f 6, f 7, f 8⟩
/-- what a call that moves the reader alone leaves of two blocks of nodes -/
theorem two_blk {w1 w2 : World} {g b : Nat} {A B : Array Value} (hm : Mo w1 w2 g) (h1 : w1.heap[b]? = some (.cells A 26 (0, 0))) (h2 : w1.heap[b + 1]? = some (.cells B 26 (0, 0))) (hg : g < b) :
    w2.heap[b]? = some (.cells A 26 (0, 0)) ∧ w2.heap[b + 1]? = some (.cells B 26 (0, 0)) ∧ b < w2.heap.size ∧ b + 1 < w2.heap.size ∧ ¬ b = w2.heap.size ∧ ¬ b + 1 = w2.heap.size := by
  have l1 := (Array.getElem?_eq_some_iff.1 h1).1
  have l2 := (Array.getElem?_eq_some_iff.1 h2).1
  have e1 := (hm.block b l1 (by omega)).trans h1
  have e2 := (hm.block (b + 1) l2 (by omega)).trans h2
  have m2 := (Array.getElem?_eq_some_iff.1 e2).1
  exact ⟨e1, e2, by omega, m2, by omega, by omega⟩
theorem Rd.drew {w : World} {g : Nat} {t : List Int} {i : Nat} {tv ov gv mv xv : Value} (h : Rd w g t i tv ov gv mv xv) : Rd w.drew g t i tv ov gv mv xv := ⟨h.blk, h.txt, h.le, h.bd, h.byt⟩
theorem Rd.alloc {w : World} {g : Nat} {t : List Int} {i : Nat} {tv ov gv mv xv : Value} (h : Rd w g t i tv ov gv mv xv) (o : Obj) : Rd (w.alloc o) g t i tv ov gv mv xv := ⟨(heap_alloc_old w o h.gl).trans h.blk, h.txt.mo (Mo.alloc w g o), h.le, h.bd, h.byt⟩
theorem setCell_row {w : World} {b i : Nat} {cs : Array Value} {ty : TypeId} (h : w.heap[b]? = some (.cells cs ty (0, 0))) (v : Value) : w.setCell ⟨b, i, none⟩ v = w.setRow b (cs.setIfInBounds i v) := by
  have e : (w.setCell ⟨b, i, none⟩ v).heap = (w.setRow b (cs.setIfInBounds i v)).heap := by
    apply Array.ext_getElem?
    intro k
    by_cases hk : k = b
    · subst hk
      rw [setRow_heap _ _ _ _ _ _ h, Joins.block_setCell h]
    · rw [setRow_other _ _ _ _ hk, Below.heap_setCell _ _ _ _ hk]
  have e2 : w.setCell ⟨b, i, none⟩ v = { w.setRow b (cs.setIfInBounds i v) with heap := (w.setCell ⟨b, i, none⟩ v).heap } := rfl
  rw [e2, e]
theorem setRow_cell {w : World} {b i : Nat} {cs cs' : Array Value} {ty : TypeId} (h : w.heap[b]? = some (.cells cs ty (0, 0))) (v : Value) : (w.setRow b cs').setCell ⟨b, i, none⟩ v = w.setRow b (cs'.setIfInBounds i v) := by
  rw [setCell_row (setRow_heap _ _ _ _ _ _ h), setRow_setRow]
theorem set9_eq {w : World} {b : Nat} {c0 c1 c2 c3 c4 c5 c6 c7 c8 : Value} {ty : TypeId} (h : w.heap[b]? = some (.cells #[c0, c1, c2, c3, c4, c5, c6, c7, c8] ty (0, 0))) (v0 v1 v2 v3 v4 v5 v6 v7 v8 : Value) :
    ((((((((w.setCell ⟨b, 0, none⟩ v0).setCell ⟨b, 1, none⟩ v1).setCell ⟨b, 2, none⟩ v2).setCell ⟨b, 3, none⟩ v3).setCell ⟨b, 4, none⟩ v4).setCell ⟨b, 5, none⟩ v5).setCell ⟨b, 6, none⟩ v6).setCell ⟨b, 7, none⟩ v7).setCell ⟨b, 8, none⟩ v8 = w.setRow b #[v0, v1, v2, v3, v4, v5, v6, v7, v8] := by
  rw [setCell_row h, setRow_cell h, setRow_cell h, setRow_cell h, setRow_cell h, setRow_cell h, setRow_cell h, setRow_cell h, setRow_cell h]
  have e : ((((((((((#[c0, c1, c2, c3, c4, c5, c6, c7, c8] : Array Value).setIfInBounds 0 v0).setIfInBounds 1 v1).setIfInBounds 2 v2).setIfInBounds 3 v3).setIfInBounds 4 v4).setIfInBounds 5 v5).setIfInBounds 6 v6).setIfInBounds 7 v7).setIfInBounds 8 v8) = #[v0, v1, v2, v3, v4, v5, v6, v7, v8] := by
    apply Array.toList_inj.1
    simp
  rw [e]
theorem none_facts {g : Nat} {w w1 : World} {t : List Int} {i0 i : Nat} {c : Cs} {wr0 wr : Wr} {A : Array Value} (R0 : RW w g t i0 c wr0) (hm : Mo ((w.alloc (.cells A 26)).alloc (.cells Z9 26)) w1 g) (R1 : RW w1 g t i c wr) :
    (∀ V, RW (w1.setRow (w.heap.size + 1) V) g t i c wr) ∧ RW w1 g t i c wr ∧ w1.heap[w.heap.size]? = some (.cells A 26 (0, 0)) ∧ w1.heap[w.heap.size + 1]? = some (.cells Z9 26 (0, 0)) ∧ ∀ V, Mo w (w1.setRow (w.heap.size + 1) V) g := by
  have hgl := R0.rd.gl
  have hs := hm.size
  simp at hs
  have hM : ∀ V, Mo w (w1.setRow (w.heap.size + 1) V) g := fun V => ⟨hm.os, hm.tape, hm.output, by simp; omega, fun k hk hne => by
    rw [setRow_other _ _ _ _ (by omega), hm.block k (by simp; omega) hne, heap_alloc_old _ _ (by simp; omega), heap_alloc_old _ _ hk]⟩
  refine ⟨fun V => R0.mo (hM V) ?_ R1.rd.le, R1, (hm.block _ (by simp; omega) (by omega)).trans ((heap_alloc_old _ _ (by simp)).trans (heap_alloc_new w _)), (hm.block _ (by simp) (by omega)).trans (by have := heap_alloc_new (w.alloc (.cells A 26)) (.cells Z9 26); simpa using this), hM⟩
  rw [setRow_other _ _ _ _ (by omega)]
  exact R1.rd.blk
abbrev valP (x : Int × Int) (_ : World) (v : Value) : Prop := v = .tuple #[.int .i64 x.1, .int .i64 x.2]
theorem endON {f : Nat} {args : Array Value} {w : World} {g : Nat} {t : List Int} {c : Cs} {r : Except Nat ((Int × Int) × Nat × Wr)} {x y : Int} {k : Nat} {wr : Wr} (h : Calls Tryz.prog f args w fun e w' => EndW e w w' g t c valP r) (hr : r = .ok ((x, y), k, wr)) :
    Calls Tryz.prog f args w fun e w' => e = .returned (.tuple #[.int .i64 x, .int .i64 y]) ∧ Mo w w' g ∧ RW w' g t k c wr := by
  subst hr
  refine h.mono ?_
  rintro e w' ⟨v, h1, rfl, h2, h3⟩
  exact ⟨h1, h2, h3⟩
theorem numbers86 {g : Nat} {t : List Int} {i : Nat} {c : Cs} {w : World} {wr : Wr} (R0 : Hid (RW w g t i c wr)) : Calls Tryz.prog 86 #[.pointer (some ⟨g, 0, none⟩)] w fun e w' => EndW e w w' g t c valP (numbers t i wr) := by
  unfold numbers
  by_cases h : nx t i = 123
  · rw [if_pos h]
    cases hn : number t (i + 1) with
    | error k => exact numbers86_b R0 h hn
    | ok y =>
      obtain ⟨lo, j⟩ := y
      simp only
      by_cases h1 : nx t j = 44
      · rw [if_pos h1]
        by_cases h2 : nx t (j + 1) = 125
        · rw [if_pos h2]
          by_cases hb : lo > 1000
          · rw [noteIf, if_pos (by simpa using hb)]
            exact (numbers86_c1 R0 h hn h1 h2 hb).mono fun e w' ⟨e1, e2, e3⟩ => ⟨_, e1, rfl, e2, e3⟩
          · rw [noteIf, if_neg (by simpa using hb)]
            exact (numbers86_c0 R0 h hn h1 h2 hb).mono fun e w' ⟨e1, e2, e3⟩ => ⟨_, e1, rfl, e2, e3⟩
        · rw [if_neg h2]
          cases hm : number t (j + 1) with
          | error k => exact numbers86_d R0 h hn h1 h2 hm
          | ok y2 =>
            obtain ⟨hi, k⟩ := y2
            simp only
            by_cases h3 : nx t k = 125
            · rw [if_pos h3]
              by_cases hb : lo > 1000 ∨ hi > 1000
              · rw [noteIf, if_pos (by simp; omega)]
                exact (numbers86_e1 R0 h hn h1 h2 hm h3 hb).mono fun e w' ⟨e1, e2, e3⟩ => ⟨_, e1, rfl, e2, e3⟩
              · by_cases hb2 : hi < lo
                · rw [noteIf, if_pos (by simp; omega)]
                  exact (numbers86_e2 R0 h hn h1 h2 hm h3 ⟨hb, hb2⟩).mono fun e w' ⟨e1, e2, e3⟩ => ⟨_, e1, rfl, e2, e3⟩
                · rw [noteIf, if_neg (by simp; omega)]
                  exact (numbers86_e0 R0 h hn h1 h2 hm h3 (by omega)).mono fun e w' ⟨e1, e2, e3⟩ => ⟨_, e1, rfl, e2, e3⟩
            · rw [if_neg h3]
              exact numbers86_e R0 h hn h1 h2 hm h3
      · rw [if_neg h1]
        by_cases h2 : nx t j = 125
        · rw [if_pos h2]
          by_cases hb : lo > 1000
          · rw [noteIf, if_pos (by simpa using hb)]
            exact (numbers86_f2 R0 h hn h1 h2 hb).mono fun e w' ⟨e1, e2, e3⟩ => ⟨_, e1, rfl, e2, e3⟩
          · rw [noteIf, if_neg (by simpa using hb)]
            exact (numbers86_f1 R0 h hn h1 h2 hb).mono fun e w' ⟨e1, e2, e3⟩ => ⟨_, e1, rfl, e2, e3⟩
        · rw [if_neg h2]
          exact numbers86_f0 R0 h hn h1 h2
  · rw [if_neg h]
    exact numbers86_a R0 h
abbrev repL (lo hi : Int) (lz : Bool) (nb : Nat) : List Value := [.int .i64 6, .slice none 0 0, .int .i64 0, .slice (some ⟨nb, 0, none⟩) 1 1, .int .i64 lo, .int .i64 hi, .bool lz, .int .i64 0, .string ⟨#[]⟩]
/-- a node's value out of another one's -/
def valU (N : Nat) (w : World) (F : List Nat) (t : Tree) (w' : World) (v : Value) : Prop := ∃ cells F2, v = .agg cells.toArray ∧ TV N w' cells t F2 ∧ F2.Nodup ∧ ∀ k ∈ F2, k ∈ F ∨ w.heap.size ≤ k
theorem own_node {N : Nat} {w : World} {nb : Nat} {cells : List Value} (h : w.heap[nb]? = some (.cells cells.toArray 26 (0, 0))) (hN : N ≤ nb) (h9 : cells.length = 9) : w.ownsRow N 26 9 (.slice (some ⟨nb, 0, none⟩) 1 1) 1 cells :=
  ⟨by omega, .inr ⟨nb, 1, cells.toArray, rfl, hN, h, Nat.le_refl _, by unfold maxLen; omega, by simp [h9], by rw [List.take_of_length_le (by simp [h9])]⟩⟩
theorem TV.mo {N g : Nat} {w w' : World} {c : List Value} {t : Tree} {F : List Nat} (h : TV N w c t F) (hm : Mo w w' g) (hg : g ∉ F) : TV N w' c t F := h.kept fun k hk => hm.block k (h.low k hk).2 (fun e => hg (e ▸ hk))
/-- the rep that comes out -/
theorem fin_rep {N g nb : Nat} {w wf : World} {cells : List Value} {x : Tree} {F : List Nat} (hT : TV N w cells x F) (hF : F.Nodup) (hg : g ∉ F) (hN : N ≤ w.heap.size) (hm : Mo w wf g) (hnb : w.heap.size ≤ nb) (hb : wf.heap[nb]? = some (.cells cells.toArray 26 (0, 0))) (lo hi : Int) (lz : Bool) :
    valU N w F (.rep lo hi lz x) wf (.agg (repL lo hi lz nb).toArray) := by
  have h1 := (hT.mo hm hg).ones
  refine ⟨repL lo hi lz nb, _, rfl, .mk (World.ownsRow_nil _ _ _ _) (own_node hb (by omega) hT.nine) h1, ?_, ?_⟩
  · simp [Value.ownBlock]
    refine ⟨?_, hF⟩
    intro hm
    have := (hT.low nb hm).2
    omega
  · intro k hk
    simp [Value.ownBlock] at hk
    rcases hk with rfl | hk
    · exact .inr hnb
    · exact .inl hk
/-- the call first, the row then -/
theorem shapeA {g : Nat} {w w2 : World} {t : List Int} {i0 i : Nat} {c : Cs} {wr0 wr : Wr} {A V : Array Value} (R0 : RW w g t i0 c wr0) (hm : Mo ((w.alloc (.cells A 26)).alloc (.cells Z9 26)) w2 g) (R2 : RW w2 g t i c wr) :
    Mo w ((w2.setRow (w.heap.size + 1) V).alloc (.cells A 26)) g ∧ RW ((w2.setRow (w.heap.size + 1) V).alloc (.cells A 26)) g t i c wr ∧ ((w2.setRow (w.heap.size + 1) V).alloc (.cells A 26)).heap[w.heap.size + 1]? = some (.cells V 26 (0, 0)) ∧ ((w2.setRow (w.heap.size + 1) V).alloc (.cells A 26)).heap[w2.heap.size]? = some (.cells A 26 (0, 0)) ∧ w.heap.size ≤ w2.heap.size := by
  have hgl := R0.rd.gl
  have hs := hm.size
  simp at hs
  have hb2 : w2.heap[w.heap.size + 1]? = some (.cells Z9 26 (0, 0)) := (hm.block _ (by simp) (by omega)).trans (by have := heap_alloc_new (w.alloc (.cells A 26)) (.cells Z9 26); simpa using this)
  have hM : Mo w ((w2.setRow (w.heap.size + 1) V).alloc (.cells A 26)) g := ⟨hm.os, hm.tape, hm.output, by simp; omega, fun k hk hne => by
    rw [heap_alloc_old _ _ (by simp; omega), setRow_other _ _ _ _ (by omega), hm.block k (by simp; omega) hne, heap_alloc_old _ _ (by simp; omega), heap_alloc_old _ _ hk]⟩
  refine ⟨hM, R0.mo hM ?_ R2.rd.le, ?_, ?_, by omega⟩
  · rw [heap_alloc_old _ _ (by have := R2.rd.gl; simpa using this), setRow_other _ _ _ _ (by omega)]
    exact R2.rd.blk
  · rw [heap_alloc_old _ _ (by simp; omega)]
    exact setRow_heap _ _ _ _ _ _ hb2
  · have := heap_alloc_new (w2.setRow (w.heap.size + 1) V) (.cells A 26)
    simpa using this
/-- the row first, the call then -/
theorem shapeB {g : Nat} {w w1 w2 : World} {t : List Int} {i0 i : Nat} {c : Cs} {wr0 wr : Wr} {A V : Array Value} (R0 : RW w g t i0 c wr0) (hm1 : Mo ((w.alloc (.cells A 26)).alloc (.cells Z9 26)) w1 g) (hm : Mo (w1.drew.alloc (.cells A 26)) w2 g) (R2 : Rd w2 g t i c.tv c.ov c.gv c.mv (wrV wr)) :
    Mo w (w2.setRow (w.heap.size + 1) V) g ∧ RW (w2.setRow (w.heap.size + 1) V) g t i c wr ∧ (w2.setRow (w.heap.size + 1) V).heap[w.heap.size + 1]? = some (.cells V 26 (0, 0)) ∧ (w2.setRow (w.heap.size + 1) V).heap[w1.heap.size]? = some (.cells A 26 (0, 0)) ∧ w.heap.size ≤ w1.heap.size := by
  have hgl := R0.rd.gl
  have hs := hm1.size
  simp at hs
  have hs2 := hm.size
  simp at hs2
  have hb1 : w1.heap[w.heap.size + 1]? = some (.cells Z9 26 (0, 0)) := (hm1.block _ (by simp) (by omega)).trans (by have := heap_alloc_new (w.alloc (.cells A 26)) (.cells Z9 26); simpa using this)
  have hb2 : w2.heap[w.heap.size + 1]? = some (.cells Z9 26 (0, 0)) := (hm.block _ (by simp; omega) (by omega)).trans ((heap_alloc_old w1.drew _ (show w.heap.size + 1 < w1.heap.size by omega)).trans hb1)
  have hM : Mo w (w2.setRow (w.heap.size + 1) V) g := ⟨hm.os.trans hm1.os, hm.tape.trans hm1.tape, hm.output.trans hm1.output, by simp; omega, fun k hk hne => by
    rw [setRow_other _ _ _ _ (by omega), hm.block k (by simp; omega) hne]
    exact (heap_alloc_old w1.drew _ (show k < w1.heap.size by omega)).trans ((hm1.block k (by simp; omega) hne).trans ((heap_alloc_old _ _ (by simp; omega)).trans (heap_alloc_old _ _ hk)))⟩
  refine ⟨hM, R0.mo hM ?_ R2.le, setRow_heap _ _ _ _ _ _ hb2, ?_, by omega⟩
  · rw [setRow_other _ _ _ _ (by omega)]
    exact R2.blk
  · rw [setRow_other _ _ _ _ (by omega), hm.block _ (by simp) (by omega)]
    exact heap_alloc_new w1.drew _
end Go.Proofs.YtenanfkmmkmolaaGreatDoor
/- HELPERS: an atom with its count. -/
namespace Go.Proofs.YtenanfkmmkmolaaGreatDoor
open Go.RowKit Go.Mx
set_option linter.unusedVariables false
set_option linter.unusedSimpArgs false
set_option maxHeartbeats 8000000 in
theorem counted65_star_n {g : Nat} {t : List Int} {i : Nat} {c : Cs} {w : World} {wr : Wr} (R0 : Hid (RW w g t i c wr)) (a0 a2 a4 a5 a7 : Int) (a6 : Bool) (a8 : ByteArray) (r1 s1 : Option Addr) (r2 r3 s2 s3 : Nat) {N : Nat} {x : Tree} {F : List Nat} (HT : Hid (TV N w [.int .i64 a0, .slice r1 r2 r3, .int .i64 a2, .slice s1 s2 s3, .int .i64 a4, .int .i64 a5, .bool a6, .int .i64 a7, .string a8] x F)) (HF : Hid (F.Nodup)) (HG : Hid (g ∉ F)) (hN : N ≤ w.heap.size) (h : nx t i = 42) (hl : ¬ nx t (i + 1) = 63) :
    Calls Tryz.prog 65 #[.pointer (some ⟨g, 0, none⟩), .agg #[.int .i64 a0, .slice r1 r2 r3, .int .i64 a2, .slice s1 s2 s3, .int .i64 a4, .int .i64 a5, .bool a6, .int .i64 a7, .string a8]] w fun e w' => ∃ v, e = .returned v ∧ valU N w F (.rep 0 (-1) false x) w' v ∧ Mo w w' g ∧ RW w' g t (i + 1) c wr := by
  have hle := R0.out.rd.le
  have hgl := R0.out.rd.gl
  have RW1 : Hid (RW ((w.alloc (.cells #[.int .i64 a0, .slice r1 r2 r3, .int .i64 a2, .slice s1 s2 s3, .int .i64 a4, .int .i64 a5, .bool a6, .int .i64 a7, .string a8] 26)).alloc (.cells Z9 26)) g t i c wr) := rwBelow R0 (Joins.below_alloc2 w _ _)
  have hi := nx_lt (t := t) (i := i) (by omega)
  go_enter Tryz.func65, Tryz.ntmps65
  have C5 := tookE (rdC RW1) 42 (by decide) h
  go_wp2_with (go_at_call 60; (with_reducible refine C5.mono ?_); rintro e w1 ⟨rfl, G1⟩; have R1 := rwOn RW1 G1 (by omega))
  have MM := G1.mo
  have hb1 : w1.heap[w.heap.size]? = some (.cells #[.int .i64 a0, .slice r1 r2 r3, .int .i64 a2, .slice s1 s2 s3, .int .i64 a4, .int .i64 a5, .bool a6, .int .i64 a7, .string a8] 26 (0, 0)) := (MM.block _ (by simp; omega) (by omega)).trans ((heap_alloc_old _ _ (by simp)).trans (heap_alloc_new w _))
  have hb2 : w1.heap[w.heap.size + 1]? = some (.cells Z9 26 (0, 0)) := (MM.block _ (by simp) (by omega)).trans (by have := heap_alloc_new (w.alloc (.cells #[.int .i64 a0, .slice r1 r2 r3, .int .i64 a2, .slice s1 s2 s3, .int .i64 a4, .int .i64 a5, .bool a6, .int .i64 a7, .string a8] 26)) (.cells Z9 26); simpa using this)
  obtain ⟨x0, x1, x2, x3, x4, x5, x6, x7, x8⟩ := blk9 hb1
  obtain ⟨y0, y1, y2, y3, y4, y5, y6, y7, y8⟩ := blk9 hb2
  obtain ⟨f0, f1, f2, f3, f4, f5, f6, f7, f8⟩ := frz9 hb2
  have hb1l := (Array.getElem?_eq_some_iff.1 hb2).1
  have t1' : w.heap.size < w1.heap.size := by omega
  have t3' : ¬ w.heap.size + 1 = w1.heap.size := by omega
  have t4' : ¬ w.heap.size = w1.heap.size := by omega
  have HM : Hid (Mo ((w.alloc (.cells #[.int .i64 a0, .slice r1 r2 r3, .int .i64 a2, .slice s1 s2 s3, .int .i64 a4, .int .i64 a5, .bool a6, .int .i64 a7, .string a8] 26)).alloc (.cells Z9 26)) w1 g) := MM
  have HB1 : Hid (w1.heap[w.heap.size]? = _) := hb1
  have HB2 : Hid (w1.heap[w.heap.size + 1]? = _) := hb2
  have C2 : ∀ W, Rd W g t (i + 1) c.tv c.ov c.gv c.mv (wrV wr) → Calls Tryz.prog 60 #[.pointer (some ⟨g, 0, none⟩), .int .u8 63] W fun e w' => e = .returned (.bool false) ∧ Go1 W w' g (i + 1) := fun W hW => tookN (c := c.at wr) hW 63 (by decide) hl
  have RA := R1.out.rd.drew
  have RB : ∀ o, Rd (w1.drew.alloc o) g t (i + 1) c.tv c.ov c.gv c.mv (wrV wr) := fun o => R1.out.rd.drew.alloc o
  have hkk : i + 1 ≤ t.length := by exact R1.out.rd.le
  clear hb1 hb2 MM
  go_region_with (go_at_call 60; first | (refine (C2 _ RA).mono ?_; rintro e w2 ⟨rfl, G2⟩; obtain ⟨E1, E2, l1', l2', l3', l4'⟩ := two_blk G2.mo HB1.out HB2.out hgl; obtain ⟨p0, p1, p2, p3, p4, p5, p6, p7, p8⟩ := blk9 E1; obtain ⟨o0, o1, o2, o3, o4, o5, o6, o7, o8⟩ := blk9 E2; obtain ⟨z0, z1, z2, z3, z4, z5, z6, z7, z8⟩ := frz9 E2; have HE2 : Hid (w2.heap[w.heap.size + 1]? = _) := E2; clear E1 E2; have SA := shapeA (V := (repL (0) (-1) false w2.heap.size).toArray) R0.out (HM.out.trans ((Mo.drewN w1 g 1).trans G2.mo)) ((R1.out.mo (Mo.drewN w1 g 1) R1.out.rd.blk R1.out.rd.le).go1 G2 hkk)) | (refine (C2 _ (RB _)).mono ?_; rintro e w2 ⟨rfl, G2⟩; obtain ⟨E1, E2, l1', l2', l3', l4'⟩ := two_blk G2.mo ((heap_alloc_old w1.drew _ t1').trans HB1.out) ((heap_alloc_old w1.drew _ hb1l).trans HB2.out) hgl; obtain ⟨p0, p1, p2, p3, p4, p5, p6, p7, p8⟩ := blk9 E1; obtain ⟨o0, o1, o2, o3, o4, o5, o6, o7, o8⟩ := blk9 E2; obtain ⟨z0, z1, z2, z3, z4, z5, z6, z7, z8⟩ := frz9 E2; have HE2 : Hid (w2.heap[w.heap.size + 1]? = _) := E2; clear E1 E2; have SA := shapeB (V := (repL (0) (-1) false w1.heap.size).toArray) R0.out HM.out G2.mo ((RB _).go1 G2 hkk)))
  all_goals go_wp2
  all_goals rw [set9_eq HE2.out]
  all_goals (refine bodyPost_ret (results_node rfl _ _ (w.heap.size + 1) _ rfl SA.2.2.1 rfl) rfl ?_)
  all_goals exact ⟨_, rfl, fin_rep HT.out HF.out HG.out hN SA.1 SA.2.2.2.2 SA.2.2.2.1 _ _ _, SA.1, SA.2.1⟩
set_option maxHeartbeats 8000000 in
theorem counted65_star_y {g : Nat} {t : List Int} {i : Nat} {c : Cs} {w : World} {wr : Wr} (R0 : Hid (RW w g t i c wr)) (a0 a2 a4 a5 a7 : Int) (a6 : Bool) (a8 : ByteArray) (r1 s1 : Option Addr) (r2 r3 s2 s3 : Nat) {N : Nat} {x : Tree} {F : List Nat} (HT : Hid (TV N w [.int .i64 a0, .slice r1 r2 r3, .int .i64 a2, .slice s1 s2 s3, .int .i64 a4, .int .i64 a5, .bool a6, .int .i64 a7, .string a8] x F)) (HF : Hid (F.Nodup)) (HG : Hid (g ∉ F)) (hN : N ≤ w.heap.size) (h : nx t i = 42) (hl : nx t (i + 1) = 63) :
    Calls Tryz.prog 65 #[.pointer (some ⟨g, 0, none⟩), .agg #[.int .i64 a0, .slice r1 r2 r3, .int .i64 a2, .slice s1 s2 s3, .int .i64 a4, .int .i64 a5, .bool a6, .int .i64 a7, .string a8]] w fun e w' => ∃ v, e = .returned v ∧ valU N w F (.rep 0 (-1) true x) w' v ∧ Mo w w' g ∧ RW w' g t (i + 1 + 1) c wr := by
  have hle := R0.out.rd.le
  have hgl := R0.out.rd.gl
  have RW1 : Hid (RW ((w.alloc (.cells #[.int .i64 a0, .slice r1 r2 r3, .int .i64 a2, .slice s1 s2 s3, .int .i64 a4, .int .i64 a5, .bool a6, .int .i64 a7, .string a8] 26)).alloc (.cells Z9 26)) g t i c wr) := rwBelow R0 (Joins.below_alloc2 w _ _)
  have hi := nx_lt (t := t) (i := i) (by omega)
  go_enter Tryz.func65, Tryz.ntmps65
  have C5 := tookE (rdC RW1) 42 (by decide) h
  go_wp2_with (go_at_call 60; (with_reducible refine C5.mono ?_); rintro e w1 ⟨rfl, G1⟩; have R1 := rwOn RW1 G1 (by omega))
  have MM := G1.mo
  have hb1 : w1.heap[w.heap.size]? = some (.cells #[.int .i64 a0, .slice r1 r2 r3, .int .i64 a2, .slice s1 s2 s3, .int .i64 a4, .int .i64 a5, .bool a6, .int .i64 a7, .string a8] 26 (0, 0)) := (MM.block _ (by simp; omega) (by omega)).trans ((heap_alloc_old _ _ (by simp)).trans (heap_alloc_new w _))
  have hb2 : w1.heap[w.heap.size + 1]? = some (.cells Z9 26 (0, 0)) := (MM.block _ (by simp) (by omega)).trans (by have := heap_alloc_new (w.alloc (.cells #[.int .i64 a0, .slice r1 r2 r3, .int .i64 a2, .slice s1 s2 s3, .int .i64 a4, .int .i64 a5, .bool a6, .int .i64 a7, .string a8] 26)) (.cells Z9 26); simpa using this)
  obtain ⟨x0, x1, x2, x3, x4, x5, x6, x7, x8⟩ := blk9 hb1
  obtain ⟨y0, y1, y2, y3, y4, y5, y6, y7, y8⟩ := blk9 hb2
  obtain ⟨f0, f1, f2, f3, f4, f5, f6, f7, f8⟩ := frz9 hb2
  have hb1l := (Array.getElem?_eq_some_iff.1 hb2).1
  have t1' : w.heap.size < w1.heap.size := by omega
  have t3' : ¬ w.heap.size + 1 = w1.heap.size := by omega
  have t4' : ¬ w.heap.size = w1.heap.size := by omega
  have HM : Hid (Mo ((w.alloc (.cells #[.int .i64 a0, .slice r1 r2 r3, .int .i64 a2, .slice s1 s2 s3, .int .i64 a4, .int .i64 a5, .bool a6, .int .i64 a7, .string a8] 26)).alloc (.cells Z9 26)) w1 g) := MM
  have HB1 : Hid (w1.heap[w.heap.size]? = _) := hb1
  have HB2 : Hid (w1.heap[w.heap.size + 1]? = _) := hb2
  have C2 : ∀ W, Rd W g t (i + 1) c.tv c.ov c.gv c.mv (wrV wr) → Calls Tryz.prog 60 #[.pointer (some ⟨g, 0, none⟩), .int .u8 63] W fun e w' => e = .returned (.bool true) ∧ Go1 W w' g (i + 1 + 1) := fun W hW => tookE (c := c.at wr) hW 63 (by decide) hl
  have RA := R1.out.rd.drew
  have RB : ∀ o, Rd (w1.drew.alloc o) g t (i + 1) c.tv c.ov c.gv c.mv (wrV wr) := fun o => R1.out.rd.drew.alloc o
  have hkk : i + 1 + 1 ≤ t.length := by have := nx_lt (t := t) (i := i + 1) (by omega); omega
  clear hb1 hb2 MM
  go_region_with (go_at_call 60; first | (refine (C2 _ RA).mono ?_; rintro e w2 ⟨rfl, G2⟩; obtain ⟨E1, E2, l1', l2', l3', l4'⟩ := two_blk G2.mo HB1.out HB2.out hgl; obtain ⟨p0, p1, p2, p3, p4, p5, p6, p7, p8⟩ := blk9 E1; obtain ⟨o0, o1, o2, o3, o4, o5, o6, o7, o8⟩ := blk9 E2; obtain ⟨z0, z1, z2, z3, z4, z5, z6, z7, z8⟩ := frz9 E2; have HE2 : Hid (w2.heap[w.heap.size + 1]? = _) := E2; clear E1 E2; have SA := shapeA (V := (repL (0) (-1) true w2.heap.size).toArray) R0.out (HM.out.trans ((Mo.drewN w1 g 1).trans G2.mo)) ((R1.out.mo (Mo.drewN w1 g 1) R1.out.rd.blk R1.out.rd.le).go1 G2 hkk)) | (refine (C2 _ (RB _)).mono ?_; rintro e w2 ⟨rfl, G2⟩; obtain ⟨E1, E2, l1', l2', l3', l4'⟩ := two_blk G2.mo ((heap_alloc_old w1.drew _ t1').trans HB1.out) ((heap_alloc_old w1.drew _ hb1l).trans HB2.out) hgl; obtain ⟨p0, p1, p2, p3, p4, p5, p6, p7, p8⟩ := blk9 E1; obtain ⟨o0, o1, o2, o3, o4, o5, o6, o7, o8⟩ := blk9 E2; obtain ⟨z0, z1, z2, z3, z4, z5, z6, z7, z8⟩ := frz9 E2; have HE2 : Hid (w2.heap[w.heap.size + 1]? = _) := E2; clear E1 E2; have SA := shapeB (V := (repL (0) (-1) true w1.heap.size).toArray) R0.out HM.out G2.mo ((RB _).go1 G2 hkk)))
  all_goals go_wp2
  all_goals rw [set9_eq HE2.out]
  all_goals (refine bodyPost_ret (results_node rfl _ _ (w.heap.size + 1) _ rfl SA.2.2.1 rfl) rfl ?_)
  all_goals exact ⟨_, rfl, fin_rep HT.out HF.out HG.out hN SA.1 SA.2.2.2.2 SA.2.2.2.1 _ _ _, SA.1, SA.2.1⟩
end Go.Proofs.YtenanfkmmkmolaaGreatDoor
/- HELPERS: an atom with its count. -/
namespace Go.Proofs.YtenanfkmmkmolaaGreatDoor
open Go.RowKit Go.Mx
set_option linter.unusedVariables false
set_option linter.unusedSimpArgs false
set_option maxHeartbeats 8000000 in
theorem counted65_plus_n {g : Nat} {t : List Int} {i : Nat} {c : Cs} {w : World} {wr : Wr} (R0 : Hid (RW w g t i c wr)) (a0 a2 a4 a5 a7 : Int) (a6 : Bool) (a8 : ByteArray) (r1 s1 : Option Addr) (r2 r3 s2 s3 : Nat) {N : Nat} {x : Tree} {F : List Nat} (HT : Hid (TV N w [.int .i64 a0, .slice r1 r2 r3, .int .i64 a2, .slice s1 s2 s3, .int .i64 a4, .int .i64 a5, .bool a6, .int .i64 a7, .string a8] x F)) (HF : Hid (F.Nodup)) (HG : Hid (g ∉ F)) (hN : N ≤ w.heap.size) (n1 : ¬ nx t i = 42) (h : nx t i = 43) (hl : ¬ nx t (i + 1) = 63) :
    Calls Tryz.prog 65 #[.pointer (some ⟨g, 0, none⟩), .agg #[.int .i64 a0, .slice r1 r2 r3, .int .i64 a2, .slice s1 s2 s3, .int .i64 a4, .int .i64 a5, .bool a6, .int .i64 a7, .string a8]] w fun e w' => ∃ v, e = .returned v ∧ valU N w F (.rep 1 (-1) false x) w' v ∧ Mo w w' g ∧ RW w' g t (i + 1) c wr := by
  have hle := R0.out.rd.le
  have hgl := R0.out.rd.gl
  have RW1 : Hid (RW ((w.alloc (.cells #[.int .i64 a0, .slice r1 r2 r3, .int .i64 a2, .slice s1 s2 s3, .int .i64 a4, .int .i64 a5, .bool a6, .int .i64 a7, .string a8] 26)).alloc (.cells Z9 26)) g t i c wr) := rwBelow R0 (Joins.below_alloc2 w _ _)
  have hi := nx_lt (t := t) (i := i) (by omega)
  go_enter Tryz.func65, Tryz.ntmps65
  have C5 := tookN (rdC RW1) 42 (by decide) n1
  go_wp2_with (go_at_call 60; (with_reducible refine C5.mono ?_); rintro e v0 ⟨rfl, H0⟩; have Q0 := rwOn RW1 H0 (by omega))
  have C6 := tookE (rdC Q0) 43 (by decide) h
  go_wp2_with (go_at_call 60; (with_reducible refine C6.mono ?_); rintro e w1 ⟨rfl, G1⟩; have R1 := rwOn Q0 G1 (by omega))
  have MM := (H0.mo).trans G1.mo
  have hb1 : w1.heap[w.heap.size]? = some (.cells #[.int .i64 a0, .slice r1 r2 r3, .int .i64 a2, .slice s1 s2 s3, .int .i64 a4, .int .i64 a5, .bool a6, .int .i64 a7, .string a8] 26 (0, 0)) := (MM.block _ (by simp; omega) (by omega)).trans ((heap_alloc_old _ _ (by simp)).trans (heap_alloc_new w _))
  have hb2 : w1.heap[w.heap.size + 1]? = some (.cells Z9 26 (0, 0)) := (MM.block _ (by simp) (by omega)).trans (by have := heap_alloc_new (w.alloc (.cells #[.int .i64 a0, .slice r1 r2 r3, .int .i64 a2, .slice s1 s2 s3, .int .i64 a4, .int .i64 a5, .bool a6, .int .i64 a7, .string a8] 26)) (.cells Z9 26); simpa using this)
  obtain ⟨x0, x1, x2, x3, x4, x5, x6, x7, x8⟩ := blk9 hb1
  obtain ⟨y0, y1, y2, y3, y4, y5, y6, y7, y8⟩ := blk9 hb2
  obtain ⟨f0, f1, f2, f3, f4, f5, f6, f7, f8⟩ := frz9 hb2
  have hb1l := (Array.getElem?_eq_some_iff.1 hb2).1
  have t1' : w.heap.size < w1.heap.size := by omega
  have t3' : ¬ w.heap.size + 1 = w1.heap.size := by omega
  have t4' : ¬ w.heap.size = w1.heap.size := by omega
  have HM : Hid (Mo ((w.alloc (.cells #[.int .i64 a0, .slice r1 r2 r3, .int .i64 a2, .slice s1 s2 s3, .int .i64 a4, .int .i64 a5, .bool a6, .int .i64 a7, .string a8] 26)).alloc (.cells Z9 26)) w1 g) := MM
  have HB1 : Hid (w1.heap[w.heap.size]? = _) := hb1
  have HB2 : Hid (w1.heap[w.heap.size + 1]? = _) := hb2
  have C2 : ∀ W, Rd W g t (i + 1) c.tv c.ov c.gv c.mv (wrV wr) → Calls Tryz.prog 60 #[.pointer (some ⟨g, 0, none⟩), .int .u8 63] W fun e w' => e = .returned (.bool false) ∧ Go1 W w' g (i + 1) := fun W hW => tookN (c := c.at wr) hW 63 (by decide) hl
  have RA := R1.out.rd.drew
  have RB : ∀ o, Rd (w1.drew.alloc o) g t (i + 1) c.tv c.ov c.gv c.mv (wrV wr) := fun o => R1.out.rd.drew.alloc o
  have hkk : i + 1 ≤ t.length := by exact R1.out.rd.le
  clear hb1 hb2 MM
  go_region_with (go_at_call 60; first | (refine (C2 _ RA).mono ?_; rintro e w2 ⟨rfl, G2⟩; obtain ⟨E1, E2, l1', l2', l3', l4'⟩ := two_blk G2.mo HB1.out HB2.out hgl; obtain ⟨p0, p1, p2, p3, p4, p5, p6, p7, p8⟩ := blk9 E1; obtain ⟨o0, o1, o2, o3, o4, o5, o6, o7, o8⟩ := blk9 E2; obtain ⟨z0, z1, z2, z3, z4, z5, z6, z7, z8⟩ := frz9 E2; have HE2 : Hid (w2.heap[w.heap.size + 1]? = _) := E2; clear E1 E2; have SA := shapeA (V := (repL (1) (-1) false w2.heap.size).toArray) R0.out (HM.out.trans ((Mo.drewN w1 g 1).trans G2.mo)) ((R1.out.mo (Mo.drewN w1 g 1) R1.out.rd.blk R1.out.rd.le).go1 G2 hkk)) | (refine (C2 _ (RB _)).mono ?_; rintro e w2 ⟨rfl, G2⟩; obtain ⟨E1, E2, l1', l2', l3', l4'⟩ := two_blk G2.mo ((heap_alloc_old w1.drew _ t1').trans HB1.out) ((heap_alloc_old w1.drew _ hb1l).trans HB2.out) hgl; obtain ⟨p0, p1, p2, p3, p4, p5, p6, p7, p8⟩ := blk9 E1; obtain ⟨o0, o1, o2, o3, o4, o5, o6, o7, o8⟩ := blk9 E2; obtain ⟨z0, z1, z2, z3, z4, z5, z6, z7, z8⟩ := frz9 E2; have HE2 : Hid (w2.heap[w.heap.size + 1]? = _) := E2; clear E1 E2; have SA := shapeB (V := (repL (1) (-1) false w1.heap.size).toArray) R0.out HM.out G2.mo ((RB _).go1 G2 hkk)))
  all_goals go_wp2
  all_goals rw [set9_eq HE2.out]
  all_goals (refine bodyPost_ret (results_node rfl _ _ (w.heap.size + 1) _ rfl SA.2.2.1 rfl) rfl ?_)
  all_goals exact ⟨_, rfl, fin_rep HT.out HF.out HG.out hN SA.1 SA.2.2.2.2 SA.2.2.2.1 _ _ _, SA.1, SA.2.1⟩
set_option maxHeartbeats 8000000 in
theorem counted65_plus_y {g : Nat} {t : List Int} {i : Nat} {c : Cs} {w : World} {wr : Wr} (R0 : Hid (RW w g t i c wr)) (a0 a2 a4 a5 a7 : Int) (a6 : Bool) (a8 : ByteArray) (r1 s1 : Option Addr) (r2 r3 s2 s3 : Nat) {N : Nat} {x : Tree} {F : List Nat} (HT : Hid (TV N w [.int .i64 a0, .slice r1 r2 r3, .int .i64 a2, .slice s1 s2 s3, .int .i64 a4, .int .i64 a5, .bool a6, .int .i64 a7, .string a8] x F)) (HF : Hid (F.Nodup)) (HG : Hid (g ∉ F)) (hN : N ≤ w.heap.size) (n1 : ¬ nx t i = 42) (h : nx t i = 43) (hl : nx t (i + 1) = 63) :
    Calls Tryz.prog 65 #[.pointer (some ⟨g, 0, none⟩), .agg #[.int .i64 a0, .slice r1 r2 r3, .int .i64 a2, .slice s1 s2 s3, .int .i64 a4, .int .i64 a5, .bool a6, .int .i64 a7, .string a8]] w fun e w' => ∃ v, e = .returned v ∧ valU N w F (.rep 1 (-1) true x) w' v ∧ Mo w w' g ∧ RW w' g t (i + 1 + 1) c wr := by
  have hle := R0.out.rd.le
  have hgl := R0.out.rd.gl
  have RW1 : Hid (RW ((w.alloc (.cells #[.int .i64 a0, .slice r1 r2 r3, .int .i64 a2, .slice s1 s2 s3, .int .i64 a4, .int .i64 a5, .bool a6, .int .i64 a7, .string a8] 26)).alloc (.cells Z9 26)) g t i c wr) := rwBelow R0 (Joins.below_alloc2 w _ _)
  have hi := nx_lt (t := t) (i := i) (by omega)
  go_enter Tryz.func65, Tryz.ntmps65
  have C5 := tookN (rdC RW1) 42 (by decide) n1
  go_wp2_with (go_at_call 60; (with_reducible refine C5.mono ?_); rintro e v0 ⟨rfl, H0⟩; have Q0 := rwOn RW1 H0 (by omega))
  have C6 := tookE (rdC Q0) 43 (by decide) h
  go_wp2_with (go_at_call 60; (with_reducible refine C6.mono ?_); rintro e w1 ⟨rfl, G1⟩; have R1 := rwOn Q0 G1 (by omega))
  have MM := (H0.mo).trans G1.mo
  have hb1 : w1.heap[w.heap.size]? = some (.cells #[.int .i64 a0, .slice r1 r2 r3, .int .i64 a2, .slice s1 s2 s3, .int .i64 a4, .int .i64 a5, .bool a6, .int .i64 a7, .string a8] 26 (0, 0)) := (MM.block _ (by simp; omega) (by omega)).trans ((heap_alloc_old _ _ (by simp)).trans (heap_alloc_new w _))
  have hb2 : w1.heap[w.heap.size + 1]? = some (.cells Z9 26 (0, 0)) := (MM.block _ (by simp) (by omega)).trans (by have := heap_alloc_new (w.alloc (.cells #[.int .i64 a0, .slice r1 r2 r3, .int .i64 a2, .slice s1 s2 s3, .int .i64 a4, .int .i64 a5, .bool a6, .int .i64 a7, .string a8] 26)) (.cells Z9 26); simpa using this)
  obtain ⟨x0, x1, x2, x3, x4, x5, x6, x7, x8⟩ := blk9 hb1
  obtain ⟨y0, y1, y2, y3, y4, y5, y6, y7, y8⟩ := blk9 hb2
  obtain ⟨f0, f1, f2, f3, f4, f5, f6, f7, f8⟩ := frz9 hb2
  have hb1l := (Array.getElem?_eq_some_iff.1 hb2).1
  have t1' : w.heap.size < w1.heap.size := by omega
  have t3' : ¬ w.heap.size + 1 = w1.heap.size := by omega
  have t4' : ¬ w.heap.size = w1.heap.size := by omega
  have HM : Hid (Mo ((w.alloc (.cells #[.int .i64 a0, .slice r1 r2 r3, .int .i64 a2, .slice s1 s2 s3, .int .i64 a4, .int .i64 a5, .bool a6, .int .i64 a7, .string a8] 26)).alloc (.cells Z9 26)) w1 g) := MM
  have HB1 : Hid (w1.heap[w.heap.size]? = _) := hb1
  have HB2 : Hid (w1.heap[w.heap.size + 1]? = _) := hb2
  have C2 : ∀ W, Rd W g t (i + 1) c.tv c.ov c.gv c.mv (wrV wr) → Calls Tryz.prog 60 #[.pointer (some ⟨g, 0, none⟩), .int .u8 63] W fun e w' => e = .returned (.bool true) ∧ Go1 W w' g (i + 1 + 1) := fun W hW => tookE (c := c.at wr) hW 63 (by decide) hl
  have RA := R1.out.rd.drew
  have RB : ∀ o, Rd (w1.drew.alloc o) g t (i + 1) c.tv c.ov c.gv c.mv (wrV wr) := fun o => R1.out.rd.drew.alloc o
  have hkk : i + 1 + 1 ≤ t.length := by have := nx_lt (t := t) (i := i + 1) (by omega); omega
  clear hb1 hb2 MM
  go_region_with (go_at_call 60; first | (refine (C2 _ RA).mono ?_; rintro e w2 ⟨rfl, G2⟩; obtain ⟨E1, E2, l1', l2', l3', l4'⟩ := two_blk G2.mo HB1.out HB2.out hgl; obtain ⟨p0, p1, p2, p3, p4, p5, p6, p7, p8⟩ := blk9 E1; obtain ⟨o0, o1, o2, o3, o4, o5, o6, o7, o8⟩ := blk9 E2; obtain ⟨z0, z1, z2, z3, z4, z5, z6, z7, z8⟩ := frz9 E2; have HE2 : Hid (w2.heap[w.heap.size + 1]? = _) := E2; clear E1 E2; have SA := shapeA (V := (repL (1) (-1) true w2.heap.size).toArray) R0.out (HM.out.trans ((Mo.drewN w1 g 1).trans G2.mo)) ((R1.out.mo (Mo.drewN w1 g 1) R1.out.rd.blk R1.out.rd.le).go1 G2 hkk)) | (refine (C2 _ (RB _)).mono ?_; rintro e w2 ⟨rfl, G2⟩; obtain ⟨E1, E2, l1', l2', l3', l4'⟩ := two_blk G2.mo ((heap_alloc_old w1.drew _ t1').trans HB1.out) ((heap_alloc_old w1.drew _ hb1l).trans HB2.out) hgl; obtain ⟨p0, p1, p2, p3, p4, p5, p6, p7, p8⟩ := blk9 E1; obtain ⟨o0, o1, o2, o3, o4, o5, o6, o7, o8⟩ := blk9 E2; obtain ⟨z0, z1, z2, z3, z4, z5, z6, z7, z8⟩ := frz9 E2; have HE2 : Hid (w2.heap[w.heap.size + 1]? = _) := E2; clear E1 E2; have SA := shapeB (V := (repL (1) (-1) true w1.heap.size).toArray) R0.out HM.out G2.mo ((RB _).go1 G2 hkk)))
  all_goals go_wp2
  all_goals rw [set9_eq HE2.out]
  all_goals (refine bodyPost_ret (results_node rfl _ _ (w.heap.size + 1) _ rfl SA.2.2.1 rfl) rfl ?_)
  all_goals exact ⟨_, rfl, fin_rep HT.out HF.out HG.out hN SA.1 SA.2.2.2.2 SA.2.2.2.1 _ _ _, SA.1, SA.2.1⟩
end Go.Proofs.YtenanfkmmkmolaaGreatDoor
