/- HELPERS: the law is awake. -/
import Derived.Test.YteanndophopplaaDoorGB
import Derived.Lib.AppendStr
/- HELPERS: strings behind a writer's bytes. -/
namespace Go.Proofs.YteanndophopplaaDoor
open Go.RowKit Go.Lib
set_option linter.unusedVariables false
set_option linter.unusedSimpArgs false
theorem run_str_move (w : World) (base : Nat) (ty : TypeId) (v : Value) (n : Nat) (xs : List Value) (hown : w.ownsRow base 5 1 v n xs) (s : ByteArray) (hb : n + s.size ≤ 1099511627776) (hbase : base ≤ w.heap.size) :
    ∃ v' w', (Builtin.append_ #[36, 9] ty #[v, .string s]).run Tryd.prog w = .ok v' w' ∧ w'.ownsRow base 5 1 v' (n + s.size) (xs ++ strCells s) ∧ Moved w w' v v' := by
  obtain ⟨i0, hi, hz0, hz1, hz2⟩ := info_parts info5
  have h63 : n + s.size ≤ maxLen := by unfold maxLen; omega
  obtain ⟨v', w', hrun, h2, h3, h4⟩ := run_append_own_string (P := Tryd.prog) w base 36 9 ty 5 i0 Tryd.underlying36 Tryd.underlying9 hi hz0 hz1 hz2 v n xs hown s h63 (by omega) hbase
  refine ⟨v', w', hrun, h2, ?_⟩
  rcases hown.2 with ⟨rfl, rfl⟩ | ⟨g, cap, cur, rfl, hbg, hg, hnc, hcm, hcs, htake⟩
  · by_cases h0 : s.size = 0
    · left
      rw [h4.2 ⟨rfl, h0⟩]
      exact ⟨rfl, h3⟩
    · have hr := run_append_nil_string (P := Tryd.prog) w 36 9 ty 5 i0 (.int .u8 0) Tryd.underlying36 Tryd.underlying9 hi hz0 s (by omega) (by omega) (by rw [hz2]; omega)
      have he := hrun.symm.trans hr
      injection he with e1 e2
      right
      exact ⟨by rw [e1]; rfl, h3⟩
  · by_cases hroom : n + s.size ≤ cap
    · have hr := run_append_room_string (P := Tryd.prog) w 36 9 ty 5 i0 Tryd.underlying36 Tryd.underlying9 hi hz1 g n cap cur hg s hroom (by rw [hcs]; omega)
      have he := hrun.symm.trans hr
      injection he with e1 e2
      left
      exact ⟨by rw [e1]; rfl, h3⟩
    · have holds : ∀ j u, xs[j]? = some u → w.cell? ((⟨g, 0, none⟩ : Addr).add j) = some u := hown.cells (g := g) rfl
      have hxl : xs.length = n := by simpa using hown.1
      have hr := run_append_grow_string (P := Tryd.prog) w 36 9 ty 5 i0 (.int .u8 0) Tryd.underlying36 Tryd.underlying9 hi hz0 ⟨g, 0, none⟩ n cap xs (by rw [hz1]; omega) holds s (by omega) (by omega) (growslice_fits (by omega) (by rw [hz2]; omega))
      have he := hrun.symm.trans hr
      injection he with e1 e2
      right
      refine ⟨by rw [e1]; rfl, ?_⟩
      rw [e2]
      exact ⟨rfl, rfl, rfl, by simp, fun k hk _ => heap_alloc_old w.drew _ hk⟩
/-- a string's bytes as numbers -/
def bs (s : ByteArray) : List Nat := s.data.toList.map UInt8.toNat
theorem bs_cells (s : ByteArray) : strCells s = U8 (bs s) := by
  simp [strCells, U8, bs]
theorem bs_len (s : ByteArray) : (bs s).length = s.size := by simp [bs]
theorem wpList_append_str {w : World} {ops : Array Oper} {rest : List Oper} {o : Oper} {a : Act} {Q : Exit → Act → World → Prop} (hgd : o.guard = none) (sl x : Operand)
    (ho : o.op = .call { callee := .builtin .append, args := #[sl, x], argTypes := #[36, 9] })
    (base : Nat) (v : Value) (xs : List Nat) (hs : a.eval sl = v) (hown : w.ownsRow base 5 1 v xs.length (U8 xs)) (s : ByteArray) (hx : a.eval x = .string s)
    (hb : xs.length + s.size ≤ 1099511627776) (hbase : base ≤ w.heap.size)
    (h : ∀ v' w' ln, Hid ((xs ++ bs s).length = ln) → w'.ownsRow base 5 1 v' ln (U8 (xs ++ bs s)) → Moved w w' v v' → wpList Tryd.prog ops Q rest (a.put o.dst v') w') : wpList Tryd.prog ops Q (o :: rest) a w := by
  refine wpList_plain hgd fun K hK => ?_
  obtain ⟨v', w', hr, h2, h3⟩ := run_str_move w base o.type v xs.length (U8 xs) hown s hb hbase
  unfold Oper.wp execOp
  simp only [ho, resolve, invoke, builtin, Sem.run_bind, Sem.run_pure, Result.andThen_ok, List.map_toArray, List.map_cons, List.map_nil, hs, hx, hr]
  have e : U8 (xs ++ bs s) = U8 xs ++ strCells s := by rw [bs_cells]; simp [U8]
  exact hK _ _ (h v' w' _ rfl (by rw [e, List.length_append, bs_len]; exact h2) h3)
theorem chg_moved0 {w w1 : World} {v v' : Value} (hm : Moved w w1 v v') (G : List Nat) : Chg w w1 (G ++ v.ownBlock.toList) (G ++ v'.ownBlock.toList) := by
  rcases hm with ⟨he, h⟩ | ⟨he, h⟩
  · refine ⟨h.os, h.tape, h.output, h.size, fun k hk hn => h.block k hk (fun e => hn (by simp [← e])), fun k hk => ?_⟩
    rw [he] at hk
    exact .inl hk
  · refine ⟨h.os, h.tape, h.output, h.size, fun k hk hn => h.block k hk (by simp), fun k hk => ?_⟩
    rw [he] at hk
    simp at hk
    rcases hk with hk | hk
    · exact .inl (by simp [hk])
    · exact .inr (by omega)
theorem WB.put0 {T base wb : Nat} {w w1 : World} {xs ys : List Nat} {v v' : Value} (hT : T ≠ 5) (h : WB T base wb w xs v) {n : Nat} (hm : Moved w w1 v v') (hn : ys.length = n) (ho : w1.ownsRow base 5 1 v' n (U8 ys)) :
    WB T base wb (w1.setCell ⟨wb, 0, none⟩ v') ys v' ∧ Chg w (w1.setCell ⟨wb, 0, none⟩ v') (WF wb v) (WF wb v') ∧ w1.cell? ⟨wb, 0, none⟩ = some v ∧ w1.frozen? ⟨wb, 0, none⟩ = false := by
  subst hn
  have hwb : wb < w.heap.size := (Array.getElem?_eq_some_iff.1 h.box).1
  have hne := h.ne hT
  have hf := hm.frm
  have hbx : w1.heap[wb]? = some (.cells #[v] T (0, 0)) := (hf.block wb hwb hne).trans h.box
  have hne' : v'.ownBlock ≠ some wb := own_ne ho hbx hT
  refine ⟨⟨Joins.block_setCell hbx v', own_setCell ho (by exact hne'), ?_⟩, ?_, Joins.cell_of_block hbx 0, Joins.unfrozen_of_block hbx 0⟩
  · have h1 := h.bs
    have h2 := hf.size
    simp [World.setCell]
    omega
  · have := (chg_moved0 hm [wb]).set v' (a := ⟨wb, 0, none⟩) (by simp)
    simpa using this
set_option maxRecDepth 100000 in
set_option maxHeartbeats 4000000 in
theorem add59 {base wb : Nat} {w : World} {xs : List Nat} {v : Value} {s : ByteArray} (hW : WB 90 base wb w xs v) (hS : xs.length + s.size ≤ 1099511627776) :
    Calls Tryd.prog 59 #[pt wb, .string s] w fun e w' => e = .returned (.tuple #[]) ∧ ∃ v', WB 90 base wb w' (xs ++ bs s) v' ∧ Chg w w' (WF wb v) (WF wb v') := by
  have HW := hid hW
  obtain ⟨za, zc, rfl, -, -⟩ := row_shape hW.own
  have c0 : w.cell? ⟨wb, 0, none⟩ = some (.slice za xs.length zc) := Joins.cell_of_block hW.box 0
  have hbs := hW.bs
  have HOWN := hid hW.own
  obtain ⟨xn, hxn⟩ : ∃ xn, xs.length = xn := ⟨_, rfl⟩
  rw [hxn] at c0 HW HOWN
  have HOWN2 : Hid (w.ownsRow base 5 1 (.slice za xn zc) xs.length (U8 xs)) := by show World.ownsRow _ _ _ _ _ _ _; rw [hxn]; exact HOWN.out
  have HS := hid hS
  have HXN := hid hxn
  rw [hxn]
  clear hW hxn hS
  go_enter Tryd.func59, Tryd.ntmps59
  go_wp2_with (at_builtin; refine wpList_append_str rfl (.tmp 8) (.tmp 9) rfl base _ xs rfl HOWN2.out s rfl HS.out hbs ?_; intro v' w1 ln hln ho hm; obtain ⟨va, vc, rfl, -, -⟩ := row_shape ho; obtain ⟨h1, h2, c1, f1⟩ := HW.out.put0 (by decide) hm hln.out ho; have H1 := hid h1; have H2 := hid h2; clear h1 h2 ho hm)
  all_goals go_end0
  all_goals exact ⟨rfl, _, H1.out, H2.out⟩
end Go.Proofs.YteanndophopplaaDoor
/- HELPERS: a small number behind a writer's bytes. -/
namespace Go.Proofs.YteanndophopplaaDoor
open Go.RowKit Go.Lib
set_option linter.unusedVariables false
set_option linter.unusedSimpArgs false
abbrev Z02 (k : Nat) : Prop := k = 0 ∨ k = 2
def digS (k : Nat) : ByteArray := ⟨#[UInt8.ofNat (48 + k)]⟩
theorem small85 {k : Nat} (hk : Z02 k) (w : World) : Calls Tryd.prog 85 #[.int .i64 (k : Int)] w fun e w' => e = .returned (.string (digS k)) ∧ w' = w := by
  rcases hk with rfl | rfl
  · go_enter Tryd.func85, Tryd.ntmps85
    go_wp2
    all_goals go_ret
    exact ⟨rfl, rfl⟩
  · go_enter Tryd.func85, Tryd.ntmps85
    go_wp2
    all_goals go_ret
    exact ⟨rfl, rfl⟩
theorem bs_dig {k : Nat} (hk : Z02 k) : bs (digS k) = dec k := by
  rcases hk with rfl | rfl
  · rw [dec_small (by omega)]; rfl
  · rw [dec_small (by omega)]; rfl
theorem dig_size (k : Nat) : (digS k).size = 1 := rfl
set_option maxRecDepth 100000 in
set_option maxHeartbeats 4000000 in
theorem uint82 {k base : Nat} (hk : Z02 k) {w : World} {xs : List Nat} {v : Value} (ho : w.ownsRow base 5 1 v xs.length (U8 xs)) (hb : base ≤ w.heap.size) (hS : xs.length + 1 ≤ 1099511627776) :
    Calls Tryd.prog 82 #[v, .int .u64 (k : Int), .int .i64 10] w fun e w' => ∃ v' ln, e = .returned v' ∧ (xs ++ dec k).length = ln ∧ w'.ownsRow base 5 1 v' ln (U8 (xs ++ dec k)) ∧ Moved w w' v v' := by
  obtain ⟨za, zc, rfl, -, -⟩ := row_shape ho
  have C := small85 hk w
  have hd := bs_dig hk
  have b1 : decide ((k : Int) < 100) = true := by simp; omega
  have b2 : (k : Int) < 100 := by omega
  have b3 : IntKind.i64.wrap (k : Int) = (k : Int) := by rcases hk with rfl | rfl <;> rfl
  obtain ⟨S, hs⟩ : ∃ S, digS k = S := ⟨_, rfl⟩
  have hz := dig_size k
  rw [hs] at C hd hz
  have HO := hid ho
  have HD := hid hd
  have HS : Hid (xs.length + S.size ≤ 1099511627776) := by show _ ≤ _; omega
  obtain ⟨xn, hxn⟩ : ∃ xn, xs.length = xn := ⟨_, rfl⟩
  have HO2 : Hid (w.ownsRow base 5 1 (.slice za xn zc) xs.length (U8 xs)) := by rw [← hxn]; exact HO.out
  rw [hxn]
  clear ho hd hs hz hS hxn HO hk
  go_enter Tryd.func82, Tryd.ntmps82
  go_wp2_with (first | (go_at_call 85; (with_reducible refine C.mono ?_); rintro e w1 ⟨rfl, rfl⟩) | (at_builtin; refine wpList_append_str rfl (.tmp 13) (.tmp 16) rfl base _ xs rfl HO2.out S rfl HS.out hb ?_; intro v' w1 ln hln ho hm; obtain ⟨va, vc, rfl, -, -⟩ := row_shape ho; have HLN := hid hln; have HOO := hid ho; have HMM := hid hm; clear hln ho hm))
  all_goals go_ret
  all_goals exact ⟨_, ln, rfl, by rw [← HD.out]; exact HLN.out.out, by rw [← HD.out]; exact HOO.out, HMM.out⟩
set_option maxRecDepth 100000 in
set_option maxHeartbeats 4000000 in
theorem int79 {k base : Nat} (hk : Z02 k) {w : World} {xs : List Nat} {v : Value} (ho : w.ownsRow base 5 1 v xs.length (U8 xs)) (hb : base ≤ w.heap.size) (hS : xs.length + 1 ≤ 1099511627776) :
    Calls Tryd.prog 79 #[v, .int .i64 (k : Int), .int .i64 10] w fun e w' => ∃ v' ln, e = .returned v' ∧ (xs ++ dec k).length = ln ∧ w'.ownsRow base 5 1 v' ln (U8 (xs ++ dec k)) ∧ Moved w w' v v' := by
  have C := uint82 hk ho hb hS
  have b1 : decide ((k : Int) < 0) = false := by simp
  have b3 : IntKind.u64.wrap (k : Int) = (k : Int) := by rcases hk with rfl | rfl <;> rfl
  clear hk ho hb hS
  go_enter Tryd.func79, Tryd.ntmps79
  go_wp2_with (go_at_call 82; (with_reducible refine C.mono ?_); rintro e w1 ⟨v', ln, rfl, h1, h2, h3⟩; have H1 := hid h1; have H2 := hid h2; have H3 := hid h3; clear h1 h2 h3)
  all_goals go_ret
  all_goals exact ⟨_, _, rfl, H1.out, H2.out, H3.out⟩
set_option maxRecDepth 100000 in
set_option maxHeartbeats 4000000 in
theorem int71 {k base : Nat} (hk : Z02 k) {w : World} {xs : List Nat} {v : Value} (ho : w.ownsRow base 5 1 v xs.length (U8 xs)) (hb : base ≤ w.heap.size) (hS : xs.length + 1 ≤ 1099511627776) :
    Calls Tryd.prog 71 #[v, .int .i64 (k : Int), .int .i64 10] w fun e w' => ∃ v' ln, e = .returned v' ∧ (xs ++ dec k).length = ln ∧ w'.ownsRow base 5 1 v' ln (U8 (xs ++ dec k)) ∧ Moved w w' v v' := by
  have C := int79 hk ho hb hS
  clear hk ho hb hS
  go_enter Tryd.func71, Tryd.ntmps71
  go_wp2_with (go_at_call 79; (with_reducible refine C.mono ?_); rintro e w1 ⟨v', ln, rfl, h1, h2, h3⟩; have H1 := hid h1; have H2 := hid h2; have H3 := hid h3; clear h1 h2 h3)
  all_goals go_ret
  all_goals exact ⟨_, _, rfl, H1.out, H2.out, H3.out⟩
end Go.Proofs.YteanndophopplaaDoor
/- HELPERS: the text of one program. -/
namespace Go.Proofs.YteanndophopplaaDoor
open Go.RowKit Go.Lib
set_option linter.unusedVariables false
set_option linter.unusedSimpArgs false
set_option maxRecDepth 100000 in
set_option maxHeartbeats 4000000 in
theorem number60 {k base wb : Nat} (hk : Z02 k) {w : World} {xs : List Nat} {v : Value} (hW : WB 90 base wb w xs v) (hS : xs.length + 2 ≤ 1099511627776) :
    Calls Tryd.prog 60 #[pt wb, .int .i64 (k : Int)] w fun e w' => e = .returned (.tuple #[]) ∧ ∃ v', WB 90 base wb w' (xs ++ 32 :: dec k) v' ∧ Chg w w' (WF wb v) (WF wb v') := by
  have HW := hid hW
  obtain ⟨za, zc, rfl, -, -⟩ := row_shape hW.own
  have c0 : w.cell? ⟨wb, 0, none⟩ = some (.slice za xs.length zc) := Joins.cell_of_block hW.box 0
  have hbs := hW.bs
  obtain ⟨xn, hxn⟩ : ∃ xn, xs.length = xn := ⟨_, rfl⟩
  have HOR : Hid (RR base w xs (.slice za xn zc)) := .inl (by have e := hW.own; rw [hxn] at e; rw [← hxn]; rw [hxn]; exact e)
  rw [hxn] at c0 HW
  have HS : Hid (xs.length ≤ 1099511627776) := by show _ ≤ _; omega
  have HS2 : Hid ((xs ++ [32]).length + 1 ≤ 1099511627776) := by show _ ≤ _; simp; omega
  have HXN := hid hxn
  rw [hxn]
  clear hW hxn hS
  go_enter Tryd.func60, Tryd.ntmps60
  go_upto_region 1 with (at_builtin; refine wpList_append_oneR rfl (.tmp 8) (.tmp 9) rfl base _ 32 1 xs rfl HOR.out _ rfl rfl HS.out hbs ?_; intro v' w1 ho1 hm1; obtain ⟨va, vc, rfl, _, _⟩ := row_shape ho1.out; obtain ⟨c1, f1⟩ := HW.out.r.box1 (by decide) hm1.out; obtain ⟨h1, h2⟩ := HW.out.r.put (by decide) hm1.out (ys := xs ++ [32]) ho1.out (by rw [List.length_append]; rfl); have H1 := hid h1; have H2 := hid h2; clear h1 h2 ho1 hm1)
  all_goals
    have e71 : xs.length + 1 = (xs ++ [32]).length := by simp
    rw [e71] at H1 H2 ⊢
    obtain ⟨ys, hys⟩ : ∃ ys, ys = xs ++ [32] := ⟨_, rfl⟩
    have hfin : xs ++ 32 :: dec k = ys ++ dec k := by rw [hys]; simp
    have HF := hid hfin
    rw [← hys] at H1 H2 HS2 ⊢
    obtain ⟨yn, hyn⟩ : ∃ yn, ys.length = yn := ⟨_, rfl⟩
    obtain ⟨W1, hW1⟩ : ∃ W1, W1 = w1.setCell ⟨wb, 0, none⟩ (.slice va ys.length vc) := ⟨_, rfl⟩
    rw [← hW1] at H1 H2 ⊢
    have C71 := int71 hk H1.out.own H1.out.bs HS2.out
    have d0 : W1.cell? ⟨wb, 0, none⟩ = some (.slice va ys.length vc) := Joins.cell_of_block H1.out.box 0
    rw [hyn] at C71 d0 H1 H2 ⊢
    clear hfin hyn hW1 c1 f1 c0 HW HOR HS HS2 hbs HXN e71
    go_wp2_with (first | (go_at_call 71; (with_reducible refine C71.mono ?_); rintro e w2 ⟨v', ln, rfl, hln, ho, hm⟩; obtain ⟨vb, vd, rfl, -, -⟩ := row_shape ho; obtain ⟨h1, h2, g1, gf⟩ := H1.out.put0 (by decide) hm hln ho; have H3 := hid h1; have H4 := hid h2; clear h1 h2 ho hm hln))
    all_goals go_end0
    all_goals exact ⟨rfl, _, by rw [HF.out]; exact H3.out, H2.out.trans H4.out⟩
end Go.Proofs.YteanndophopplaaDoor
/- HELPERS: the text of one program. -/
namespace Go.Proofs.YteanndophopplaaDoor
open Go.RowKit Go.Lib
set_option linter.unusedVariables false
set_option linter.unusedSimpArgs false
/-- the word of the last op but two, where the program's words lie -/
def Gw (w : World) : Prop := w.cell? ⟨0, 5, none⟩ = some (.string ⟨#[109, 97, 116, 99, 104]⟩)
theorem number60_0 {base wb : Nat} {w : World} {xs : List Nat} {v : Value} (hW : WB 90 base wb w xs v) (hS : xs.length + 2 ≤ 1099511627776) :
    Calls Tryd.prog 60 #[pt wb, .int .i64 0] w fun e w' => e = .returned (.tuple #[]) ∧ ∃ v', WB 90 base wb w' (xs ++ [32, 48]) v' ∧ Chg w w' (WF wb v) (WF wb v') := by
  have C := number60 (k := 0) (.inl rfl) hW hS
  rw [dec_small (by omega)] at C
  exact C
theorem number60_2 {base wb : Nat} {w : World} {xs : List Nat} {v : Value} (hW : WB 90 base wb w xs v) (hS : xs.length + 2 ≤ 1099511627776) :
    Calls Tryd.prog 60 #[pt wb, .int .i64 2] w fun e w' => e = .returned (.tuple #[]) ∧ ∃ v', WB 90 base wb w' (xs ++ [32, 50]) v' ∧ Chg w w' (WF wb v) (WF wb v') := by
  have C := number60 (k := 2) (.inr rfl) hW hS
  rw [dec_small (by omega)] at C
  exact C
set_option maxRecDepth 100000 in
set_option maxHeartbeats 4000000 in
theorem fields_one {base wb : Nat} (hbw : base ≤ wb) {w : World} {xs : List Nat} {v : Value} {r1 : Option Addr} {r2 r3 : Nat}
    (hW : WB 90 base wb w xs v) (hS : xs.length ≤ 500000000000) :
    Calls Tryd.prog 61 #[.agg #[.int .i64 5, .int .i64 0, .int .i64 0, .int .i64 0, .slice r1 r2 r3], mv 60 wb] w fun e w' => e = .returned (.tuple #[]) ∧ ∃ v', WB 90 base wb w' (xs ++ [32, 48]) v' ∧ Chg w w' (WF wb v) (WF wb v') := by
  have C1 := number60_0 (hW.alloc (.cells #[.int .i64 5, .int .i64 0, .int .i64 0, .int .i64 0, .slice r1 r2 r3] 49)) (by omega)
  have hf : Enters 60 := enter_of Tryd.func60 (by kernel_rfl) rfl
  have HW := hid hW
  clear hW
  go_enter Tryd.func61, Tryd.ntmps61
  go_wp2_with (with_reducible refine C1.mono ?_; rintro e w1 ⟨rfl, v1, hW1, hC1⟩; obtain ⟨k0, k1, k2, k3, k4⟩ := HW.out.cells5 hC1; have HW1 := hid hW1; have HC1 := hid hC1.pre; clear hW1 hC1 C1)
  all_goals go_end0
  all_goals exact ⟨rfl, v1, HW1.out, HC1.out⟩
end Go.Proofs.YteanndophopplaaDoor
/- HELPERS: the text of one program. -/
namespace Go.Proofs.YteanndophopplaaDoor
open Go.RowKit Go.Lib
set_option linter.unusedVariables false
set_option linter.unusedSimpArgs false
abbrev tA : List Nat := [99, 97, 112, 115, 32, 50, 32, 115, 116, 97, 114, 116, 32, 48, 10]
abbrev tB : List Nat := [32, 32, 109, 97, 116, 99, 104, 32, 48, 10]
/-- a text being written: the program's box, the writer's, its bytes -/
structure TS (w0 w : World) (base : Nat) (c : Array Value) (xs : List Nat) (v : Value) : Prop where
  wb : WB 90 base (base + 1) w xs v
  box : w.heap[base]? = some (.cells c 24 (0, 0))
  low : Below base w0 w
/-- blocks but the writer's, and but rows of bytes, are kept -/
def Kq (w w' : World) (base : Nat) : Prop := ∀ (b : Nat) (c : Array Value) (t : TypeId) (fr : Nat × Nat), w.heap[b]? = some (.cells c t fr) → t ≠ 5 → b ≠ base + 1 → w'.heap[b]? = some (.cells c t fr)
theorem TS.step {w0 w w' : World} {base : Nat} {c : Array Value} {xs ys : List Nat} {v v' : Value} (h : TS w0 w base c xs v) (h2 : WB 90 base (base + 1) w' ys v') (hc : Chg w w' (WF (base + 1) v) (WF (base + 1) v')) : TS w0 w' base c ys v' ∧ Kq w w' base :=
  ⟨⟨h2, h.wb.r.keepT hc h.box (by decide) (by omega), h.low.trans (h.wb.below (by omega) hc)⟩, fun _ _ _ _ hb ht hne => h.wb.r.keepT hc hb ht hne⟩
theorem TS.add {w0 w : World} {base : Nat} {c : Array Value} {xs ys : List Nat} {v : Value} {s : ByteArray} (h : TS w0 w base c xs v) (hs : bs s = ys) (hn : xs.length + s.size ≤ 1000000) :
    Calls Tryd.prog 59 #[.pointer (some ⟨base + 1, 0, none⟩), .string s] w fun e w' => e = .returned (.tuple #[]) ∧ ∃ v', TS w0 w' base c (xs ++ ys) v' ∧ Kq w w' base := by
  refine (add59 h.wb (s := s) (by omega)).mono ?_
  rintro e w' ⟨rfl, v', h1, h2⟩
  rw [hs] at h1
  exact ⟨rfl, v', h.step h1 h2⟩
theorem TS.num0 {w0 w : World} {base : Nat} {c : Array Value} {xs : List Nat} {v : Value} (h : TS w0 w base c xs v) (hn : xs.length ≤ 1000000) :
    Calls Tryd.prog 60 #[.pointer (some ⟨base + 1, 0, none⟩), .int .i64 0] w fun e w' => e = .returned (.tuple #[]) ∧ ∃ v', TS w0 w' base c (xs ++ [32, 48]) v' ∧ Kq w w' base := by
  refine (number60_0 h.wb (by omega)).mono ?_
  rintro e w' ⟨rfl, v', h1, h2⟩
  exact ⟨rfl, v', h.step h1 h2⟩
theorem TS.num2 {w0 w : World} {base : Nat} {c : Array Value} {xs : List Nat} {v : Value} (h : TS w0 w base c xs v) (hn : xs.length ≤ 1000000) :
    Calls Tryd.prog 60 #[.pointer (some ⟨base + 1, 0, none⟩), .int .i64 2] w fun e w' => e = .returned (.tuple #[]) ∧ ∃ v', TS w0 w' base c (xs ++ [32, 50]) v' ∧ Kq w w' base := by
  refine (number60_2 h.wb (by omega)).mono ?_
  rintro e w' ⟨rfl, v', h1, h2⟩
  exact ⟨rfl, v', h.step h1 h2⟩
theorem TS.fld {w0 w : World} {base : Nat} {c : Array Value} {xs : List Nat} {v : Value} {r1 : Option Addr} {r2 r3 : Nat} (h : TS w0 w base c xs v) (hn : xs.length ≤ 1000000) :
    Calls Tryd.prog 61 #[.agg #[.int .i64 5, .int .i64 0, .int .i64 0, .int .i64 0, .slice r1 r2 r3], mv 60 (base + 1)] w fun e w' => e = .returned (.tuple #[]) ∧ ∃ v', TS w0 w' base c (xs ++ [32, 48]) v' ∧ Kq w w' base := by
  refine (fields_one (by omega) h.wb (by omega)).mono ?_
  rintro e w' ⟨rfl, v', h1, h2⟩
  exact ⟨rfl, v', h.step h1 h2⟩
theorem TS.alloc {w0 w : World} {base : Nat} {c : Array Value} {xs : List Nat} {v : Value} (h : TS w0 w base c xs v) (o : Obj) : TS w0 (w.alloc o) base c xs v :=
  ⟨h.wb.alloc o, (heap_alloc_old _ _ (Array.getElem?_eq_some_iff.1 h.box).1).trans h.box, h.low.alloc h.wb.bs o⟩
theorem TS.start {w : World} {base : Nat} (hb : base = w.heap.size) (c : Array Value) : TS w ((w.alloc (.cells c 24)).alloc (.cells #[.slice none 0 0] 90)) base c [] (.slice none 0 0) := by
  subst hb
  have g0 := heap_alloc_new w (.cells c 24)
  have g1 := heap_alloc_new (w.alloc (.cells c 24)) (.cells #[.slice none 0 0] 90)
  rw [show (w.alloc (.cells c 24)).heap.size = w.heap.size + 1 by simp] at g1
  refine ⟨⟨g1, ⟨rfl, .inl ⟨rfl, rfl⟩⟩, by simp; omega⟩, (heap_alloc_old _ _ (by simp)).trans g0, ?_⟩
  exact ((Below.refl w.heap.size w).alloc (Nat.le_refl _) _).alloc (by simp) _
set_option maxRecDepth 100000 in
set_option maxHeartbeats 4000000 in
theorem text38 {w : World} {b : Nat} {fr : Nat × Nat} (hg : w.heap[b]? = some (.cells #[.int .i64 5, .int .i64 0, .int .i64 0, .int .i64 0, .slice none 0 0] 49 fr)) (hG : Gw w) (h0 : 0 < w.heap.size) :
    Calls Tryd.prog 38 #[.agg #[.slice (some ⟨b, 0, none⟩) 1 1, .int .i64 0, .int .i64 2]] w fun e w' => ∃ v, e = .returned v ∧ w'.ownsRow w.heap.size 5 1 v 25 (U8 (tA ++ tB)) ∧ Below w.heap.size w w' := by
  obtain ⟨base, hbase⟩ : ∃ base, base = w.heap.size := ⟨_, rfl⟩
  have hS := TS.start hbase #[.slice (some ⟨b, 0, none⟩) 1 1, .int .i64 0, .int .i64 2]
  go_enter Tryd.func38, Tryd.ntmps38
  go_upto_region 2 with fail
  rw [← hbase]
  obtain ⟨W1, hW1⟩ : ∃ W1, W1 = (w.alloc (.cells #[.slice (some ⟨b, 0, none⟩) 1 1, .int .i64 0, .int .i64 2] 24)).alloc (.cells #[.slice none 0 0] 90) := ⟨_, rfl⟩
  rw [← hW1] at hS ⊢
  have HS := hid hS
  have HB := hid hbase
  have HG := hid hG
  have HGG := hid hg
  have H0 := hid h0
  clear hW1 hS hbase hG hg h0
  go_wp2_with (go_at_call 59; (with_reducible refine (HS.out.add (ys := [99, 97, 112, 115]) rfl (by decide)).mono ?_); rintro e w1 ⟨rfl, v1, h1, -⟩; obtain ⟨c0, c1, c2⟩ := three_cells h1.box; have H1 := hid h1; clear h1 HS)
  go_wp2_with (go_at_call 60; (with_reducible refine (H1.out.num2 (by decide)).mono ?_); rintro e w2 ⟨rfl, v2, h2, -⟩; obtain ⟨d0, d1, d2⟩ := three_cells h2.box; have H2 := hid h2; clear h2 H1 c0 c1 c2)
  go_wp2_with (go_at_call 59; (with_reducible refine (H2.out.add (ys := [32, 115, 116, 97, 114, 116]) rfl (by decide)).mono ?_); rintro e w3 ⟨rfl, v3, h3, -⟩; obtain ⟨e0, e1, e2⟩ := three_cells h3.box; have H3 := hid h3; clear h3 H2 d0 d1 d2)
  go_wp2_with (go_at_call 60; (with_reducible refine (H3.out.num0 (by decide)).mono ?_); rintro e w4 ⟨rfl, v4, h4, -⟩; obtain ⟨c0, c1, c2⟩ := three_cells h4.box; have H4 := hid h4; clear h4 H3 e0 e1 e2)
  go_wp2_with (go_at_call 59; (with_reducible refine (H4.out.add (ys := [10]) rfl (by decide)).mono ?_); rintro e w5 ⟨rfl, v5, h5, -⟩; obtain ⟨d0, d1, d2⟩ := three_cells h5.box; have H5 := hid h5; clear h5 H4 c0 c1 c2)
  go_loopw [18] (fun y wq => ∃ (i : Nat) (z : Value), y = .int .i64 (i : Int) ∧ i ≤ 1 ∧ Hid (TS w wq base #[.slice (some ⟨b, 0, none⟩) 1 1, .int .i64 0, .int .i64 2] (if i = 0 then tA else tA ++ tB) z)) (fun y _ => 1 - (intOf y).toNat)
  case atStart => exact ⟨0, v5, rfl, by omega, by rw [if_pos rfl]; exact H5.out⟩
  case round =>
    clear H5 d0 d1 d2
    obtain ⟨i, z, rfl, hi, HW⟩ := hrel
    obtain ⟨xs, hxs⟩ : ∃ xs, (if i = 0 then tA else tA ++ tB) = xs := ⟨_, rfl⟩
    rw [hxs] at HW
    obtain ⟨za, zc, rfl, -, -⟩ := row_shape HW.out.wb.own
    have hlt : base + 1 < wr.heap.size := (Array.getElem?_eq_some_iff.1 HW.out.wb.box).1
    by_cases h1 : i = 0
    · subst h1
      rw [if_pos rfl] at hxs
      subst hxs
      have k0 : wr.cell? ⟨base + 1, 0, none⟩ = some (.slice za 15 zc) := Joins.cell_of_block HW.out.wb.box 0
      have hbl : b < w.heap.size := (Array.getElem?_eq_some_iff.1 HGG.out).1
      obtain ⟨m0, m1, m2, m3, m4⟩ := five ((HW.out.low.block b (by rw [HB.out]; exact hbl)).trans HGG.out)
      have hA := HW.out.alloc (.cells #[.int .i64 5, .int .i64 0, .int .i64 0, .int .i64 0, .slice none 0 0] 49)
      have HN := hid (heap_alloc_new wr (.cells #[.int .i64 5, .int .i64 0, .int .i64 0, .int .i64 0, .slice none 0 0] 49))
      have HA := hid hA
      have hne : wr.heap.size ≠ base + 1 := by omega
      clear hA
      go_wp2_with (go_at_call 59; (with_reducible refine (HA.out.add (ys := [32, 32]) rfl (by decide)).mono ?_); rintro e w6 ⟨rfl, v6, h6, hk6⟩; have hn6 := hk6 _ _ _ _ HN.out (by decide) hne; obtain ⟨e0, e1, e2, e3, e4⟩ := five hn6; have g5 : w6.cell? ⟨0, 5, none⟩ = some (.string ⟨#[109, 97, 116, 99, 104]⟩) := (h6.low.cell (p := ⟨0, 5, none⟩) (by rw [HB.out]; exact H0.out)).trans HG.out; have HN6 := hid hn6; have H6 := hid h6; clear h6 hk6 hn6 k0 m0 m1 m2 m3 m4)
      go_wp2_with (go_at_call 59; (with_reducible refine (H6.out.add (ys := [109, 97, 116, 99, 104]) rfl (by decide)).mono ?_); rintro e w7 ⟨rfl, v7, h7, hk7⟩; have hn7 := hk7 _ _ _ _ HN6.out (by decide) hne; obtain ⟨m0, m1, m2, m3, m4⟩ := five hn7; have H7 := hid h7; clear h7 hk7 hn7 e0 e1 e2 e3 e4 H6)
      go_wp2_with (go_at_call 61; (with_reducible refine (H7.out.fld (by decide)).mono ?_); rintro e w8 ⟨rfl, v8, h8, hk8⟩; have H8 := hid h8; clear h8 hk8 m0 m1 m2 m3 m4 H7)
      go_wp2_with (go_at_call 59; (with_reducible refine (H8.out.add (ys := [10]) rfl (by decide)).mono ?_); rintro e w9 ⟨rfl, v9, h9, hk9⟩; have H9 := hid h9; clear h9 hk9 H8)
      all_goals exact ⟨⟨1, v9, rfl, by omega, by rw [if_neg (by omega)]; exact H9.out⟩, by simp [intOf]⟩
    · have h2 : i = 1 := by omega
      subst h2
      rw [if_neg (by omega)] at hxs
      subst hxs
      have k0 : wr.cell? ⟨base + 1, 0, none⟩ = some (.slice za 25 zc) := Joins.cell_of_block HW.out.wb.box 0
      go_wp2
      all_goals go_ret
      all_goals exact ⟨_, rfl, by rw [← HB.out]; exact HW.out.wb.own, by rw [← HB.out]; exact HW.out.low⟩
end Go.Proofs.YteanndophopplaaDoor
/- HELPERS: the text of one program. -/
namespace Go.Proofs.YteanndophopplaaDoor
open Go.RowKit Go.Lib
set_option linter.unusedVariables false
set_option linter.unusedSimpArgs false
abbrev oneC : Array Value := #[.int .i64 5, .int .i64 0, .int .i64 0, .int .i64 0, .slice none 0 0]
abbrev oneL : List In := [⟨5, 0, 0, 0, []⟩]
set_option maxRecDepth 100000 in
set_option maxHeartbeats 4000000 in
theorem one23 (w : World) : Calls Tryd.prog 23 #[] w fun e w' => ∃ b fr, e = .returned (pv (some ⟨b, 0, none⟩) 1 1 0 2) ∧ w'.heap[b]? = some (.cells oneC 49 fr) ∧ Below w.heap.size w w' ∧ w.heap.size ≤ b := by
  go_enter Tryd.func23, Tryd.ntmps23
  go_wp2
  have g0 := heap_alloc_new w (.cells #[.slice (some ⟨w.heap.size + 1, 0, none⟩) 1 1, .int .i64 0, .int .i64 2] 24)
  have g1 := heap_alloc_new (w.alloc (.cells #[.slice (some ⟨w.heap.size + 1, 0, none⟩) 1 1, .int .i64 0, .int .i64 2] 24)) (.cells oneC 49)
  rw [show (w.alloc (.cells #[.slice (some ⟨w.heap.size + 1, 0, none⟩) 1 1, .int .i64 0, .int .i64 2] 24)).heap.size = w.heap.size + 1 by simp] at g1
  refine bodyPost_ret (results_cell_row rfl _ _ w.heap.size 24 _ (0, 0) _ rfl ((heap_alloc_old _ _ (by simp)).trans g0) Tryd.underlying24 rfl (by kernel_rfl)) rfl ?_
  exact ⟨w.heap.size + 1, _, rfl, g1, ((Below.refl w.heap.size w).alloc (Nat.le_refl _) _).alloc (by simp) _, by omega⟩
theorem pi_one {w : World} {b : Nat} {fr : Nat × Nat} {B : Nat} (hg : w.heap[b]? = some (.cells oneC 49 fr)) (hb : b < B) : PI w B (some ⟨b, 0, none⟩) 1 oneL := by
  refine ⟨rfl, fun _ => ⟨b, 0, fun _ => ⟨5, 0, 0, 0, none, 0, 0⟩, rfl, hb, fun i hi => ?_⟩⟩
  have h0 : i = 0 := by simp at hi; omega
  subst h0
  obtain ⟨m0, m1, m2, m3, m4⟩ := five hg
  exact ⟨⟨m0, m1, m2, m3, m4⟩, ⟨rfl, rfl, rfl, rfl, rfl, by decide, none, 0, rfl, .inl rfl⟩⟩
theorem may_one : mayB oneL 0 2 = true := by decide
abbrev tS : ByteArray := ⟨#[99, 97, 112, 115, 32, 50, 32, 115, 116, 97, 114, 116, 32, 48, 10, 32, 32, 109, 97, 116, 99, 104, 32, 48, 10]⟩
theorem u8_at (l : List Nat) (k : Nat) (hk : k < l.length) : (U8 l)[k]? = some (.int .u8 ((I8 l).getD k 0)) := by
  simp [U8, I8, List.getD_eq_getElem?_getD, List.getElem?_map, List.getElem?_eq_getElem hk]
theorem conv_one {w : World} {base : Nat} {ad : Option Addr} {c : Nat} (h : w.ownsRow base 5 1 (.slice ad 25 c) 25 (U8 (tA ++ tB))) : (convert 36 9 (.slice ad 25 c)).run Tryd.prog w = .ok (.string tS) w := by
  rcases h.2 with ⟨e, h0⟩ | ⟨b, cap, cur, e, _⟩
  · cases h0
  · simp only [Value.slice.injEq] at e
    obtain ⟨rfl, -, rfl⟩ := e
    have := run_convert_bytes_arg (P := Tryd.prog) w 36 5 Tryd.underlying36 Tryd.underlying5 b 0 25 c (I8 (tA ++ tB)) rfl (fun k hk => by
      rw [Nat.zero_add, h.cellAt k hk]
      exact u8_at (tA ++ tB) k hk) 9 Tryd.underlying9
    rw [this]
    congr 1
set_option maxRecDepth 100000 in
set_option maxHeartbeats 4000000 in
theorem print21 {w : World} {b : Nat} {fr : Nat × Nat} (hg : w.heap[b]? = some (.cells oneC 49 fr)) (hG : Gw w) (h0 : 0 < w.heap.size) :
    Calls Tryd.prog 21 #[pv (some ⟨b, 0, none⟩) 1 1 0 2] w fun e w' => e = .returned (.tuple #[.string tS, .int .i64 0]) ∧ Below w.heap.size w w' := by
  have hb0 := Joins.below_alloc1 w (.cells #[.slice (some ⟨b, 0, none⟩) 1 1, .int .i64 0, .int .i64 2] 24)
  obtain ⟨U, hU⟩ : ∃ U, U = w.alloc (.cells #[.slice (some ⟨b, 0, none⟩) 1 1, .int .i64 0, .int .i64 2] 24) := ⟨_, rfl⟩
  have g0 := heap_alloc_new w (.cells #[.slice (some ⟨b, 0, none⟩) 1 1, .int .i64 0, .int .i64 2] 24)
  rw [← hU] at hb0 g0
  have hlt : w.heap.size < U.heap.size := (Array.getElem?_eq_some_iff.1 g0).1
  have hbl : b < w.heap.size := (Array.getElem?_eq_some_iff.1 hg).1
  have hg1 : U.heap[b]? = some (.cells oneC 49 fr) := (hb0.block b hbl).trans hg
  have hG1 : Gw U := (hb0.cell (p := ⟨0, 5, none⟩) h0).trans hG
  have C37 := check10 (c := 1) (s := 0) (k := 2) (pi_one hg1 (by omega))
  rw [may_one] at C37
  have C38 : ∀ w2, Below U.heap.size U w2 → _ := fun w2 hb => text38 (w := w2) (b := b) (fr := fr) ((hb.block b (by omega)).trans hg1) ((hb.cell (p := ⟨0, 5, none⟩) (show 0 < U.heap.size by omega)).trans hG1) (by have := hb.size; omega)
  have HG0 := hid g0
  have HB0 := hid hb0
  have HU := hid hU
  obtain ⟨c0, c1, c2⟩ := three_cells g0
  clear g0 hb0 hU hg hG hg1 hG1
  go_enter Tryd.func21, Tryd.ntmps21
  go_upto_region 1 with fail
  rw [← HU.out]
  go_wp2_with (go_at_call 37; (with_reducible refine C37.mono ?_); rintro e w2 ⟨rfl, hb2⟩; have HB2 := hid hb2; obtain ⟨d0, d1, d2⟩ := three_cells ((hb2.block _ hlt).trans HG0.out); have D38 := C38 w2 hb2; clear hb2 C37)
  go_wp2_with (go_at_call 38; (with_reducible refine D38.mono ?_); rintro e w3 ⟨v, rfl, ho3, hb3⟩; obtain ⟨va, vc, rfl, -, -⟩ := row_shape ho3; have hcv := conv_one ho3; have HB3 := hid hb3; clear ho3 hb3 D38)
  all_goals go_ret2
  all_goals exact ⟨rfl, HB0.out.trans (Joins.below_le (HB2.out.trans (Joins.below_le HB3.out HB2.out.size)) HB0.out.size)⟩
end Go.Proofs.YteanndophopplaaDoor
namespace Go.Proofs.YteanndophopplaaDoor
open Go.RowKit Go.Lib
set_option linter.unusedVariables false
set_option linter.unusedSimpArgs false
theorem core_one : coreB oneL 0 2 = [72, 82, 80, 71, 2, 0, 1, 5, 0] := by
  have e0 : put7 0 = [0] := put7_small (by omega)
  have e1 : put7 1 = [1] := put7_small (by omega)
  have e2 : put7 2 = [2] := put7_small (by omega)
  simp [coreB, bodyB, headB, In.nums, e0, e1, e2]
theorem full_one : ∃ s0 s1 s2 s3, fullB oneL 0 2 = [72, 82, 80, 71, 2, 0, 1, 5, 0, s0, s1, s2, s3] := by
  rw [fullB, core_one]
  exact ⟨_, _, _, _, rfl⟩
/-- Bytes of the program `one` -/
theorem bytes_one {w : World} {b : Nat} {fr : Nat × Nat} (hg : w.heap[b]? = some (.cells oneC 49 fr)) :
    Calls Tryd.prog 22 #[pv (some ⟨b, 0, none⟩) 1 1 0 2] w fun e w' => Below w.heap.size w w' ∧ ∃ g c, e = .returned (.tuple #[.slice (some ⟨g, 0, none⟩) 13 c, .int .i64 0]) ∧ g < w'.heap.size ∧ w'.cell? ⟨g, 0, none⟩ = some (.int .u8 72) ∧ w'.cell? ⟨g, 7, none⟩ = some (.int .u8 5) := by
  have hbl : b < w.heap.size := (Array.getElem?_eq_some_iff.1 hg).1
  refine (bytes22 (c := 1) (s := 0) (k := 2) (pi_one hg hbl)).mono ?_
  obtain ⟨s0, s1, s2, s3, hf⟩ := full_one
  rintro e w' ⟨hb, h⟩
  refine ⟨hb, ?_⟩
  rw [hf, may_one] at h
  rcases h with ⟨h, _⟩ | ⟨_, h, _⟩ | ⟨_, _, v, rfl, ho⟩
  · cases h
  · simp at h
  · obtain ⟨za, zc, rfl, -, -⟩ := row_shape ho
    rcases ho.2 with ⟨e, h0⟩ | ⟨g, cap, cur, e, _⟩
    · cases h0
    · simp only [Value.slice.injEq] at e
      obtain ⟨rfl, -, rfl⟩ := e
      refine ⟨g, zc, rfl, (ho.lt g rfl).2, ?_, ?_⟩
      · rw [ho.cellAt 0 (by simp)]; rfl
      · rw [ho.cellAt 7 (by simp)]; rfl
set_option maxRecDepth 100000 in
set_option maxHeartbeats 4000000 in
theorem awake8 {w : World} (hG : Gw w) (h0 : 0 < w.heap.size) : Calls Tryd.prog 8 #[] w fun e w' => e = .returned (.bool true) ∧ Below w.heap.size w w' := by
  have C1 := one23 w
  have C2 : ∀ (w1 : World) (b : Nat) (fr : Nat × Nat), w1.heap[b]? = some (.cells oneC 49 fr) → _ := fun w1 b fr hg => bytes_one (w := w1) (b := b) (fr := fr) hg
  have HG := hid hG
  have H0 := hid h0
  clear hG h0
  go_enter Tryd.func8, Tryd.ntmps8
  go_wp2_with (first | (go_at_call 23; (with_reducible refine C1.mono ?_); rintro e w1 ⟨b, fr, rfl, hg, hb, -⟩; have D2 := C2 _ _ _ hg; have HB1 := hid hb; clear hg hb C1) | (go_at_call 22; (with_reducible refine D2.mono ?_); rintro e w2 ⟨hb2, g, c, rfl, hlt, k0, k7⟩; have HLT := hid hlt; have K0 := hid k0; have K7 := hid k7; have HB2 := hid (HB1.out.trans (Joins.below_le hb2 HB1.out.size)); clear hb2 HB1 hlt k0 k7 D2))
  have C3 := one23 w2
  go_upto_region 3 with (first | (go_at_call 23; (with_reducible refine C3.mono ?_); rintro e w3 ⟨b2, fr2, rfl, hg2, hb3, -⟩; have D3 := print21 hg2 ((hb3.cell (p := ⟨0, 5, none⟩) (show 0 < w2.heap.size by have := HB2.out.size; have := H0.out; omega)).trans ((HB2.out.cell (p := ⟨0, 5, none⟩) H0.out).trans HG.out)) (by have := hb3.size; have := HB2.out.size; have := H0.out; omega); have HB3 := hid hb3; clear hg2 hb3 C3) | (go_at_call 21; (with_reducible refine D3.mono ?_); rintro e w4 ⟨rfl, hb4⟩; have HB4 := hid (HB3.out.trans (Joins.below_le hb4 HB3.out.size)); clear hb4 D3 HB3))
  have k0 := (HB4.out.cell (p := ⟨g, 0, none⟩) HLT.out).trans K0.out
  have k7 := (HB4.out.cell (p := ⟨g, 7, none⟩) HLT.out).trans K7.out
  go_wp2
  all_goals go_ret
  all_goals exact ⟨rfl, HB2.out.trans (Joins.below_le HB4.out HB2.out.size)⟩
end Go.Proofs.YteanndophopplaaDoor
