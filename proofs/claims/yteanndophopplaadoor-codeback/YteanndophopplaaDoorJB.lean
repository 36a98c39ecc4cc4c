/- HELPERS: the operation that a word names. -/
import Derived.Test.YteanndophopplaaDoorWW
import Derived.Test.YteanndophopplaaDoorHA
import Derived.Test.YteanndophopplaaDoorLL
/- HELPERS: the document's words of a text. -/
namespace Go.Proofs.YteanndophopplaaDoor
open Go.RowKit
set_option linter.unusedVariables false
set_option linter.unusedSimpArgs false
/-- strings as they lie -/
def S1 (L : List ByteArray) : List Value := L.map Value.string
theorem S1_len (L : List ByteArray) : (S1 L).length = L.length := by simp [S1]
theorem S1_snoc (L : List ByteArray) (x : ByteArray) : S1 (L ++ [x]) = S1 L ++ [.string x] := by simp [S1]
theorem info9 : (Tryd.prog.info? 9).map (fun i => (i.zero, i.size, i.bytes)) = some (some (.string ⟨#[]⟩), 1, 16) := by kernel_rfl
theorem below_gb {w V V' : World} {y y' : Value} {base e sz n : Nat} {xs : List Value} (h : Below base w V) (hb : base ≤ V.heap.size) (hr : V.ownsRow base e sz y n xs) (hg : GB V V' y y') : Below base w V' :=
  ⟨hg.os.trans h.os, hg.tape.trans h.tape, hg.output.trans h.output, Nat.le_trans h.size hg.size, fun k hk => (hg.block k (by omega) (fun e => by have := (hr.lt k e).1; omega)).trans (h.block k hk)⟩
theorem blank_cases (x : Nat) : (blankB x = true ∧ ((x : Int) = 32 ∨ (x : Int) = 9 ∨ (x : Int) = 10 ∨ (x : Int) = 13)) ∨ (blankB x = false ∧ ¬ (x : Int) = 32 ∧ ¬ (x : Int) = 9 ∧ ¬ (x : Int) = 10 ∧ ¬ (x : Int) = 13) := by
  by_cases h1 : x = 32
  · left; refine ⟨by simp [blankB, h1], .inl (by omega)⟩
  by_cases h2 : x = 9
  · left; refine ⟨by simp [blankB, h2], .inr (.inl (by omega))⟩
  by_cases h3 : x = 10
  · left; refine ⟨by simp [blankB, h3], .inr (.inr (.inl (by omega)))⟩
  by_cases h4 : x = 13
  · left; refine ⟨by simp [blankB, h4], .inr (.inr (.inr (by omega)))⟩
  right
  exact ⟨by simp [blankB, h1, h2, h3, h4], by omega, by omega, by omega, by omega⟩
/-- the words so far, and those to come -/
def WS (s : ByteArray) (L : List ByteArray) (i : Nat) (st : Option Nat) : Prop :=
  L.length ≤ i ∧ (∀ x ∈ L, x.size ≤ 8388608) ∧ match st with
    | none => L.map bs ++ wsp [] ((bs s).drop i) = wordsL (bs s)
    | some j => j < i ∧ L.length < i ∧ L.map bs ++ wsp (((bs s).drop j).take (i - j)) ((bs s).drop i) = wordsL (bs s)
theorem WS.start (s : ByteArray) : WS s [] 0 none := ⟨by simp, by simp, rfl⟩
theorem WS.blank {s : ByteArray} {L : List ByteArray} {i : Nat} (h : WS s L i none) (hi : i < s.size) (hb : blankB s[i].toNat = true) : WS s L (i + 1) none := by
  refine ⟨by have := h.1; omega, h.2.1, ?_⟩
  have e := h.2.2
  rw [bs_drop s i hi, wsp_blank hb] at e
  exact e
theorem WS.begin {s : ByteArray} {L : List ByteArray} {i : Nat} (h : WS s L i none) (hi : i < s.size) (hb : blankB s[i].toNat = false) : WS s L (i + 1) (some i) := by
  refine ⟨by have := h.1; omega, h.2.1, by omega, by have := h.1; omega, ?_⟩
  have e := h.2.2
  rw [bs_drop s i hi, wsp_more hb] at e
  rw [bs_drop s i hi, show i + 1 - i = 1 by omega]
  exact e
theorem WS.more {s : ByteArray} {L : List ByteArray} {i j : Nat} (h : WS s L i (some j)) (hi : i < s.size) (hb : blankB s[i].toNat = false) : WS s L (i + 1) (some j) := by
  obtain ⟨h1, h2, h3, h4, e⟩ := h
  refine ⟨by omega, h2, by omega, by omega, ?_⟩
  rw [bs_drop s i hi, wsp_more hb] at e
  rw [show i + 1 - j = i - j + 1 by omega, take_more (by rw [bs_len]; exact hi) (by omega), bs_at s i hi]
  exact e
theorem cur_ne {s : ByteArray} {i j : Nat} (h : j < i) (hi : i ≤ s.size) : ((bs s).drop j).take (i - j) ≠ [] := by
  intro e
  have := congrArg List.length e
  rw [List.length_take, List.length_drop, bs_len, List.length_nil] at this
  omega
theorem WS.cut {s : ByteArray} {L : List ByteArray} {i j : Nat} (h : WS s L i (some j)) (hi : i < s.size) (hs : s.size ≤ 8388608) (hb : blankB s[i].toNat = true) : WS s (L ++ [s.extract j i]) (i + 1) none := by
  obtain ⟨h1, h2, h3, h4, e⟩ := h
  refine ⟨by rw [List.length_append]; simp; omega, fun x hx => ?_, ?_⟩
  · rcases List.mem_append.1 hx with hx | hx
    · exact h2 x hx
    · simp at hx; rw [hx]; simp; omega
  · rw [bs_drop s i hi, wsp_stop hb (cur_ne h3 (by omega)), wsp_blank hb] at e
    show (L ++ [s.extract j i]).map bs ++ wsp [] ((bs s).drop (i + 1)) = _
    rw [List.map_append, List.append_assoc]
    show L.map bs ++ (bs (s.extract j i) :: wsp [] ((bs s).drop (i + 1))) = _
    rw [bs_extract s j i (by omega)]
    exact e
theorem WS.last {s : ByteArray} {L : List ByteArray} {j : Nat} (h : WS s L s.size (some j)) (hs : s.size ≤ 8388608) : (L ++ [s.extract j s.size]).length ≤ s.size ∧ (∀ x ∈ L ++ [s.extract j s.size], x.size ≤ 8388608) ∧ (L ++ [s.extract j s.size]).map bs = wordsL (bs s) := by
  obtain ⟨h1, h2, h3, h4, e⟩ := h
  refine ⟨by rw [List.length_append]; simp; omega, fun x hx => ?_, ?_⟩
  · rcases List.mem_append.1 hx with hx | hx
    · exact h2 x hx
    · simp at hx; rw [hx]; simp; omega
  · rw [show (bs s).drop s.size = [] from List.drop_eq_nil_of_le (by rw [bs_len]; omega), wsp_end (cur_ne h3 (by omega))] at e
    rw [List.map_append, ← e]
    show _ ++ [bs (s.extract j s.size)] = _
    rw [bs_extract s j s.size (by omega)]
theorem WS.done {s : ByteArray} {L : List ByteArray} (h : WS s L s.size none) : L.length ≤ s.size ∧ (∀ x ∈ L, x.size ≤ 8388608) ∧ L.map bs = wordsL (bs s) := by
  refine ⟨h.1, h.2.1, ?_⟩
  have e := h.2.2
  rw [show (bs s).drop s.size = [] from List.drop_eq_nil_of_le (by rw [bs_len]; omega)] at e
  simpa [wsp] using e
/-- the words of a text lie in a row -/
def WRow (w V : World) (s : ByteArray) (y : Value) : Prop := Below w.heap.size w V ∧ ∃ L : List ByteArray, V.ownsRow w.heap.size 9 1 y L.length (S1 L) ∧ L.length ≤ s.size ∧ (∀ x ∈ L, x.size ≤ 8388608) ∧ L.map bs = wordsL (bs s)
set_option maxRecDepth 100000 in
set_option maxHeartbeats 8000000 in
theorem words26 (s : ByteArray) (w : World) (hs : s.size ≤ 8388608) : Calls Tryd.prog 26 #[.string s] w fun e w' => ∃ y, e = .returned y ∧ WRow w w' s y := by
  go_enter Tryd.func26, Tryd.ntmps26
  go_wp2_with fail
  go_loopw [3, 4, 5] (fun y z t wq => ∃ (L : List ByteArray) (i : Nat) (st : Option Nat), z = .int .i64 (match st with | none => -1 | some j => (j : Int)) ∧ t = .int .i64 (i : Int) ∧ i ≤ s.size ∧ Hid (Below w.heap.size w wq) ∧ Hid (wq.ownsRow w.heap.size 9 1 y L.length (S1 L)) ∧ Hid (WS s L i st)) (fun _ _ t _ => s.size - (intOf t).toNat)
  case atStart => exact ⟨[], 0, none, rfl, rfl, by omega, Below.refl _ _, World.ownsRow_nil _ _ _ _, WS.start s⟩
  case round =>
    obtain ⟨L, i, st, rfl, rfl, hi, HB, HO, HW⟩ := hrel
    have hLi := HW.out.1
    have hbw : w.heap.size ≤ wr.heap.size := HB.out.size
    by_cases hil : i < s.size
    · have e1 : decide ((i : Int) < (s.size : Int)) = true := by simp; omega
      have e2 : (i : Int) < (s.size : Int) := by omega
      have ad1 : IntKind.i64.wrap ((i : Int) + 1) = (i : Int) + 1 := by simp [IntKind.wrap, IntKind.bits, IntKind.signed]; omega
      cases st with
      | none =>
        rcases blank_cases s[i].toNat with ⟨hb, hx⟩ | ⟨hb, n1, n2, n3, n4⟩
        · have HN := hid (HW.out.blank hil hb)
          clear hb
          rcases hx with hx | hx | hx | hx
          all_goals
            go_wp2
            exact ⟨⟨L, i + 1, none, rfl, by push_cast; rfl, by omega, HB.out, HO.out, HN.out⟩, by simp [intOf]; omega⟩
        · have HN := hid (HW.out.begin hil hb)
          have m1 : ((s[i].toNat : Int) == 32) = false := by simp only [beq_eq_false_iff_ne]; exact n1
          have m2 : ((s[i].toNat : Int) == 9) = false := by simp only [beq_eq_false_iff_ne]; exact n2
          have m3 : ((s[i].toNat : Int) == 10) = false := by simp only [beq_eq_false_iff_ne]; exact n3
          have m4 : ((s[i].toNat : Int) == 13) = false := by simp only [beq_eq_false_iff_ne]; exact n4
          clear hb
          go_wp2
          exact ⟨⟨L, i + 1, some i, rfl, by push_cast; rfl, by omega, HB.out, HO.out, HN.out⟩, by simp [intOf]; omega⟩
      | some j =>
        obtain ⟨_, _, hj, hLj, _⟩ := HW.out
        have j1 : decide ((j : Int) ≥ 0) = true := by simp
        have j2 : (0 : Int) ≤ (j : Int) := by omega
        have j3 : decide ((j : Int) < 0) = false := by simp
        have j4 : ¬ (j : Int) < 0 := by omega
        have j5 : (j : Int) ≤ (i : Int) := by omega
        have j6 : (i : Int) ≤ (s.size : Int) := by omega
        rcases blank_cases s[i].toNat with ⟨hb, hx⟩ | ⟨hb, n1, n2, n3, n4⟩
        · have HN := hid (HW.out.cut hil hs hb)
          clear hb
          rcases hx with hx | hx | hx | hx
          all_goals
            go_wp2_with (at_builtin; refine wpList_append_one rfl (.tmp 40) (.tmp 45) 53 rfl w.heap.size 9 (.string ⟨#[]⟩) 16 Tryd.underlying53 info9 rfl _ (.string (s.extract j i)) L.length 1 (S1 L) rfl HO.out _ rfl rfl rfl (by unfold maxLen; omega) (by omega) hbw ?_; intro v' w4 ho4 hm4; have HB4 := hid (below_gb HB.out hbw HO.out (GB.of_moved hm4.out)); have HO4 := hid ho4.out; clear ho4 hm4)
            exact ⟨⟨L ++ [s.extract j i], i + 1, none, rfl, by push_cast; rfl, by omega, HB4.out, by rw [List.length_append, S1_snoc]; exact HO4.out, HN.out⟩, by simp [intOf]; omega⟩
        · have HN := hid (HW.out.more hil hb)
          have m1 : ((s[i].toNat : Int) == 32) = false := by simp only [beq_eq_false_iff_ne]; exact n1
          have m2 : ((s[i].toNat : Int) == 9) = false := by simp only [beq_eq_false_iff_ne]; exact n2
          have m3 : ((s[i].toNat : Int) == 10) = false := by simp only [beq_eq_false_iff_ne]; exact n3
          have m4 : ((s[i].toNat : Int) == 13) = false := by simp only [beq_eq_false_iff_ne]; exact n4
          clear hb
          go_wp2
          exact ⟨⟨L, i + 1, some j, rfl, by push_cast; rfl, by omega, HB.out, HO.out, HN.out⟩, by simp [intOf]; omega⟩
    · have e1 : decide ((i : Int) < (s.size : Int)) = false := by simp; omega
      have e2 : ¬ (i : Int) < (s.size : Int) := by omega
      obtain rfl : i = s.size := by omega
      cases st with
      | none =>
        have HN := hid HW.out.done
        go_wp2
        all_goals go_ret
        all_goals exact ⟨_, rfl, HB.out, L, HO.out, HN.out⟩
      | some j =>
        obtain ⟨_, _, hj, hLj, _⟩ := HW.out
        have j1 : decide ((j : Int) ≥ 0) = true := by simp
        have j2 : (0 : Int) ≤ (j : Int) := by omega
        have j5 : (j : Int) ≤ (s.size : Int) := by omega
        have HN := hid (HW.out.last hs)
        go_wp2_with (at_builtin; refine wpList_append_one rfl (.tmp 56) (.tmp 60) 53 rfl w.heap.size 9 (.string ⟨#[]⟩) 16 Tryd.underlying53 info9 rfl _ (.string (s.extract j s.size)) L.length 1 (S1 L) rfl HO.out _ rfl rfl rfl (by unfold maxLen; omega) (by omega) hbw ?_; intro v' w4 ho4 hm4; have HB4 := hid (below_gb HB.out hbw HO.out (GB.of_moved hm4.out)); have HO4 := hid ho4.out; clear ho4 hm4)
        all_goals go_ret
        all_goals exact ⟨_, rfl, HB4.out, L ++ [s.extract j s.size], by rw [List.length_append, S1_snoc]; exact HO4.out, HN.out⟩
end Go.Proofs.YteanndophopplaaDoor
namespace Go.Proofs.YteanndophopplaaDoor
open Go.ChangeShapes Go.WideShapes Go.ChangeAt Go.RowKit
set_option linter.unusedVariables false
set_option linter.unusedSimpArgs false
def wS : Nat → ByteArray
  | 0 => ⟨#[]⟩
  | 1 => ⟨#[114, 117, 110, 101]⟩
  | 2 => ⟨#[97, 108, 116]⟩
  | 3 => ⟨#[99, 97, 112]⟩
  | 4 => ⟨#[97, 115, 115, 101, 114, 116]⟩
  | 5 => ⟨#[109, 97, 116, 99, 104]⟩
  | 6 => ⟨#[102, 97, 105, 108]⟩
  | _ => ⟨#[110, 111, 112]⟩
theorem wS_bs (i : Nat) (h1 : 1 ≤ i) (h7 : i ≤ 7) : bs (wS i) = opW i := by
  obtain rfl | rfl | rfl | rfl | rfl | rfl | rfl : i = 1 ∨ i = 2 ∨ i = 3 ∨ i = 4 ∨ i = 5 ∨ i = 6 ∨ i = 7 := by omega
  all_goals rfl
/-- code.words lies where its variable does -/
def G8 (w : World) : Prop := ∀ i, i < 8 → w.cell? ⟨0, i, none⟩ = some (.string (wS i))
theorem G8.gw {w : World} (h : G8 w) : Gw w := h 5 (by omega)
theorem G8.kept {w w' : World} {B : Nat} (h : G8 w) (hb : Below B w w') (h0 : 0 < B) : G8 w' := fun i hi => (hb.cell (p := ⟨0, i, none⟩) h0).trans (h i hi)
set_option maxRecDepth 100000 in
theorem words_all {H : Type} {enc : TypeId × Value → H} {w : World} {base fuel : Nat} {sp : Nat → Bool} {held : Bool} {cs : List Value} {p : List MemPlace}
    (h : DataW.trod enc Tryd.prog w base sp held fuel 92 cs = some (Rows.laid_heron_code_words, p)) : ∀ i, i < 8 → cs[i]? = some (.string (wS i)) := by
  obtain ⟨xs, m, _, hx, hl, hxl, he⟩ := DataW.trod_array Tryd.underlying92 h
  rw [cellsA92] at hl
  simp only [cellsA9] at he
  match xs, hxl with
  | [x0, x1, x2, x3, x4, x5, x6, x7], _ =>
    simp only [Rows.laid_heron_code_words, Prod.mk.injEq, DataW.agg.injEq, List.map_cons, List.map_nil, List.cons.injEq, and_true] at hx
    obtain ⟨⟨e0, e1, e2, e3, e4, e5, e6, e7⟩, _⟩ := hx
    match cs, hl with
    | [c0, c1, c2, c3, c4, c5, c6, c7], _ =>
      have str : ∀ (c : Value) (x : DataW H × List MemPlace) (S : ByteArray), DataW.trod enc Tryd.prog w base sp held m 9 [c] = some x → x.1 = .lit (.string S.data.toList) → c = .string S := by
        intro c x S hk hxS
        obtain ⟨s, e, hs, _⟩ := DataW.trod_string Tryd.underlying9 hk
        rw [hs] at hxS
        simp only [List.cons.injEq, and_true] at e
        simp at hxS
        have e6 : s = S := by
          cases s with
          | mk a => cases S with
            | mk b => first | (congr 1; exact Array.toList_inj.1 (by simpa using hxS)) | (simp at hxS; rw [hxS])
        rw [e, e6]
      have k0 := he 0 (by decide)
      simp at k0
      have r0 := str c0 x0 (wS 0) k0 e0.symm
      have k1 := he 1 (by decide)
      simp at k1
      have r1 := str c1 x1 (wS 1) k1 e1.symm
      have k2 := he 2 (by decide)
      simp at k2
      have r2 := str c2 x2 (wS 2) k2 e2.symm
      have k3 := he 3 (by decide)
      simp at k3
      have r3 := str c3 x3 (wS 3) k3 e3.symm
      have k4 := he 4 (by decide)
      simp at k4
      have r4 := str c4 x4 (wS 4) k4 e4.symm
      have k5 := he 5 (by decide)
      simp at k5
      have r5 := str c5 x5 (wS 5) k5 e5.symm
      have k6 := he 6 (by decide)
      simp at k6
      have r6 := str c6 x6 (wS 6) k6 e6.symm
      have k7 := he 7 (by decide)
      simp at k7
      have r7 := str c7 x7 (wS 7) k7 e7.symm
      intro i hi
      obtain rfl | rfl | rfl | rfl | rfl | rfl | rfl | rfl : i = 0 ∨ i = 1 ∨ i = 2 ∨ i = 3 ∨ i = 4 ∨ i = 5 ∨ i = 6 ∨ i = 7 := by omega
      · rw [r0]; rfl
      · rw [r1]; rfl
      · rw [r2]; rfl
      · rw [r3]; rfl
      · rw [r4]; rfl
      · rw [r5]; rfl
      · rw [r6]; rfl
      · rw [r7]; rfl
theorem g8_of_laid {W : World} (h : laidMetH Tryd.prog Rows.codeReadsRow.laid W) : G8 W ∧ 0 < W.heap.size := by
  have h' : laidMet Tryd.prog Rows.codeReadsRow.laid W := h
  obtain ⟨ps, ⟨g1, t1, cs1, fuel1, p1, q1, hg1, ht1, hvar1, hd1, hrest1, _⟩, _⟩ := h'
  obtain ⟨g2, t2, cs2, fuel2, p2, q2, hg2, ht2, hvar2, hd2, hrest2, _⟩ := hrest1
  obtain ⟨g3, t3, cs3, fuel3, p3, q3, hg3, ht3, hvar3, hd3, hrest3, _⟩ := hrest2
  obtain ⟨g4, t4, cs4, fuel4, p4, q4, hg4, ht4, hvar4, hd4, _, _⟩ := hrest3
  obtain rfl : g4 = 0 := Option.some.inj (hg4.symm.trans (by kernel_rfl))
  obtain rfl : t4 = 92 := Option.some.inj (ht4.symm.trans (by kernel_rfl))
  have hc : G8 W := fun i hi => by
    rw [World.var?_cell hg4 hvar4 i, ← Array.getElem?_toList, words_all hd4 i hi]
  exact ⟨hc, by have := lt_of_cellA (hc 0 (by omega)); exact this⟩
theorem idx92_0 (a0 a1 a2 a3 a4 a5 a6 a7 : ByteArray) (w : World) : (Instr.index 92 (.agg #[.string a0, .string a1, .string a2, .string a3, .string a4, .string a5, .string a6, .string a7]) (.int .i64 0)).run Tryd.prog w = .ok (.string a0) w := by kernel_rfl
theorem idx92_1 (a0 a1 a2 a3 a4 a5 a6 a7 : ByteArray) (w : World) : (Instr.index 92 (.agg #[.string a0, .string a1, .string a2, .string a3, .string a4, .string a5, .string a6, .string a7]) (.int .i64 1)).run Tryd.prog w = .ok (.string a1) w := by kernel_rfl
theorem idx92_2 (a0 a1 a2 a3 a4 a5 a6 a7 : ByteArray) (w : World) : (Instr.index 92 (.agg #[.string a0, .string a1, .string a2, .string a3, .string a4, .string a5, .string a6, .string a7]) (.int .i64 2)).run Tryd.prog w = .ok (.string a2) w := by kernel_rfl
theorem idx92_3 (a0 a1 a2 a3 a4 a5 a6 a7 : ByteArray) (w : World) : (Instr.index 92 (.agg #[.string a0, .string a1, .string a2, .string a3, .string a4, .string a5, .string a6, .string a7]) (.int .i64 3)).run Tryd.prog w = .ok (.string a3) w := by kernel_rfl
theorem idx92_4 (a0 a1 a2 a3 a4 a5 a6 a7 : ByteArray) (w : World) : (Instr.index 92 (.agg #[.string a0, .string a1, .string a2, .string a3, .string a4, .string a5, .string a6, .string a7]) (.int .i64 4)).run Tryd.prog w = .ok (.string a4) w := by kernel_rfl
theorem idx92_5 (a0 a1 a2 a3 a4 a5 a6 a7 : ByteArray) (w : World) : (Instr.index 92 (.agg #[.string a0, .string a1, .string a2, .string a3, .string a4, .string a5, .string a6, .string a7]) (.int .i64 5)).run Tryd.prog w = .ok (.string a5) w := by kernel_rfl
theorem idx92_6 (a0 a1 a2 a3 a4 a5 a6 a7 : ByteArray) (w : World) : (Instr.index 92 (.agg #[.string a0, .string a1, .string a2, .string a3, .string a4, .string a5, .string a6, .string a7]) (.int .i64 6)).run Tryd.prog w = .ok (.string a6) w := by kernel_rfl
theorem idx92_7 (a0 a1 a2 a3 a4 a5 a6 a7 : ByteArray) (w : World) : (Instr.index 92 (.agg #[.string a0, .string a1, .string a2, .string a3, .string a4, .string a5, .string a6, .string a7]) (.int .i64 7)).run Tryd.prog w = .ok (.string a7) w := by kernel_rfl
set_option maxRecDepth 100000 in
set_option maxHeartbeats 4000000 in
theorem opOf52 {w : World} {v : ByteArray} (hG : G8 w) (hv : bs v ≠ []) : Calls Tryd.prog 52 #[.string v] w fun e w' => e = .returned (.int .i64 ((opOfW (bs v) : Nat) : Int)) ∧ w' = w := by
  have g0 := hG 0 (by omega)
  have g1 := hG 1 (by omega)
  have g2 := hG 2 (by omega)
  have g3 := hG 3 (by omega)
  have g4 := hG 4 (by omega)
  have g5 := hG 5 (by omega)
  have g6 := hG 6 (by omega)
  have g7 := hG 7 (by omega)
  have HV := hid hv
  clear hv hG
  go_enter Tryd.func52, Tryd.ntmps52
  go_upto_region 2 with fail
  go_loopw [6] (fun y wq => ∃ i : Nat, y = .int .i64 (i : Int) ∧ i ≤ 8 ∧ wq = w ∧ Hid (∀ j, 1 ≤ j → j < i → bs v ≠ opW j)) (fun y _ => 8 - (intOf y).toNat)
  case atStart => exact ⟨0, rfl, by omega, rfl, fun j _ h => by omega⟩
  case round =>
    obtain ⟨i, rfl, hi, rfl, HJ⟩ := hrel
    clear g0 g1 g2 g3 g4 g5 g6 g7
    by_cases h8 : i = 8
    · subst h8
      have HR : Hid (opOfW (bs v) = 0) := by
        show _ = _
        unfold opOfW
        rw [if_neg (HJ.out 1 (by omega) (by omega)), if_neg (HJ.out 2 (by omega) (by omega)), if_neg (HJ.out 3 (by omega) (by omega)), if_neg (HJ.out 4 (by omega) (by omega)), if_neg (HJ.out 5 (by omega) (by omega)), if_neg (HJ.out 6 (by omega) (by omega)), if_neg (HJ.out 7 (by omega) (by omega))]
      go_wp2
      all_goals go_ret
      all_goals exact ⟨ret_int (by rw [HR.out]; rfl), rfl⟩
    · obtain rfl | rfl | rfl | rfl | rfl | rfl | rfl | rfl : i = 0 ∨ i = 1 ∨ i = 2 ∨ i = 3 ∨ i = 4 ∨ i = 5 ∨ i = 6 ∨ i = 7 := by omega
      · rw [show ((0 : Nat) : Int) = 0 from rfl]
        have ix := fun W => idx92_0 (wS 0) (wS 1) (wS 2) (wS 3) (wS 4) (wS 5) (wS 6) (wS 7) W
        cases hq : ((wS 0).toList == v.toList) with
        | true =>
          have he := (bs_eq (wS 0) v).1 hq
          exact absurd he.symm HV.out
        | false =>
          have HN : Hid (∀ j, 1 ≤ j → j < 1 → bs v ≠ opW j) := fun j h1 h2 => by
            by_cases e : j = 0
            · subst e
              omega
            · exact HJ.out j h1 (by omega)
          go_wp2
          exact ⟨⟨1, rfl, by omega, by trivial, HN.out⟩, by simp [intOf]⟩
      · rw [show ((1 : Nat) : Int) = 1 from rfl]
        have ix := fun W => idx92_1 (wS 0) (wS 1) (wS 2) (wS 3) (wS 4) (wS 5) (wS 6) (wS 7) W
        cases hq : ((wS 1).toList == v.toList) with
        | true =>
          have he := (bs_eq (wS 1) v).1 hq
          have HR : Hid (opOfW (bs v) = 1) := by show _ = _; rw [← he, wS_bs 1 (by omega) (by omega)]; exact op_opW (by omega) (by omega)
          clear he
          go_wp2
          all_goals go_ret
          all_goals exact ⟨ret_int (by rw [HR.out]; rfl), rfl⟩
        | false =>
          have HN : Hid (∀ j, 1 ≤ j → j < 2 → bs v ≠ opW j) := fun j h1 h2 => by
            by_cases e : j = 1
            · subst e
              intro e2; rw [← wS_bs 1 (by omega) (by omega)] at e2; rw [(bs_eq (wS 1) v).2 e2.symm] at hq; cases hq
            · exact HJ.out j h1 (by omega)
          go_wp2
          exact ⟨⟨2, rfl, by omega, by trivial, HN.out⟩, by simp [intOf]⟩
      · rw [show ((2 : Nat) : Int) = 2 from rfl]
        have ix := fun W => idx92_2 (wS 0) (wS 1) (wS 2) (wS 3) (wS 4) (wS 5) (wS 6) (wS 7) W
        cases hq : ((wS 2).toList == v.toList) with
        | true =>
          have he := (bs_eq (wS 2) v).1 hq
          have HR : Hid (opOfW (bs v) = 2) := by show _ = _; rw [← he, wS_bs 2 (by omega) (by omega)]; exact op_opW (by omega) (by omega)
          clear he
          go_wp2
          all_goals go_ret
          all_goals exact ⟨ret_int (by rw [HR.out]; rfl), rfl⟩
        | false =>
          have HN : Hid (∀ j, 1 ≤ j → j < 3 → bs v ≠ opW j) := fun j h1 h2 => by
            by_cases e : j = 2
            · subst e
              intro e2; rw [← wS_bs 2 (by omega) (by omega)] at e2; rw [(bs_eq (wS 2) v).2 e2.symm] at hq; cases hq
            · exact HJ.out j h1 (by omega)
          go_wp2
          exact ⟨⟨3, rfl, by omega, by trivial, HN.out⟩, by simp [intOf]⟩
      · rw [show ((3 : Nat) : Int) = 3 from rfl]
        have ix := fun W => idx92_3 (wS 0) (wS 1) (wS 2) (wS 3) (wS 4) (wS 5) (wS 6) (wS 7) W
        cases hq : ((wS 3).toList == v.toList) with
        | true =>
          have he := (bs_eq (wS 3) v).1 hq
          have HR : Hid (opOfW (bs v) = 3) := by show _ = _; rw [← he, wS_bs 3 (by omega) (by omega)]; exact op_opW (by omega) (by omega)
          clear he
          go_wp2
          all_goals go_ret
          all_goals exact ⟨ret_int (by rw [HR.out]; rfl), rfl⟩
        | false =>
          have HN : Hid (∀ j, 1 ≤ j → j < 4 → bs v ≠ opW j) := fun j h1 h2 => by
            by_cases e : j = 3
            · subst e
              intro e2; rw [← wS_bs 3 (by omega) (by omega)] at e2; rw [(bs_eq (wS 3) v).2 e2.symm] at hq; cases hq
            · exact HJ.out j h1 (by omega)
          go_wp2
          exact ⟨⟨4, rfl, by omega, by trivial, HN.out⟩, by simp [intOf]⟩
      · rw [show ((4 : Nat) : Int) = 4 from rfl]
        have ix := fun W => idx92_4 (wS 0) (wS 1) (wS 2) (wS 3) (wS 4) (wS 5) (wS 6) (wS 7) W
        cases hq : ((wS 4).toList == v.toList) with
        | true =>
          have he := (bs_eq (wS 4) v).1 hq
          have HR : Hid (opOfW (bs v) = 4) := by show _ = _; rw [← he, wS_bs 4 (by omega) (by omega)]; exact op_opW (by omega) (by omega)
          clear he
          go_wp2
          all_goals go_ret
          all_goals exact ⟨ret_int (by rw [HR.out]; rfl), rfl⟩
        | false =>
          have HN : Hid (∀ j, 1 ≤ j → j < 5 → bs v ≠ opW j) := fun j h1 h2 => by
            by_cases e : j = 4
            · subst e
              intro e2; rw [← wS_bs 4 (by omega) (by omega)] at e2; rw [(bs_eq (wS 4) v).2 e2.symm] at hq; cases hq
            · exact HJ.out j h1 (by omega)
          go_wp2
          exact ⟨⟨5, rfl, by omega, by trivial, HN.out⟩, by simp [intOf]⟩
      · rw [show ((5 : Nat) : Int) = 5 from rfl]
        have ix := fun W => idx92_5 (wS 0) (wS 1) (wS 2) (wS 3) (wS 4) (wS 5) (wS 6) (wS 7) W
        cases hq : ((wS 5).toList == v.toList) with
        | true =>
          have he := (bs_eq (wS 5) v).1 hq
          have HR : Hid (opOfW (bs v) = 5) := by show _ = _; rw [← he, wS_bs 5 (by omega) (by omega)]; exact op_opW (by omega) (by omega)
          clear he
          go_wp2
          all_goals go_ret
          all_goals exact ⟨ret_int (by rw [HR.out]; rfl), rfl⟩
        | false =>
          have HN : Hid (∀ j, 1 ≤ j → j < 6 → bs v ≠ opW j) := fun j h1 h2 => by
            by_cases e : j = 5
            · subst e
              intro e2; rw [← wS_bs 5 (by omega) (by omega)] at e2; rw [(bs_eq (wS 5) v).2 e2.symm] at hq; cases hq
            · exact HJ.out j h1 (by omega)
          go_wp2
          exact ⟨⟨6, rfl, by omega, by trivial, HN.out⟩, by simp [intOf]⟩
      · rw [show ((6 : Nat) : Int) = 6 from rfl]
        have ix := fun W => idx92_6 (wS 0) (wS 1) (wS 2) (wS 3) (wS 4) (wS 5) (wS 6) (wS 7) W
        cases hq : ((wS 6).toList == v.toList) with
        | true =>
          have he := (bs_eq (wS 6) v).1 hq
          have HR : Hid (opOfW (bs v) = 6) := by show _ = _; rw [← he, wS_bs 6 (by omega) (by omega)]; exact op_opW (by omega) (by omega)
          clear he
          go_wp2
          all_goals go_ret
          all_goals exact ⟨ret_int (by rw [HR.out]; rfl), rfl⟩
        | false =>
          have HN : Hid (∀ j, 1 ≤ j → j < 7 → bs v ≠ opW j) := fun j h1 h2 => by
            by_cases e : j = 6
            · subst e
              intro e2; rw [← wS_bs 6 (by omega) (by omega)] at e2; rw [(bs_eq (wS 6) v).2 e2.symm] at hq; cases hq
            · exact HJ.out j h1 (by omega)
          go_wp2
          exact ⟨⟨7, rfl, by omega, by trivial, HN.out⟩, by simp [intOf]⟩
      · rw [show ((7 : Nat) : Int) = 7 from rfl]
        have ix := fun W => idx92_7 (wS 0) (wS 1) (wS 2) (wS 3) (wS 4) (wS 5) (wS 6) (wS 7) W
        cases hq : ((wS 7).toList == v.toList) with
        | true =>
          have he := (bs_eq (wS 7) v).1 hq
          have HR : Hid (opOfW (bs v) = 7) := by show _ = _; rw [← he, wS_bs 7 (by omega) (by omega)]; exact op_opW (by omega) (by omega)
          clear he
          go_wp2
          all_goals go_ret
          all_goals exact ⟨ret_int (by rw [HR.out]; rfl), rfl⟩
        | false =>
          have HN : Hid (∀ j, 1 ≤ j → j < 8 → bs v ≠ opW j) := fun j h1 h2 => by
            by_cases e : j = 7
            · subst e
              intro e2; rw [← wS_bs 7 (by omega) (by omega)] at e2; rw [(bs_eq (wS 7) v).2 e2.symm] at hq; cases hq
            · exact HJ.out j h1 (by omega)
          go_wp2
          exact ⟨⟨8, rfl, by omega, by trivial, HN.out⟩, by simp [intOf]⟩
end Go.Proofs.YteanndophopplaaDoor
