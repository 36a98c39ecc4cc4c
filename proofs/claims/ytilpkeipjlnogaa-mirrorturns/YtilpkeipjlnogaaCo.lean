/- HELPERS: a tree copied; the document's mirror. -/
import Derived.Test.YtilpkeipjlnogaaLe
import Derived.Test.YtilpkeipjlnogaaFf
namespace Go.Proofs.Ytilpkeipjlnogaa
open Go.RowKit Go.Lk
set_option linter.unusedVariables false
set_option linter.unusedSimpArgs false
theorem TP.build {w : World} {A : Nat → Prop} {N : Nv} {R : List (Int × Int)} {ts : List Tn} {MS : List Nv} {b1 b2 : Nat} (ok : N.ok) (hRk : ∀ x ∈ R, I64ok x.1 ∧ I64ok x.2) (rr : w.ownsRow b1 53 2 (.slice N.r1 N.r2 N.r3) R.length (O2 R)) (hA1 : ∀ b, N.rb = some b → A b)
    (sr : w.ownsRow b2 25 9 (.slice N.s1 N.s2 N.s3) ts.length (MS.flatMap Nv.cs)) (hl : MS.length = ts.length) (hA2 : ∀ b, N.sb = some b → A b) (hk : ∀ i (hi : i < ts.length), TP w A (MS.getD i default) ts[i]) : TP w A N (.mk N.k R N.a2 ts N.a4 N.a5 N.a6 N.a7 N.a8) := by
  refine .mk (ND := fun i => MS.getD i default) ok (row_len rr) (fun hn => ?_) hRk (row_len sr) (fun hp => ?_) hk
  · rcases rr.2 with ⟨e, h0⟩ | ⟨b, cap, cur, e, _⟩
    · exact absurd (List.length_eq_zero_iff.1 h0) hn
    · have hrow := rr
      rw [e] at hrow
      have e' := e
      simp only [Value.slice.injEq] at e
      refine ⟨b, 0, e.1, hA1 b (by show (Value.slice N.r1 N.r2 N.r3).ownBlock = some b; rw [e']; rfl), fun i hi => ?_⟩
      have := O2_at R i hi
      rw [Nat.zero_add, hrow.cellAt (i * 2) (by omega), hrow.cellAt (i * 2 + 1) (by omega)]
      exact this
  · obtain ⟨b, e1, e2, h9⟩ := row_nine sr hl.symm hp
    refine ⟨b, 0, e1, hA2 b e2, fun i hi => ?_⟩
    have := h9 i (by omega)
    simp only [List.getD_eq_getElem?_getD, List.getElem?_eq_getElem (show i < MS.length by omega), Option.getD_some]
    exact this
theorem getD_snoc (MS : List Nv) (M : Nv) (j i : Nat) (hl : MS.length = i) (hj : j < i + 1) : (MS ++ [M]).getD j default = if j = i then M else MS.getD j default := by
  by_cases e : j = i
  · subst e; subst hl; simp [List.getD_eq_getElem?_getD]
  · rw [if_neg e, List.getD_eq_getElem?_getD, List.getElem?_append_left (by omega), List.getD_eq_getElem?_getD]
set_option maxRecDepth 100000 in
set_option maxHeartbeats 8000000 in
theorem copy16 {w0 : World} {B : Nat} {N : Nv} {t : Tn} (h : TI w0 B N t) : t.nodes ≤ 200000 → t.small = true → ∀ (w : World), B ≤ w.heap.size → (∀ b, b < B → w.heap[b]? = w0.heap[b]?) →
    Calls Try.prog 16 #[N.v] w fun e w' => ∃ M, e = .returned (Nv.v M) ∧ TP w' (fun b => w.heap.size ≤ b ∧ b < w'.heap.size) M t ∧ Below w.heap.size w w' := by
  induction h with
  | @mk N R ts ND ok hr hR hRk hs hS hk ih =>
  intro hno hsm w hB hw
  simp only [Tn.small, Bool.and_eq_true, decide_eq_true_eq] at hsm
  simp only [Tn.nodes] at hno
  have hR5 := hsm.1
  have IH : ∀ i (hi : i < ts.length) (w : World), B ≤ w.heap.size → (∀ b, b < B → w.heap[b]? = w0.heap[b]?) → Calls Try.prog 16 #[(ND i).v] w fun e w' => ∃ M, e = .returned (Nv.v M) ∧ TP w' (fun b => w.heap.size ≤ b ∧ b < w'.heap.size) M ts[i] ∧ Below w.heap.size w w' := fun i hi => ih i hi (by have := nodes_get ts i hi; omega) (smallL_get hsm.2 i hi)
  have hlen : ts.length ≤ 200000 := by have := nodes_ge ts; omega
  have HRL : Hid (N.r2 = R.length) := hr
  have hr2 : N.r2 * 16 ≤ 140737488351232 := by omega
  have HRW : Hid (∀ w1 : World, (∀ b, b < B → w1.heap[b]? = w0.heap[b]?) → R2 w1 B N.r1 R) := fun w1 h1 => hR.kept h1
  have HOK := hid ok
  obtain ⟨k, r1, r2, r3, a2, s1, s2, s3, a4, a5, a6, a7, a8⟩ := N
  dsimp only at hs hS HRL HRW hr2
  have hm2 : s2 ≤ 200000 := by omega
  have HW := hid hw
  have HS := hid hS
  have HIH := hid IH
  have HL := hid hs
  obtain ⟨i5, hi5, hz50, hz51, hz52⟩ := info_parts info53
  obtain ⟨i2, hi2, hz20, hz21, hz22⟩ := info_parts info25
  clear ok hr hR hk hS hw ih hs IH hno hlen hR5 hsm
  have HSRC : Hid (∀ V : World, (∀ b, b < B → V.heap[b]? = w0.heap[b]?) → 0 < r2 → ∃ b f, r1 = some ⟨b, f, none⟩ ∧ ∀ j u, (O2 R)[j]? = some u → V.cell? ⟨b, f + j, none⟩ = some u) := fun V hV hp => (HRW.out V hV).src (by have := HRL.out; omega)
  have HO2 : Hid ((O2 R).length = r2 * 2) := (O2_len R).trans (by rw [HRL.out])
  go_enter Try.func16, Try.ntmps16
  go_upto_region 2 with fail
  obtain ⟨W, hW⟩ : ∃ W, W = (w.alloc (.cells #[.int .i64 k, .slice r1 r2 r3, .int .i64 a2, .slice s1 s2 s3, .int .i64 a4, .int .i64 a5, .bool a6, .int .i64 a7, .string a8] 25)).alloc (.cells #[.int .i64 0, .slice none 0 0, .int .i64 0, .slice none 0 0, .int .i64 0, .int .i64 0, .bool false, .int .i64 0, .string ⟨#[]⟩] 25) := ⟨_, rfl⟩
  rw [← hW]
  have hX : BxN W w.heap.size ⟨k, r1, r2, r3, a2, s1, s2, s3, a4, a5, a6, a7, a8⟩ := by rw [hW]; exact (heap_alloc_old _ _ (by simp)).trans (heap_alloc_new w _)
  have hY : BxZ W (w.heap.size + 1) := by rw [hW]; exact two_new w _ _ _
  have hb : Below w.heap.size w W := by rw [hW]; exact below_two' w _ _
  have hsW : W.heap.size = w.heap.size + 2 := by rw [hW]; simp
  obtain ⟨x, hx⟩ : ∃ x, x = w.heap.size := ⟨_, rfl⟩
  rw [← hx] at hX hY hb hsW ⊢
  have HX := hid hX
  have HY := hid hY
  have HB := hid hb
  have HSW := hid hsW
  have HXE := hid hx
  have hxl : x < W.heap.size := by omega
  have hwkW : ∀ b, b < B → W.heap[b]? = w0.heap[b]? := fun b hb' => (hb.block b (by omega)).trans (HW.out b hb')
  have HWK := hid hwkW
  have HSR := hid (HSRC.out W hwkW)
  obtain ⟨q0, q1, q2, q3, q4, q5, q6, q7, q8⟩ := nine' hX
  clear hX hY hb hsW hx hW hwkW HSRC
  go_upto_region 3 with (at_builtin; refine wpList_append_nil rfl (.tmp 7) (.tmp 9) 22 rfl 53 i5 (.agg #[.int .i64 0, .int .i64 0]) 2 16 Try.underlying22 hi5 hz50 hz51 hz52 rfl (by decide) rfl r1 r2 r3 (O2 R) rfl HO2.out HSR.out (O2_one R) (by unfold maxLen; omega) (by omega) ?_; intro v4 wc ho4 hb4 hl4; obtain ⟨c1, c3, rfl, hc3⟩ := row_shape ho4.out; have HC3 := hid hc3; clear hc3)
  have HRR : Hid (wc.ownsRow W.heap.size 53 2 (.slice c1 r2 c3) r2 (O2 R)) := ho4.out
  have HBW : Hid (Below W.heap.size W wc) := hb4.out
  clear ho4 hb4 hl4 HSR HO2 q0 q1 q2 q3 q4 q5 q6 q7 q8
  have hwl : W.heap.size ≤ wc.heap.size := HBW.out.size
  go_wp2_with fail
  go_loopw [4, 5] (fun u y wq => ∃ (i : Nat) (z1 : Option Addr) (z3 : Nat), u = .slice z1 i z3 ∧ y = .int .i64 (i : Int) ∧ i ≤ s2 ∧ Hid (∃ MS : List Nv, MS.length = i ∧ wq.ownsRow W.heap.size 25 9 (.slice z1 i z3) i (MS.flatMap Nv.cs) ∧ ∀ j, j < i → TP wq (fun b => W.heap.size ≤ b ∧ b < wq.heap.size ∧ (Value.slice z1 i z3).ownBlock ≠ some b) (MS.getD j default) (ts.getD j default)) ∧ Hid (∀ b, (Value.slice z1 i z3).ownBlock = some b → (Value.slice c1 r2 c3).ownBlock ≠ some b) ∧ Hid (wq.ownsRow W.heap.size 53 2 (.slice c1 r2 c3) r2 (O2 R)) ∧ Hid (Below W.heap.size W wq)) (fun _ y _ => s2 - (intOf y).toNat)
  case atStart => exact ⟨0, none, 0, rfl, rfl, by omega, ⟨[], rfl, World.ownsRow_nil _ _ _ _, fun j hj => by omega⟩, (fun b hb => by cases hb), HRR.out, HBW.out⟩
  case round =>
    obtain ⟨i, z1, z3, rfl, rfl, hi, HST, HUR, HRq, HBq⟩ := hrel
    have hXq : BxN wr x ⟨k, r1, r2, r3, a2, s1, s2, s3, a4, a5, a6, a7, a8⟩ := (HBq.out.block x hxl).trans HX.out
    obtain ⟨q0, q1, q2, q3, q4, q5, q6, q7, q8⟩ := nine' hXq
    have hwl' : W.heap.size ≤ wr.heap.size := by have := HBq.out.size; omega
    have hxr : x < wr.heap.size := by omega
    by_cases hil : i < s2
    · have b1 : decide ((i : Int) < (s2 : Int)) = true := by simp; omega
      have b2 : (i : Int) < (s2 : Int) := by omega
      have ad1 : IntKind.i64.wrap ((i : Int) + 1) = (i : Int) + 1 := by simp [IntKind.wrap, IntKind.bits, IntKind.signed]; omega
      have hlt : i < ts.length := by rw [← HL.out]; exact hil
      obtain ⟨b, o, hs1, hb, hc⟩ := HS.out (by omega)
      subst hs1
      have hwk : ∀ b, b < B → wr.heap[b]? = w0.heap[b]? := fun b hb => (HBq.out.block b (by have := HSW.out; have := HXE.out; omega)).trans (HWK.out b hb)
      obtain ⟨n0, n1, n2, n3, n4, n5, n6, n7, n8⟩ := (hc i hlt).kept (hwk b hb)
      have HC := HIH.out i hlt wr (by have := HSW.out; have := HXE.out; omega) hwk
      obtain ⟨P, hP⟩ : ∃ P, P = ND i := ⟨_, rfl⟩
      rw [← hP] at HC n0 n1 n2 n3 n4 n5 n6 n7 n8
      obtain ⟨MS, hS0, hS1, hS2⟩ := HST.out
      have HS0 := hid hS0
      have HS1 := hid hS1
      have HS2 := hid hS2
      clear hc hP hwk hXq HST hS0 hS1 hS2
      go_wp2_with (first | (go_at_call 16; (with_reducible refine HC.mono ?_); rintro e w2 ⟨M, rfl, hM, hb2⟩; have HM := hid hM; have HB2 := hid hb2; have hz2 : wr.heap.size ≤ w2.heap.size := hb2.size; have HO1 : Hid (((w2.alloc (.cells #[.int .i64 M.k, .slice M.r1 M.r2 M.r3, .int .i64 M.a2, .slice M.s1 M.s2 M.s3, .int .i64 M.a4, .int .i64 M.a5, .bool M.a6, .int .i64 M.a7, .string M.a8] 25)).alloc (.cells #[.int .i64 M.k, .slice M.r1 M.r2 M.r3, .int .i64 M.a2, .slice M.s1 M.s2 M.s3, .int .i64 M.a4, .int .i64 M.a5, .bool M.a6, .int .i64 M.a7, .string M.a8] 25)).ownsRow W.heap.size 25 9 (.slice z1 i z3) i (MS.flatMap Nv.cs)) := ((row_kept HS1.out (fun b hb => hb2.block b (HS1.out.lt b hb).2)).alloc _).alloc _; have HLt : Hid (((w2.alloc (.cells #[.int .i64 M.k, .slice M.r1 M.r2 M.r3, .int .i64 M.a2, .slice M.s1 M.s2 M.s3, .int .i64 M.a4, .int .i64 M.a5, .bool M.a6, .int .i64 M.a7, .string M.a8] 25)).alloc (.cells #[.int .i64 M.k, .slice M.r1 M.r2 M.r3, .int .i64 M.a2, .slice M.s1 M.s2 M.s3, .int .i64 M.a4, .int .i64 M.a5, .bool M.a6, .int .i64 M.a7, .string M.a8] 25)).ownsRow 0 25 9 (.slice (some ⟨w2.heap.size + 1, 0, none⟩) 1 1) 1 (Nv.cs M)) := (by have := World.ownsRow_lit (base := 0) (e := 25) (size := 9) (w2.alloc (.cells #[.int .i64 M.k, .slice M.r1 M.r2 M.r3, .int .i64 M.a2, .slice M.s1 M.s2 M.s3, .int .i64 M.a4, .int .i64 M.a5, .bool M.a6, .int .i64 M.a7, .string M.a8] 25)) #[.int .i64 M.k, .slice M.r1 M.r2 M.r3, .int .i64 M.a2, .slice M.s1 M.s2 M.s3, .int .i64 M.a4, .int .i64 M.a5, .bool M.a6, .int .i64 M.a7, .string M.a8] 1 (by omega) (by unfold maxLen; omega) rfl; have e : (w2.alloc (.cells #[.int .i64 M.k, .slice M.r1 M.r2 M.r3, .int .i64 M.a2, .slice M.s1 M.s2 M.s3, .int .i64 M.a4, .int .i64 M.a5, .bool M.a6, .int .i64 M.a7, .string M.a8] 25)).heap.size = w2.heap.size + 1 := (by simp); rw [e] at this; exact this); clear hM hb2 HC) | (at_builtin; refine wpList_append_row rfl (.tmp 24) (.tmp 26) 23 rfl W.heap.size 25 i2 Z9 9 112 Try.underlying23 hi2 hz20 hz21 hz22 rfl (by decide) (.slice z1 i z3) i (MS.flatMap Nv.cs) rfl HO1.out (.slice (some ⟨w2.heap.size + 1, 0, none⟩) 1 1) 1 0 (Nv.cs M) rfl HLt.out (by omega) (one9 M) (by unfold maxLen; omega) (by omega) (by (try simp) <;> omega) ?_; intro v3 w3 ho3 hf3 _; obtain ⟨y1, y3, rfl, _⟩ := row_shape ho3.out))
      have hz3 : w2.heap.size + 2 ≤ w3.heap.size := by have := hf3.out.size; simpa using this
      have hk3 : ∀ b, b < w2.heap.size → (Value.slice z1 i z3).ownBlock ≠ some b → w3.heap[b]? = w2.heap[b]? := fun b hb hn => (hf3.out.block b (by (try simp) <;> omega) hn).trans ((heap_alloc_old _ _ (by (try simp) <;> omega)).trans (heap_alloc_old _ _ hb))
      have hkr : ∀ b, b < wr.heap.size → (Value.slice z1 i z3).ownBlock ≠ some b → w3.heap[b]? = wr.heap[b]? := fun b hb hn => (hk3 b (by omega) hn).trans (HB2.out.block b hb)
      have hown3 : ∀ b, (Value.slice y1 (i + 1) y3).ownBlock = some b → (Value.slice z1 i z3).ownBlock = some b ∨ w2.heap.size ≤ b := fun b hb => by
        rcases hf3.out.own b hb with h | h
        · exact .inl h
        · right; simp at h; omega
      refine ⟨⟨i + 1, y1, y3, rfl, by push_cast; rfl, by omega, ⟨MS ++ [M], by simp [HS0.out], ?_, fun j hj => ?_⟩, fun b hb h => ?_, row_kept HRq.out (fun b hb => hkr b (HRq.out.lt b hb).2 (fun h => HUR.out b h hb)), ⟨hf3.out.os.trans (HB2.out.os.trans HBq.out.os), hf3.out.tape.trans (HB2.out.tape.trans HBq.out.tape), hf3.out.output.trans (HB2.out.output.trans HBq.out.output), by have := HBq.out.size; omega, fun b hb => (hkr b (by omega) (fun h => by have := (HS1.out.lt b h).1; omega)).trans (HBq.out.block b hb)⟩⟩, by simp [intOf]; omega⟩
      · rw [List.flatMap_append]
        simpa using ho3.out
      · rw [getD_snoc MS M j i HS0.out hj]
        by_cases e : j = i
        · subst e
          rw [if_pos rfl]
          rw [getD_lt hlt]
          refine HM.out.kept (fun b hb => hk3 b hb.2 (fun h => by have := (HS1.out.lt b h).2; have := hb.1; omega)) (fun b hb => ⟨by have := hb.1; omega, by have := hb.2; omega, fun h => ?_⟩)
          rcases hown3 b h with h3 | h3
          · have := (HS1.out.lt b h3).2; have := hb.1; omega
          · have := hb.2; omega
        · rw [if_neg e]
          refine (HS2.out j (by omega)).kept (fun b hb => hkr b hb.2.1 hb.2.2) (fun b hb => ⟨hb.1, by have := hb.2.1; omega, fun h => ?_⟩)
          rcases hown3 b h with h3 | h3
          · exact hb.2.2 h3
          · have := hb.2.1; omega
      · rcases hown3 b hb with h3 | h3
        · exact HUR.out b h3 h
        · have := (HRq.out.lt b h).2; omega
    · have b1 : decide ((i : Int) < (s2 : Int)) = false := by simp; omega
      obtain rfl : i = s2 := by omega
      obtain ⟨MS, hS0, hS1, hS2⟩ := HST.out
      have HS0 := hid hS0
      have HS1 := hid hS1
      have HS2 := hid hS2
      have hYq : BxZ wr (x + 1) := (HBq.out.block (x + 1) (by have := HSW.out; omega)).trans HY.out
      have f1 := Joins.unfrozen_of_block hXq 1
      have f3 := Joins.unfrozen_of_block hXq 3
      obtain ⟨y0, yy1, y2, yy3, y4, y5, y6, y7, y8⟩ := nine' hYq
      have g0 := Joins.unfrozen_of_block hYq 0
      have g1 := Joins.unfrozen_of_block hYq 1
      have g2 := Joins.unfrozen_of_block hYq 2
      have g3 := Joins.unfrozen_of_block hYq 3
      have g4 := Joins.unfrozen_of_block hYq 4
      have g5 := Joins.unfrozen_of_block hYq 5
      have g6 := Joins.unfrozen_of_block hYq 6
      have g7 := Joins.unfrozen_of_block hYq 7
      have g8 := Joins.unfrozen_of_block hYq 8
      have HYq := hid hYq
      clear hXq hYq HST hS0 hS1 hS2
      go_wp2
      obtain ⟨X, hX⟩ : ∃ X, X = (wr.setCell ⟨x, 1, none⟩ (.slice c1 r2 c3)).setCell ⟨x, 3, none⟩ (.slice z1 i z3) := ⟨_, rfl⟩
      rw [← hX]
      have hXo : ∀ b, b ≠ x → X.heap[b]? = wr.heap[b]? := fun b hb => by rw [hX]; exact (Below.heap_setCell _ _ _ _ hb).trans (Below.heap_setCell _ _ _ _ hb)
      have hXb : Below x w X := by rw [hX]; exact ((HB.out.trans (Joins.below_le HBq.out (by omega))).setCell (by exact Nat.le_refl _) _).setCell (by exact Nat.le_refl _) _
      have hXs : X.heap.size = wr.heap.size := by rw [hX]; simp [World.setCell]
      obtain ⟨y1', y2', y3', y4'⟩ := nineSet X (x + 1) (.int .i64 k) (.slice c1 r2 c3) (.int .i64 a2) (.slice z1 i z3) (.int .i64 a4) (.int .i64 a5) (.bool a6) (.int .i64 a7) (.string a8) ((hXo _ (by omega)).trans HYq.out)
      obtain ⟨Y, hY⟩ : ∃ Y, Y = (((((((((X.setCell ⟨x + 1, 0, none⟩ (.int .i64 k)).setCell ⟨x + 1, 1, none⟩ (.slice c1 r2 c3)).setCell ⟨x + 1, 2, none⟩ (.int .i64 a2)).setCell ⟨x + 1, 3, none⟩ (.slice z1 i z3)).setCell ⟨x + 1, 4, none⟩ (.int .i64 a4)).setCell ⟨x + 1, 5, none⟩ (.int .i64 a5)).setCell ⟨x + 1, 6, none⟩ (.bool a6)).setCell ⟨x + 1, 7, none⟩ (.int .i64 a7)).setCell ⟨x + 1, 8, none⟩ (.string a8)) := ⟨_, rfl⟩
      rw [← hY] at y1' y2' y3' y4'
      have y4'' := y4' hXb (by omega)
      rw [← hY]
      refine bodyPost_ret (results_cell_row rfl _ _ (x + 1) 25 _ (0, 0) _ rfl y1' Try.underlying25 rfl (by kernel_rfl)) rfl ?_
      have hkeep : ∀ b, W.heap.size ≤ b → Y.heap[b]? = wr.heap[b]? := fun b hb => (y2' b (by have := HSW.out; omega)).trans (hXo b (by omega))
      have hYs : Y.heap.size = wr.heap.size := y3'.trans hXs
      have hRlen : r2 = R.length := HRL.out
      rw [← HXE.out]
      obtain ⟨_, z3', ez, hz31, hz32⟩ := row_shape HS1.out
      simp only [Value.slice.injEq] at ez
      obtain ⟨rfl, _, rfl⟩ := ez
      refine ⟨⟨k, c1, r2, c3, a2, z1, i, z3, a4, a5, a6, a7, a8⟩, rfl, TP.build (N := ⟨k, c1, r2, c3, a2, z1, i, z3, a4, a5, a6, a7, a8⟩) (R := R) (ts := ts) (MS := MS) (b1 := W.heap.size) (b2 := W.heap.size) ⟨HOK.out.k, HOK.out.a2, HOK.out.a4, HOK.out.a5, HOK.out.a7, HOK.out.a8, HC3.out, ⟨hz31, hz32⟩⟩ hRk (by rw [← hRlen]; exact row_kept HRq.out (fun b hb => hkeep b (HRq.out.lt b hb).1)) (fun b hb => ⟨by have := (HRq.out.lt b hb).1; omega, by rw [hYs]; exact (HRq.out.lt b hb).2⟩) (by rw [← HL.out]; exact row_kept HS1.out (fun b hb => hkeep b (HS1.out.lt b hb).1)) (by rw [HS0.out]; exact HL.out) (fun b hb => ⟨by have := (HS1.out.lt b hb).1; omega, by rw [hYs]; exact (HS1.out.lt b hb).2⟩) (fun j hj => ?_), y4''⟩
      rw [← getD_lt hj]
      exact (HS2.out j (by have := HL.out; omega)).kept (fun b hb => hkeep b hb.1) (fun b hb => ⟨by have := hb.1; omega, by rw [hYs]; exact hb.2.1⟩)
set_option maxRecDepth 100000 in
set_option maxHeartbeats 8000000 in
theorem rturned28 {w0 : World} {B : Nat} {N : Nv} {t : Tn} (h : TI w0 B N t) : t.fine = true → t.nodes ≤ 200000 → ∀ (w : World), B ≤ w.heap.size → (∀ b, b < B → w.heap[b]? = w0.heap[b]?) →
    Calls Try.prog 28 #[N.v] w fun e w' => ∃ M, e = .returned (Nv.v M) ∧ TP w' (fun b => w.heap.size ≤ b ∧ b < w'.heap.size) M t.mir ∧ Below w.heap.size w w' := by
  induction h with
  | @mk N R ts ND ok hr hR hRk hs hS hk ih =>
  intro hf hno w hB hw
  simp only [Tn.fine, Bool.and_eq_true] at hf
  simp only [Tn.nodes] at hno
  have FN := fine_node hf.1
  have hfg := fineL_get hf.2
  have hR5 : R.length * 16 ≤ 140737488351232 := by
    by_cases h2 : N.k = 2
    · have := rightB_len (FN.cls h2); omega
    · have := FN.rng h2; omega
  have IH : ∀ i (hi : i < ts.length) (w : World), B ≤ w.heap.size → (∀ b, b < B → w.heap[b]? = w0.heap[b]?) → Calls Try.prog 28 #[(ND i).v] w fun e w' => ∃ M, e = .returned (Nv.v M) ∧ TP w' (fun b => w.heap.size ≤ b ∧ b < w'.heap.size) M ts[i].mir ∧ Below w.heap.size w w' := fun i hi => ih i hi (hfg i hi) (by have := nodes_get ts i hi; omega)
  have hlen : ts.length ≤ 200000 := by have := nodes_ge ts; omega
  have HRL : Hid (N.r2 = R.length) := hr
  have hr2 : N.r2 * 16 ≤ 140737488351232 := by omega
  have HRW : Hid (∀ w1 : World, (∀ b, b < B → w1.heap[b]? = w0.heap[b]?) → R2 w1 B N.r1 R) := fun w1 h1 => hR.kept h1
  have HOK := hid ok
  obtain ⟨k, r1, r2, r3, a2, s1, s2, s3, a4, a5, a6, a7, a8⟩ := N
  dsimp only at hs hS HRL HRW hr2
  have hm2 : s2 ≤ 200000 := by omega
  have HW := hid hw
  have HS := hid hS
  have HIH := hid IH
  have HL := hid hs
  obtain ⟨i5, hi5, hz50, hz51, hz52⟩ := info_parts info53
  obtain ⟨i2, hi2, hz20, hz21, hz22⟩ := info_parts info25
  by_cases k7 : k = 7
  · subst k7
    have h1 := FN.grp rfl
    obtain ⟨t, rfl⟩ : ∃ t, ts = [t] := List.length_eq_one_iff.1 h1
    have e0 : (Tn.mk 7 R a2 [t] a4 a5 a6 a7 a8).mir = t.mir := by simp [Tn.mir, mirL]
    rw [e0]
    obtain ⟨b, o, hs1, hb, hc⟩ := HS.out (by simp)
    have hs2 : s2 = 1 := hs
    subst hs1 hs2
    obtain ⟨n0, n1, n2, n3, n4, n5, n6, n7, n8⟩ := (hc 0 (by simp)).kept (hw b hb)
    simp only [Nat.zero_mul, Nat.add_zero] at n0 n1 n2 n3 n4 n5 n6 n7 n8
    have HC := HIH.out 0 (by simp) ((w.alloc (.cells #[.int .i64 7, .slice r1 r2 r3, .int .i64 a2, .slice (some ⟨b, o, none⟩) 1 s3, .int .i64 a4, .int .i64 a5, .bool a6, .int .i64 a7, .string a8] 25)).alloc (.cells #[.int .i64 0, .slice none 0 0, .int .i64 0, .slice none 0 0, .int .i64 0, .int .i64 0, .bool false, .int .i64 0, .string ⟨#[]⟩] 25)) (by simp; omega) (fun b hb => (heap_alloc_old _ _ (by simp; omega)).trans ((heap_alloc_old w _ (by omega)).trans (hw b hb)))
    have hbl : b < w.heap.size := by omega
    have i1 : (0 : Int) < 1 := by decide
    obtain ⟨P, hP⟩ : ∃ P, P = ND 0 := ⟨_, rfl⟩
    rw [← hP] at HC n0 n1 n2 n3 n4 n5 n6 n7 n8
    clear ok hr hR hk hS hw ih hs hf FN hfg IH hno hlen hR5 hc hP HS HIH HL HRW HW HRL HOK
    go_enter Try.func28, Try.ntmps28
    go_wp2_with (first | (go_at_call 28; (with_reducible refine HC.mono ?_); rintro e w2 ⟨M, rfl, hM, hb2⟩; have hY : BxZ w2 (w.heap.size + 1) := (hb2.block (w.heap.size + 1) (by simp)).trans (two_new w _ _ _); have g0 := Joins.unfrozen_of_block hY 0; have g1 := Joins.unfrozen_of_block hY 1; have g2 := Joins.unfrozen_of_block hY 2; have g3 := Joins.unfrozen_of_block hY 3; have g4 := Joins.unfrozen_of_block hY 4; have g5 := Joins.unfrozen_of_block hY 5; have g6 := Joins.unfrozen_of_block hY 6; have g7 := Joins.unfrozen_of_block hY 7; have g8 := Joins.unfrozen_of_block hY 8; obtain ⟨q0, q1, q2, q3, q4, q5, q6, q7, q8⟩ := nine' hY; have HYY := hid hY; have HM := hid hM; have HB2 := hid hb2; clear hY hM hb2 HC))
    obtain ⟨y1, y2, y3, y4⟩ := nineSet w2 (w.heap.size + 1) (.int .i64 M.k) (.slice M.r1 M.r2 M.r3) (.int .i64 M.a2) (.slice M.s1 M.s2 M.s3) (.int .i64 M.a4) (.int .i64 M.a5) (.bool M.a6) (.int .i64 M.a7) (.string M.a8) HYY.out
    obtain ⟨Y, hY⟩ : ∃ Y, Y = ((((((((((((((((((w2).setCell ⟨w.heap.size + 1, 0, none⟩ (.int .i64 M.k))).setCell ⟨w.heap.size + 1, 1, none⟩ (.slice M.r1 M.r2 M.r3))).setCell ⟨w.heap.size + 1, 2, none⟩ (.int .i64 M.a2))).setCell ⟨w.heap.size + 1, 3, none⟩ (.slice M.s1 M.s2 M.s3))).setCell ⟨w.heap.size + 1, 4, none⟩ (.int .i64 M.a4))).setCell ⟨w.heap.size + 1, 5, none⟩ (.int .i64 M.a5))).setCell ⟨w.heap.size + 1, 6, none⟩ (.bool M.a6))).setCell ⟨w.heap.size + 1, 7, none⟩ (.int .i64 M.a7))).setCell ⟨w.heap.size + 1, 8, none⟩ (.string M.a8)) := ⟨_, rfl⟩
    rw [← hY] at y1 y2 y3 y4
    have y4' := y4 ((below_two' w _ _).trans (Joins.below_le HB2.out (by simp; omega))) (by omega)
    rw [← hY]
    refine bodyPost_ret (results_cell_row rfl _ _ (w.heap.size + 1) 25 _ (0, 0) _ rfl y1 Try.underlying25 rfl (by kernel_rfl)) rfl ?_
    exact ⟨M, rfl, HM.out.kept (fun b hb => y2 b (by have := hb.1; simp at this; omega)) (fun b hb => ⟨by have := hb.1; simp at this; omega, by rw [y3]; exact hb.2⟩), y4'⟩
  · have k7' : (k == 7) = false := by simpa using k7
    have e0 : (Tn.mk k R a2 ts a4 a5 a6 a7 a8).mir = .mk k R (flipI a2) (if k = 4 then (ts.map Tn.mir).reverse else ts.map Tn.mir) a4 a5 a6 a7 a8 := by simp only [Tn.mir, k7, if_false, mirL_map]
    rw [e0]
    by_cases k3 : k = 3
    · subst k3
      have hts : ts = [] := by
        rcases ts with _ | ⟨t, ts⟩
        · rfl
        · exfalso
          have := hf.1
          simp [nodeB, bareB] at this
      have hRn : R = [] := List.length_eq_zero_iff.1 (FN.rng (by show (3 : Int) ≠ 2; decide))
      subst hts hRn
      have hs2 : s2 = 0 := hs
      have hr0 : r2 = 0 := HRL.out
      subst hs2 hr0
      have HFl := fun W => flip16 a2 W HOK.out.a2
      obtain ⟨fa, hfa⟩ : ∃ fa, fa = flipI a2 := ⟨_, rfl⟩
      rw [← hfa] at HFl ⊢
      have HFI : Hid (I64ok fa) := by rw [hfa]; exact flip_in a2 HOK.out.a2
      clear ok hr hR hk hS hw ih hs hf FN hfg IH hno hlen hR5 HS HIH HL HRW HW HRL hfa
      go_enter Try.func28, Try.ntmps28
      go_wp2_with (first | (go_at_call 36; (with_reducible refine (HFl _).mono ?_); rintro e w2 ⟨rfl, rfl⟩))
      refine bodyPost_ret (results_cell_row rfl _ _ (w.heap.size + 1) 25 _ (0, 0) _ rfl (two_new w _ _ _) Try.underlying25 rfl (by kernel_rfl)) rfl ?_
      exact ⟨⟨3, r1, 0, r3, fa, s1, 0, s3, a4, a5, a6, a7, a8⟩, rfl, .mk (N := ⟨3, r1, 0, r3, fa, s1, 0, s3, a4, a5, a6, a7, a8⟩) (R := []) (ts := []) (ND := fun _ => default) ⟨HOK.out.k, HFI.out, HOK.out.a4, HOK.out.a5, HOK.out.a7, HOK.out.a8, HOK.out.r, HOK.out.s⟩ rfl (fun h => absurd rfl h) (by simp) rfl (fun h => by simp at h) (fun i hi => by simp at hi), below_two' w _ _⟩
    · have k3' : (k == 3) = false := by simpa using k3
      have hfl : flipI a2 = a2 := by
        have : a2 = 0 := FN.nas k3
        rw [this, flip0]
      rw [hfl]
      clear ok hr hR hk hS hw ih hs hf FN hfg IH hno hlen hR5 hfl
      have HSRC : Hid (∀ V : World, (∀ b, b < B → V.heap[b]? = w0.heap[b]?) → 0 < r2 → ∃ b f, r1 = some ⟨b, f, none⟩ ∧ ∀ j u, (O2 R)[j]? = some u → V.cell? ⟨b, f + j, none⟩ = some u) := fun V hV hp => (HRW.out V hV).src (by have := HRL.out; omega)
      have HO2 : Hid ((O2 R).length = r2 * 2) := (O2_len R).trans (by rw [HRL.out])
      go_enter Try.func28, Try.ntmps28
      go_upto_region 8 with fail
      obtain ⟨W, hW⟩ : ∃ W, W = (w.alloc (.cells #[.int .i64 k, .slice r1 r2 r3, .int .i64 a2, .slice s1 s2 s3, .int .i64 a4, .int .i64 a5, .bool a6, .int .i64 a7, .string a8] 25)).alloc (.cells #[.int .i64 0, .slice none 0 0, .int .i64 0, .slice none 0 0, .int .i64 0, .int .i64 0, .bool false, .int .i64 0, .string ⟨#[]⟩] 25) := ⟨_, rfl⟩
      rw [← hW]
      have hX : BxN W w.heap.size ⟨k, r1, r2, r3, a2, s1, s2, s3, a4, a5, a6, a7, a8⟩ := by rw [hW]; exact (heap_alloc_old _ _ (by simp)).trans (heap_alloc_new w _)
      have hY : BxZ W (w.heap.size + 1) := by rw [hW]; exact two_new w _ _ _
      have hb : Below w.heap.size w W := by rw [hW]; exact below_two' w _ _
      have hsW : W.heap.size = w.heap.size + 2 := by rw [hW]; simp
      obtain ⟨x, hx⟩ : ∃ x, x = w.heap.size := ⟨_, rfl⟩
      rw [← hx] at hX hY hb hsW ⊢
      have HX := hid hX
      have HY := hid hY
      have HB := hid hb
      have HSW := hid hsW
      have HXE := hid hx
      have hxl : x < W.heap.size := by omega
      have hwkW : ∀ b, b < B → W.heap[b]? = w0.heap[b]? := fun b hb' => (hb.block b (by omega)).trans (HW.out b hb')
      have HWK := hid hwkW
      have HSR := hid (HSRC.out W hwkW)
      obtain ⟨q0, q1, q2, q3, q4, q5, q6, q7, q8⟩ := nine' hX
      clear hX hY hb hsW hx hW hwkW HSRC
      go_upto_region 9 with (at_builtin; refine wpList_append_nil rfl (.tmp 24) (.tmp 26) 22 rfl 53 i5 (.agg #[.int .i64 0, .int .i64 0]) 2 16 Try.underlying22 hi5 hz50 hz51 hz52 rfl (by decide) rfl r1 r2 r3 (O2 R) rfl HO2.out HSR.out (O2_one R) (by unfold maxLen; omega) (by omega) ?_; intro v4 wc ho4 hb4 hl4; obtain ⟨c1, c3, rfl, hc3⟩ := row_shape ho4.out; have HC3 := hid hc3; clear hc3)
      have HRR : Hid (wc.ownsRow W.heap.size 53 2 (.slice c1 r2 c3) r2 (O2 R)) := ho4.out
      have HBW : Hid (Below W.heap.size W wc) := hb4.out
      clear ho4 hb4 hl4 HSR HO2 q0 q1 q2 q3 q4 q5 q6 q7 q8
      have hwl : W.heap.size ≤ wc.heap.size := HBW.out.size
      have hXc : BxN wc x ⟨k, r1, r2, r3, a2, s1, s2, s3, a4, a5, a6, a7, a8⟩ := (HBW.out.block x hxl).trans HX.out
      have f1 := Joins.unfrozen_of_block hXc 1
      obtain ⟨q0, q1, q2, q3, q4, q5, q6, q7, q8⟩ := nine' hXc
      have HXc := hid hXc
      clear hXc
      go_upto_region 10 with fail
      clear q0 q1 q2 q3 q4 q5 q6 q7 q8 f1
      obtain ⟨V0, hV0⟩ : ∃ V0, V0 = wc.setCell ⟨x, 1, none⟩ (.slice c1 r2 c3) := ⟨_, rfl⟩
      rw [← hV0]
      have HXV : Hid (BxN V0 x ⟨k, c1, r2, c3, a2, s1, s2, s3, a4, a5, a6, a7, a8⟩) := by rw [hV0]; exact Joins.block_setCell (i := 1) HXc.out _
      have hVo : ∀ b, b ≠ x → V0.heap[b]? = wc.heap[b]? := fun b hb => by rw [hV0]; exact Below.heap_setCell _ _ _ _ hb
      have HYV : Hid (BxZ V0 (x + 1)) := (hVo _ (by omega)).trans ((HBW.out.block (x + 1) (by have := HSW.out; omega)).trans HY.out)
      have HWKV : Hid (∀ b, b < B → V0.heap[b]? = w0.heap[b]?) := fun b hb => (hVo b (by have := HXE.out; omega)).trans ((HBW.out.block b (by have := HXE.out; omega)).trans (HWK.out b hb))
      have HRRV : Hid (V0.ownsRow W.heap.size 53 2 (.slice c1 r2 c3) r2 (O2 R)) := row_kept HRR.out (fun b hb => hVo b (by have := (HRR.out.lt b hb).1; omega))
      have HBV : Hid (Below x w V0) := by rw [hV0]; exact (HB.out.trans (Joins.below_le HBW.out (by omega))).setCell (by exact Nat.le_refl _) _
      have hV0l : W.heap.size ≤ V0.heap.size := by rw [hV0]; simpa [World.setCell] using hwl
      clear hV0 hVo HXc HRR HBW hwl HB
      by_cases k4 : k = 4
      · subst k4
        go_wp2_with fail
        go_loopw [4, 5] (fun u y wq => ∃ (i : Nat) (z1 : Option Addr) (z3 : Nat), u = .slice z1 i z3 ∧ y = .int .i64 (i : Int) ∧ i ≤ s2 ∧ Hid (∃ MS : List Nv, MS.length = i ∧ wq.ownsRow W.heap.size 25 9 (.slice z1 i z3) i (MS.flatMap Nv.cs) ∧ ∀ j, j < i → TP wq (fun b => W.heap.size ≤ b ∧ b < wq.heap.size ∧ (Value.slice z1 i z3).ownBlock ≠ some b) (MS.getD j default) (ts.getD (s2 - 1 - j) default).mir) ∧ Hid (∀ b, (Value.slice z1 i z3).ownBlock = some b → (Value.slice c1 r2 c3).ownBlock ≠ some b) ∧ Hid (wq.ownsRow W.heap.size 53 2 (.slice c1 r2 c3) r2 (O2 R)) ∧ Hid (Below W.heap.size V0 wq)) (fun _ y _ => s2 - (intOf y).toNat)
        case atStart => exact ⟨0, none, 0, rfl, rfl, by omega, ⟨[], rfl, World.ownsRow_nil _ _ _ _, fun j hj => by omega⟩, (fun b hb => by cases hb), HRRV.out, Below.refl _ _⟩
        case round =>
          obtain ⟨i, z1, z3, rfl, rfl, hi, HST, HUR, HRq, HBq⟩ := hrel
          have hXq : BxN wr x ⟨4, c1, r2, c3, a2, s1, s2, s3, a4, a5, a6, a7, a8⟩ := (HBq.out.block x hxl).trans HXV.out
          obtain ⟨q0, q1, q2, q3, q4, q5, q6, q7, q8⟩ := nine' hXq
          have hwl' : W.heap.size ≤ wr.heap.size := by have := HBq.out.size; omega
          have hxr : x < wr.heap.size := by omega
          by_cases hil : i < s2
          · have b1 : decide ((i : Int) < (s2 : Int)) = true := by simp; omega
            have b2 : (i : Int) < (s2 : Int) := by omega
            have ad1 : IntKind.i64.wrap ((i : Int) + 1) = (i : Int) + 1 := by simp [IntKind.wrap, IntKind.bits, IntKind.signed]; omega
            obtain ⟨q, hq⟩ : ∃ q, q = s2 - 1 - i := ⟨_, rfl⟩
            have hlt : q < ts.length := by rw [← HL.out]; omega
            have w1 : IntKind.i64.wrap ((s2 : Int) - 1) = ((s2 - 1 : Nat) : Int) := by simp [IntKind.wrap, IntKind.bits, IntKind.signed]; omega
            have w2' : IntKind.i64.wrap (((s2 - 1 : Nat) : Int) - (i : Int)) = (q : Int) := by simp [IntKind.wrap, IntKind.bits, IntKind.signed]; omega
            have b3 : (q : Int) < (s2 : Int) := by omega
            have HQ := hid hq
            clear hq
            obtain ⟨b, o, hs1, hb, hc⟩ := HS.out (by omega)
            subst hs1
            have hwk : ∀ b, b < B → wr.heap[b]? = w0.heap[b]? := fun b hb => (HBq.out.block b (by have := HSW.out; have := HXE.out; omega)).trans (HWKV.out b hb)
            obtain ⟨n0, n1, n2, n3, n4, n5, n6, n7, n8⟩ := (hc q hlt).kept (hwk b hb)
            have HC := HIH.out q hlt wr (by have := HSW.out; have := HXE.out; omega) hwk
            obtain ⟨P, hP⟩ : ∃ P, P = ND q := ⟨_, rfl⟩
            rw [← hP] at HC n0 n1 n2 n3 n4 n5 n6 n7 n8
            obtain ⟨MS, hS0, hS1, hS2⟩ := HST.out
            have HS0 := hid hS0
            have HS1 := hid hS1
            have HS2 := hid hS2
            clear hc hP hwk hXq HST hS0 hS1 hS2
            go_wp2_with (first | (go_at_call 28; (with_reducible refine HC.mono ?_); rintro e w2 ⟨M, rfl, hM, hb2⟩; have HM := hid hM; have HB2 := hid hb2; have hz2 : wr.heap.size ≤ w2.heap.size := hb2.size; have HO1 : Hid (((w2.alloc (.cells #[.int .i64 M.k, .slice M.r1 M.r2 M.r3, .int .i64 M.a2, .slice M.s1 M.s2 M.s3, .int .i64 M.a4, .int .i64 M.a5, .bool M.a6, .int .i64 M.a7, .string M.a8] 25)).alloc (.cells #[.int .i64 M.k, .slice M.r1 M.r2 M.r3, .int .i64 M.a2, .slice M.s1 M.s2 M.s3, .int .i64 M.a4, .int .i64 M.a5, .bool M.a6, .int .i64 M.a7, .string M.a8] 25)).ownsRow W.heap.size 25 9 (.slice z1 i z3) i (MS.flatMap Nv.cs)) := ((row_kept HS1.out (fun b hb => hb2.block b (HS1.out.lt b hb).2)).alloc _).alloc _; have HLt : Hid (((w2.alloc (.cells #[.int .i64 M.k, .slice M.r1 M.r2 M.r3, .int .i64 M.a2, .slice M.s1 M.s2 M.s3, .int .i64 M.a4, .int .i64 M.a5, .bool M.a6, .int .i64 M.a7, .string M.a8] 25)).alloc (.cells #[.int .i64 M.k, .slice M.r1 M.r2 M.r3, .int .i64 M.a2, .slice M.s1 M.s2 M.s3, .int .i64 M.a4, .int .i64 M.a5, .bool M.a6, .int .i64 M.a7, .string M.a8] 25)).ownsRow 0 25 9 (.slice (some ⟨w2.heap.size + 1, 0, none⟩) 1 1) 1 (Nv.cs M)) := (by have := World.ownsRow_lit (base := 0) (e := 25) (size := 9) (w2.alloc (.cells #[.int .i64 M.k, .slice M.r1 M.r2 M.r3, .int .i64 M.a2, .slice M.s1 M.s2 M.s3, .int .i64 M.a4, .int .i64 M.a5, .bool M.a6, .int .i64 M.a7, .string M.a8] 25)) #[.int .i64 M.k, .slice M.r1 M.r2 M.r3, .int .i64 M.a2, .slice M.s1 M.s2 M.s3, .int .i64 M.a4, .int .i64 M.a5, .bool M.a6, .int .i64 M.a7, .string M.a8] 1 (by omega) (by unfold maxLen; omega) rfl; have e : (w2.alloc (.cells #[.int .i64 M.k, .slice M.r1 M.r2 M.r3, .int .i64 M.a2, .slice M.s1 M.s2 M.s3, .int .i64 M.a4, .int .i64 M.a5, .bool M.a6, .int .i64 M.a7, .string M.a8] 25)).heap.size = w2.heap.size + 1 := (by simp); rw [e] at this; exact this); clear hM hb2 HC) | (at_builtin; refine wpList_append_row rfl (.tmp 53) (.tmp 55) 23 rfl W.heap.size 25 i2 Z9 9 112 Try.underlying23 hi2 hz20 hz21 hz22 rfl (by decide) (.slice z1 i z3) i (MS.flatMap Nv.cs) rfl HO1.out (.slice (some ⟨w2.heap.size + 1, 0, none⟩) 1 1) 1 0 (Nv.cs M) rfl HLt.out (by omega) (one9 M) (by unfold maxLen; omega) (by omega) (by (try simp) <;> omega) ?_; intro v3 w3 ho3 hf3 _; obtain ⟨y1, y3, rfl, _⟩ := row_shape ho3.out))
            have hz3 : w2.heap.size + 2 ≤ w3.heap.size := by have := hf3.out.size; simpa using this
            have hk3 : ∀ b, b < w2.heap.size → (Value.slice z1 i z3).ownBlock ≠ some b → w3.heap[b]? = w2.heap[b]? := fun b hb hn => (hf3.out.block b (by (try simp) <;> omega) hn).trans ((heap_alloc_old _ _ (by (try simp) <;> omega)).trans (heap_alloc_old _ _ hb))
            have hkr : ∀ b, b < wr.heap.size → (Value.slice z1 i z3).ownBlock ≠ some b → w3.heap[b]? = wr.heap[b]? := fun b hb hn => (hk3 b (by omega) hn).trans (HB2.out.block b hb)
            have hown3 : ∀ b, (Value.slice y1 (i + 1) y3).ownBlock = some b → (Value.slice z1 i z3).ownBlock = some b ∨ w2.heap.size ≤ b := fun b hb => by
              rcases hf3.out.own b hb with h | h
              · exact .inl h
              · right; simp at h; omega
            refine ⟨⟨i + 1, y1, y3, rfl, by push_cast; rfl, by omega, ⟨MS ++ [M], by simp [HS0.out], ?_, fun j hj => ?_⟩, fun b hb h => ?_, row_kept HRq.out (fun b hb => hkr b (HRq.out.lt b hb).2 (fun h => HUR.out b h hb)), ⟨hf3.out.os.trans (HB2.out.os.trans HBq.out.os), hf3.out.tape.trans (HB2.out.tape.trans HBq.out.tape), hf3.out.output.trans (HB2.out.output.trans HBq.out.output), by have := HBq.out.size; omega, fun b hb => (hkr b (by omega) (fun h => by have := (HS1.out.lt b h).1; omega)).trans (HBq.out.block b hb)⟩⟩, by simp [intOf]; omega⟩
            · rw [List.flatMap_append]
              simpa using ho3.out
            · rw [getD_snoc MS M j i HS0.out hj]
              by_cases e : j = i
              · subst e
                rw [if_pos rfl]
                rw [← HQ.out, getD_lt hlt]
                refine HM.out.kept (fun b hb => hk3 b hb.2 (fun h => by have := (HS1.out.lt b h).2; have := hb.1; omega)) (fun b hb => ⟨by have := hb.1; omega, by have := hb.2; omega, fun h => ?_⟩)
                rcases hown3 b h with h3 | h3
                · have := (HS1.out.lt b h3).2; have := hb.1; omega
                · have := hb.2; omega
              · rw [if_neg e]
                refine (HS2.out j (by omega)).kept (fun b hb => hkr b hb.2.1 hb.2.2) (fun b hb => ⟨hb.1, by have := hb.2.1; omega, fun h => ?_⟩)
                rcases hown3 b h with h3 | h3
                · exact hb.2.2 h3
                · have := hb.2.1; omega
            · rcases hown3 b hb with h3 | h3
              · exact HUR.out b h3 h
              · have := (HRq.out.lt b h).2; omega
          · have b1 : decide ((i : Int) < (s2 : Int)) = false := by simp; omega
            obtain rfl : i = s2 := by omega
            obtain ⟨MS, hS0, hS1, hS2⟩ := HST.out
            have HS0 := hid hS0
            have HS1 := hid hS1
            have HS2 := hid hS2
            have hYq : BxZ wr (x + 1) := (HBq.out.block (x + 1) (by have := HSW.out; omega)).trans HYV.out
            have f1 := Joins.unfrozen_of_block hXq 1
            have f3 := Joins.unfrozen_of_block hXq 3
            obtain ⟨y0, yy1, y2, yy3, y4, y5, y6, y7, y8⟩ := nine' hYq
            have g0 := Joins.unfrozen_of_block hYq 0
            have g1 := Joins.unfrozen_of_block hYq 1
            have g2 := Joins.unfrozen_of_block hYq 2
            have g3 := Joins.unfrozen_of_block hYq 3
            have g4 := Joins.unfrozen_of_block hYq 4
            have g5 := Joins.unfrozen_of_block hYq 5
            have g6 := Joins.unfrozen_of_block hYq 6
            have g7 := Joins.unfrozen_of_block hYq 7
            have g8 := Joins.unfrozen_of_block hYq 8
            have HYq := hid hYq
            clear hXq hYq HST hS0 hS1 hS2
            go_wp2
            obtain ⟨X, hX⟩ : ∃ X, X = wr.setCell ⟨x, 3, none⟩ (.slice z1 i z3) := ⟨_, rfl⟩
            rw [← hX]
            have hXo : ∀ b, b ≠ x → X.heap[b]? = wr.heap[b]? := fun b hb => by rw [hX]; exact Below.heap_setCell _ _ _ _ hb
            have hXb : Below x w X := by rw [hX]; exact (HBV.out.trans (Joins.below_le HBq.out (by omega))).setCell (by exact Nat.le_refl _) _
            have hXs : X.heap.size = wr.heap.size := by rw [hX]; simp [World.setCell]
            obtain ⟨y1', y2', y3', y4'⟩ := nineSet X (x + 1) (.int .i64 4) (.slice c1 r2 c3) (.int .i64 a2) (.slice z1 i z3) (.int .i64 a4) (.int .i64 a5) (.bool a6) (.int .i64 a7) (.string a8) ((hXo _ (by omega)).trans HYq.out)
            obtain ⟨Y, hY⟩ : ∃ Y, Y = (((((((((X.setCell ⟨x + 1, 0, none⟩ (.int .i64 4)).setCell ⟨x + 1, 1, none⟩ (.slice c1 r2 c3)).setCell ⟨x + 1, 2, none⟩ (.int .i64 a2)).setCell ⟨x + 1, 3, none⟩ (.slice z1 i z3)).setCell ⟨x + 1, 4, none⟩ (.int .i64 a4)).setCell ⟨x + 1, 5, none⟩ (.int .i64 a5)).setCell ⟨x + 1, 6, none⟩ (.bool a6)).setCell ⟨x + 1, 7, none⟩ (.int .i64 a7)).setCell ⟨x + 1, 8, none⟩ (.string a8)) := ⟨_, rfl⟩
            rw [← hY] at y1' y2' y3' y4'
            have y4'' := y4' hXb (by omega)
            rw [← hY]
            refine bodyPost_ret (results_cell_row rfl _ _ (x + 1) 25 _ (0, 0) _ rfl y1' Try.underlying25 rfl (by kernel_rfl)) rfl ?_
            have hkeep : ∀ b, W.heap.size ≤ b → Y.heap[b]? = wr.heap[b]? := fun b hb => (y2' b (by have := HSW.out; omega)).trans (hXo b (by omega))
            have hYs : Y.heap.size = wr.heap.size := y3'.trans hXs
            have hRlen : r2 = R.length := HRL.out
            rw [← HXE.out]
            obtain ⟨_, z3', ez, hz31, hz32⟩ := row_shape HS1.out
            simp only [Value.slice.injEq] at ez
            obtain ⟨rfl, _, rfl⟩ := ez
            have hTl : ((ts.map Tn.mir).reverse).length = i := by simp; exact HL.out.symm
            skip
            refine ⟨⟨4, c1, r2, c3, a2, z1, i, z3, a4, a5, a6, a7, a8⟩, rfl, TP.build (N := ⟨4, c1, r2, c3, a2, z1, i, z3, a4, a5, a6, a7, a8⟩) (R := R) (ts := (ts.map Tn.mir).reverse) (MS := MS) (b1 := W.heap.size) (b2 := W.heap.size) ⟨HOK.out.k, HOK.out.a2, HOK.out.a4, HOK.out.a5, HOK.out.a7, HOK.out.a8, HC3.out, ⟨hz31, hz32⟩⟩ hRk (by rw [← hRlen]; exact row_kept HRq.out (fun b hb => hkeep b (HRq.out.lt b hb).1)) (fun b hb => ⟨by have := (HRq.out.lt b hb).1; omega, by rw [hYs]; exact (HRq.out.lt b hb).2⟩) (by rw [hTl]; exact row_kept HS1.out (fun b hb => hkeep b (HS1.out.lt b hb).1)) (by rw [HS0.out]; exact hTl.symm) (fun b hb => ⟨by have := (HS1.out.lt b hb).1; omega, by rw [hYs]; exact (HS1.out.lt b hb).2⟩) (fun j hj => ?_), y4''⟩
            have hj' : j < i := by rw [hTl] at hj; exact hj
            rw [List.getElem_reverse, List.getElem_map]
            have hl := HL.out
            have e : ts.length - 1 - j < ts.length := by omega
            simp only [List.length_map]
            rw [← getD_lt e, ← hl]
            exact (HS2.out j (by omega)).kept (fun b hb => hkeep b hb.1) (fun b hb => ⟨by have := hb.1; omega, by rw [hYs]; exact hb.2.1⟩)
      · have k4' : (k == 4) = false := by simpa using k4
        go_wp2_with fail
        go_loopw [4, 5] (fun u y wq => ∃ (i : Nat) (z1 : Option Addr) (z3 : Nat), u = .slice z1 i z3 ∧ y = .int .i64 (i : Int) ∧ i ≤ s2 ∧ Hid (∃ MS : List Nv, MS.length = i ∧ wq.ownsRow W.heap.size 25 9 (.slice z1 i z3) i (MS.flatMap Nv.cs) ∧ ∀ j, j < i → TP wq (fun b => W.heap.size ≤ b ∧ b < wq.heap.size ∧ (Value.slice z1 i z3).ownBlock ≠ some b) (MS.getD j default) (ts.getD j default).mir) ∧ Hid (∀ b, (Value.slice z1 i z3).ownBlock = some b → (Value.slice c1 r2 c3).ownBlock ≠ some b) ∧ Hid (wq.ownsRow W.heap.size 53 2 (.slice c1 r2 c3) r2 (O2 R)) ∧ Hid (Below W.heap.size V0 wq)) (fun _ y _ => s2 - (intOf y).toNat)
        case atStart => exact ⟨0, none, 0, rfl, rfl, by omega, ⟨[], rfl, World.ownsRow_nil _ _ _ _, fun j hj => by omega⟩, (fun b hb => by cases hb), HRRV.out, Below.refl _ _⟩
        case round =>
          obtain ⟨i, z1, z3, rfl, rfl, hi, HST, HUR, HRq, HBq⟩ := hrel
          have hXq : BxN wr x ⟨k, c1, r2, c3, a2, s1, s2, s3, a4, a5, a6, a7, a8⟩ := (HBq.out.block x hxl).trans HXV.out
          obtain ⟨q0, q1, q2, q3, q4, q5, q6, q7, q8⟩ := nine' hXq
          have hwl' : W.heap.size ≤ wr.heap.size := by have := HBq.out.size; omega
          have hxr : x < wr.heap.size := by omega
          by_cases hil : i < s2
          · have b1 : decide ((i : Int) < (s2 : Int)) = true := by simp; omega
            have b2 : (i : Int) < (s2 : Int) := by omega
            have ad1 : IntKind.i64.wrap ((i : Int) + 1) = (i : Int) + 1 := by simp [IntKind.wrap, IntKind.bits, IntKind.signed]; omega
            have hlt : i < ts.length := by rw [← HL.out]; exact hil
            obtain ⟨b, o, hs1, hb, hc⟩ := HS.out (by omega)
            subst hs1
            have hwk : ∀ b, b < B → wr.heap[b]? = w0.heap[b]? := fun b hb => (HBq.out.block b (by have := HSW.out; have := HXE.out; omega)).trans (HWKV.out b hb)
            obtain ⟨n0, n1, n2, n3, n4, n5, n6, n7, n8⟩ := (hc i hlt).kept (hwk b hb)
            have HC := HIH.out i hlt wr (by have := HSW.out; have := HXE.out; omega) hwk
            obtain ⟨P, hP⟩ : ∃ P, P = ND i := ⟨_, rfl⟩
            rw [← hP] at HC n0 n1 n2 n3 n4 n5 n6 n7 n8
            obtain ⟨MS, hS0, hS1, hS2⟩ := HST.out
            have HS0 := hid hS0
            have HS1 := hid hS1
            have HS2 := hid hS2
            clear hc hP hwk hXq HST hS0 hS1 hS2
            go_wp2_with (first | (go_at_call 28; (with_reducible refine HC.mono ?_); rintro e w2 ⟨M, rfl, hM, hb2⟩; have HM := hid hM; have HB2 := hid hb2; have hz2 : wr.heap.size ≤ w2.heap.size := hb2.size; have HO1 : Hid (((w2.alloc (.cells #[.int .i64 M.k, .slice M.r1 M.r2 M.r3, .int .i64 M.a2, .slice M.s1 M.s2 M.s3, .int .i64 M.a4, .int .i64 M.a5, .bool M.a6, .int .i64 M.a7, .string M.a8] 25)).alloc (.cells #[.int .i64 M.k, .slice M.r1 M.r2 M.r3, .int .i64 M.a2, .slice M.s1 M.s2 M.s3, .int .i64 M.a4, .int .i64 M.a5, .bool M.a6, .int .i64 M.a7, .string M.a8] 25)).ownsRow W.heap.size 25 9 (.slice z1 i z3) i (MS.flatMap Nv.cs)) := ((row_kept HS1.out (fun b hb => hb2.block b (HS1.out.lt b hb).2)).alloc _).alloc _; have HLt : Hid (((w2.alloc (.cells #[.int .i64 M.k, .slice M.r1 M.r2 M.r3, .int .i64 M.a2, .slice M.s1 M.s2 M.s3, .int .i64 M.a4, .int .i64 M.a5, .bool M.a6, .int .i64 M.a7, .string M.a8] 25)).alloc (.cells #[.int .i64 M.k, .slice M.r1 M.r2 M.r3, .int .i64 M.a2, .slice M.s1 M.s2 M.s3, .int .i64 M.a4, .int .i64 M.a5, .bool M.a6, .int .i64 M.a7, .string M.a8] 25)).ownsRow 0 25 9 (.slice (some ⟨w2.heap.size + 1, 0, none⟩) 1 1) 1 (Nv.cs M)) := (by have := World.ownsRow_lit (base := 0) (e := 25) (size := 9) (w2.alloc (.cells #[.int .i64 M.k, .slice M.r1 M.r2 M.r3, .int .i64 M.a2, .slice M.s1 M.s2 M.s3, .int .i64 M.a4, .int .i64 M.a5, .bool M.a6, .int .i64 M.a7, .string M.a8] 25)) #[.int .i64 M.k, .slice M.r1 M.r2 M.r3, .int .i64 M.a2, .slice M.s1 M.s2 M.s3, .int .i64 M.a4, .int .i64 M.a5, .bool M.a6, .int .i64 M.a7, .string M.a8] 1 (by omega) (by unfold maxLen; omega) rfl; have e : (w2.alloc (.cells #[.int .i64 M.k, .slice M.r1 M.r2 M.r3, .int .i64 M.a2, .slice M.s1 M.s2 M.s3, .int .i64 M.a4, .int .i64 M.a5, .bool M.a6, .int .i64 M.a7, .string M.a8] 25)).heap.size = w2.heap.size + 1 := (by simp); rw [e] at this; exact this); clear hM hb2 HC) | (at_builtin; refine wpList_append_row rfl (.tmp 53) (.tmp 55) 23 rfl W.heap.size 25 i2 Z9 9 112 Try.underlying23 hi2 hz20 hz21 hz22 rfl (by decide) (.slice z1 i z3) i (MS.flatMap Nv.cs) rfl HO1.out (.slice (some ⟨w2.heap.size + 1, 0, none⟩) 1 1) 1 0 (Nv.cs M) rfl HLt.out (by omega) (one9 M) (by unfold maxLen; omega) (by omega) (by (try simp) <;> omega) ?_; intro v3 w3 ho3 hf3 _; obtain ⟨y1, y3, rfl, _⟩ := row_shape ho3.out))
            have hz3 : w2.heap.size + 2 ≤ w3.heap.size := by have := hf3.out.size; simpa using this
            have hk3 : ∀ b, b < w2.heap.size → (Value.slice z1 i z3).ownBlock ≠ some b → w3.heap[b]? = w2.heap[b]? := fun b hb hn => (hf3.out.block b (by (try simp) <;> omega) hn).trans ((heap_alloc_old _ _ (by (try simp) <;> omega)).trans (heap_alloc_old _ _ hb))
            have hkr : ∀ b, b < wr.heap.size → (Value.slice z1 i z3).ownBlock ≠ some b → w3.heap[b]? = wr.heap[b]? := fun b hb hn => (hk3 b (by omega) hn).trans (HB2.out.block b hb)
            have hown3 : ∀ b, (Value.slice y1 (i + 1) y3).ownBlock = some b → (Value.slice z1 i z3).ownBlock = some b ∨ w2.heap.size ≤ b := fun b hb => by
              rcases hf3.out.own b hb with h | h
              · exact .inl h
              · right; simp at h; omega
            refine ⟨⟨i + 1, y1, y3, rfl, by push_cast; rfl, by omega, ⟨MS ++ [M], by simp [HS0.out], ?_, fun j hj => ?_⟩, fun b hb h => ?_, row_kept HRq.out (fun b hb => hkr b (HRq.out.lt b hb).2 (fun h => HUR.out b h hb)), ⟨hf3.out.os.trans (HB2.out.os.trans HBq.out.os), hf3.out.tape.trans (HB2.out.tape.trans HBq.out.tape), hf3.out.output.trans (HB2.out.output.trans HBq.out.output), by have := HBq.out.size; omega, fun b hb => (hkr b (by omega) (fun h => by have := (HS1.out.lt b h).1; omega)).trans (HBq.out.block b hb)⟩⟩, by simp [intOf]; omega⟩
            · rw [List.flatMap_append]
              simpa using ho3.out
            · rw [getD_snoc MS M j i HS0.out hj]
              by_cases e : j = i
              · subst e
                rw [if_pos rfl]
                rw [getD_lt hlt]
                refine HM.out.kept (fun b hb => hk3 b hb.2 (fun h => by have := (HS1.out.lt b h).2; have := hb.1; omega)) (fun b hb => ⟨by have := hb.1; omega, by have := hb.2; omega, fun h => ?_⟩)
                rcases hown3 b h with h3 | h3
                · have := (HS1.out.lt b h3).2; have := hb.1; omega
                · have := hb.2; omega
              · rw [if_neg e]
                refine (HS2.out j (by omega)).kept (fun b hb => hkr b hb.2.1 hb.2.2) (fun b hb => ⟨hb.1, by have := hb.2.1; omega, fun h => ?_⟩)
                rcases hown3 b h with h3 | h3
                · exact hb.2.2 h3
                · have := hb.2.1; omega
            · rcases hown3 b hb with h3 | h3
              · exact HUR.out b h3 h
              · have := (HRq.out.lt b h).2; omega
          · have b1 : decide ((i : Int) < (s2 : Int)) = false := by simp; omega
            obtain rfl : i = s2 := by omega
            obtain ⟨MS, hS0, hS1, hS2⟩ := HST.out
            have HS0 := hid hS0
            have HS1 := hid hS1
            have HS2 := hid hS2
            have hYq : BxZ wr (x + 1) := (HBq.out.block (x + 1) (by have := HSW.out; omega)).trans HYV.out
            have f1 := Joins.unfrozen_of_block hXq 1
            have f3 := Joins.unfrozen_of_block hXq 3
            obtain ⟨y0, yy1, y2, yy3, y4, y5, y6, y7, y8⟩ := nine' hYq
            have g0 := Joins.unfrozen_of_block hYq 0
            have g1 := Joins.unfrozen_of_block hYq 1
            have g2 := Joins.unfrozen_of_block hYq 2
            have g3 := Joins.unfrozen_of_block hYq 3
            have g4 := Joins.unfrozen_of_block hYq 4
            have g5 := Joins.unfrozen_of_block hYq 5
            have g6 := Joins.unfrozen_of_block hYq 6
            have g7 := Joins.unfrozen_of_block hYq 7
            have g8 := Joins.unfrozen_of_block hYq 8
            have HYq := hid hYq
            clear hXq hYq HST hS0 hS1 hS2
            go_wp2
            obtain ⟨X, hX⟩ : ∃ X, X = wr.setCell ⟨x, 3, none⟩ (.slice z1 i z3) := ⟨_, rfl⟩
            rw [← hX]
            have hXo : ∀ b, b ≠ x → X.heap[b]? = wr.heap[b]? := fun b hb => by rw [hX]; exact Below.heap_setCell _ _ _ _ hb
            have hXb : Below x w X := by rw [hX]; exact (HBV.out.trans (Joins.below_le HBq.out (by omega))).setCell (by exact Nat.le_refl _) _
            have hXs : X.heap.size = wr.heap.size := by rw [hX]; simp [World.setCell]
            obtain ⟨y1', y2', y3', y4'⟩ := nineSet X (x + 1) (.int .i64 k) (.slice c1 r2 c3) (.int .i64 a2) (.slice z1 i z3) (.int .i64 a4) (.int .i64 a5) (.bool a6) (.int .i64 a7) (.string a8) ((hXo _ (by omega)).trans HYq.out)
            obtain ⟨Y, hY⟩ : ∃ Y, Y = (((((((((X.setCell ⟨x + 1, 0, none⟩ (.int .i64 k)).setCell ⟨x + 1, 1, none⟩ (.slice c1 r2 c3)).setCell ⟨x + 1, 2, none⟩ (.int .i64 a2)).setCell ⟨x + 1, 3, none⟩ (.slice z1 i z3)).setCell ⟨x + 1, 4, none⟩ (.int .i64 a4)).setCell ⟨x + 1, 5, none⟩ (.int .i64 a5)).setCell ⟨x + 1, 6, none⟩ (.bool a6)).setCell ⟨x + 1, 7, none⟩ (.int .i64 a7)).setCell ⟨x + 1, 8, none⟩ (.string a8)) := ⟨_, rfl⟩
            rw [← hY] at y1' y2' y3' y4'
            have y4'' := y4' hXb (by omega)
            rw [← hY]
            refine bodyPost_ret (results_cell_row rfl _ _ (x + 1) 25 _ (0, 0) _ rfl y1' Try.underlying25 rfl (by kernel_rfl)) rfl ?_
            have hkeep : ∀ b, W.heap.size ≤ b → Y.heap[b]? = wr.heap[b]? := fun b hb => (y2' b (by have := HSW.out; omega)).trans (hXo b (by omega))
            have hYs : Y.heap.size = wr.heap.size := y3'.trans hXs
            have hRlen : r2 = R.length := HRL.out
            rw [← HXE.out]
            obtain ⟨_, z3', ez, hz31, hz32⟩ := row_shape HS1.out
            simp only [Value.slice.injEq] at ez
            obtain ⟨rfl, _, rfl⟩ := ez
            have hTl : (ts.map Tn.mir).length = i := by simp; exact HL.out.symm
            skip
            refine ⟨⟨k, c1, r2, c3, a2, z1, i, z3, a4, a5, a6, a7, a8⟩, rfl, TP.build (N := ⟨k, c1, r2, c3, a2, z1, i, z3, a4, a5, a6, a7, a8⟩) (R := R) (ts := ts.map Tn.mir) (MS := MS) (b1 := W.heap.size) (b2 := W.heap.size) ⟨HOK.out.k, HOK.out.a2, HOK.out.a4, HOK.out.a5, HOK.out.a7, HOK.out.a8, HC3.out, ⟨hz31, hz32⟩⟩ hRk (by rw [← hRlen]; exact row_kept HRq.out (fun b hb => hkeep b (HRq.out.lt b hb).1)) (fun b hb => ⟨by have := (HRq.out.lt b hb).1; omega, by rw [hYs]; exact (HRq.out.lt b hb).2⟩) (by rw [hTl]; exact row_kept HS1.out (fun b hb => hkeep b (HS1.out.lt b hb).1)) (by rw [HS0.out]; exact hTl.symm) (fun b hb => ⟨by have := (HS1.out.lt b hb).1; omega, by rw [hYs]; exact (HS1.out.lt b hb).2⟩) (fun j hj => ?_), y4''⟩
            have hj' : j < ts.length := by simpa using hj
            rw [List.getElem_map, ← getD_lt hj']
            have := HL.out
            rw [← HL.out] at hj'
            exact (HS2.out j (by omega)).kept (fun b hb => hkeep b hb.1) (fun b hb => ⟨by have := hb.1; omega, by rw [hYs]; exact hb.2.1⟩)
end Go.Proofs.Ytilpkeipjlnogaa
