/- HELPERS: a program's instructions are put behind the others, moved. -/
import Derived.Test.YtnecakampgdhcaaJc
namespace Go.Proofs.Ytnecakampgdhcaa
open Go.RowKit
set_option linter.unusedVariables false
set_option linter.unusedSimpArgs false
theorem Chs.low {A : Nat → Prop} {base : Nat} {w w' : World} (h : Chs A w w') (hA : ∀ b, A b → base ≤ b) (hb : base ≤ w.heap.size) : Below base w w' := ⟨h.os, h.tape, h.output, h.size, fun b hb' => h.block b (by omega) (fun h' => by have := hA b h'; omega)⟩
theorem next65r (m : Nat) (z1 : Option Addr) (n c : Nat) (w : World) (h : w.cell? ⟨m, 0, none⟩ = some (.slice z1 n c)) : Calls Try.prog 65 #[pt m] w fun e w' => e = .returned (.int .i64 (n : Int)) ∧ w' = w := by
  go_enter Try.func65, Try.ntmps65
  go_wp2
  all_goals go_ret
  all_goals exact ⟨rfl, rfl⟩
/-- the four ways of an instruction -/
theorem ways {I : In} {n k : Int} (h : I.okB n k = true) : (hasXB I.op = true ∧ hasYB I.op = false ∧ (I.op == 5) = false) ∨ (hasXB I.op = true ∧ hasYB I.op = true ∧ (I.op == 5) = false) ∨ (hasXB I.op = false ∧ hasYB I.op = false ∧ (I.op == 5) = true) ∨ (hasXB I.op = false ∧ hasYB I.op = false ∧ (I.op == 5) = false) := by
  rcases ok_op h with e | e | e | e | e | e | e <;> rw [e] <;> decide
/-- the row, the box that bears it -/
def MR (w0 w : World) (m base : Nat) (z0 : Value) (n : Nat) (l : List In) : Prop := ∃ (z1 : Option Addr) (c : Nat) (MS : List Iv), BxR w m 61 z1 n c ∧ GR w base (.slice z1 n c) MS l ∧ ∀ b, (Value.slice z1 n c).ownBlock = some b → z0.ownBlock = some b ∨ w0.heap.size ≤ b
set_option maxRecDepth 100000 in
set_option maxHeartbeats 8000000 in
theorem moved43 {w : World} {ad : Option Addr} {n c m base N C : Nat} {l lg : List In} {s k : Int} {which : Nat} {z1 : Option Addr} {MS : List Iv} (h : PI w base ad n l) (hmay : mayB l s k = true) (hm : base ≤ m) (hB : BxR w m 61 z1 N C) (hG : GR w base (.slice z1 N C) MS lg) (hN : N + n ≤ 20000) (hb : base ≤ w.heap.size) :
    Calls Try.prog 43 #[pt m, pv ad n c s k, .int .i64 (which : Int)] w fun e w' => e = .returned (.tuple #[]) ∧ MR w w' m base (.slice z1 N C) (N + n) (lg ++ l.map (mvI N which)) ∧ Chs (fun b => b = m ∨ (Value.slice z1 N C).ownBlock = some b) w w' := by
  have hl := h.len
  obtain ⟨i5, hi5, hz50, hz51, hz52⟩ := info_parts info49
  have hNl : N = lg.length := row_len hG.row
  obtain ⟨U, hU⟩ : ∃ U, U = w.alloc (.cells #[.slice ad n c, .int .i64 s, .int .i64 k] 24) := ⟨_, rfl⟩
  have hbU : Below w.heap.size w U := by rw [hU]; exact Joins.below_alloc1 w _
  have hX : U.heap[w.heap.size]? = some (.cells #[.slice ad n c, .int .i64 s, .int .i64 k] 24 (0, 0)) := by rw [hU]; exact heap_alloc_new w _
  have hml : m < w.heap.size := (Array.getElem?_eq_some_iff.1 hB).1
  have hBU : BxR U m 61 z1 N C := (hbU.block m hml).trans hB
  have hMR : MR w U m base (.slice z1 N C) (N + 0) (lg ++ (l.take 0).map (mvI N which)) := ⟨z1, C, MS, hBU, by simpa using hG.below hbU, fun b hb' => .inl hb'⟩
  have hcU : Chs (fun b => b = m ∨ (Value.slice z1 N C).ownBlock = some b) w U := Chs.of_below hbU
  have HN65 := next65r m z1 N C U (Joins.cell_of_block hBU 0)
  have hzb : ∀ b, (Value.slice z1 N C).ownBlock = some b → base ≤ b := fun b hb' => (hG.row.lt b hb').1
  have HP := hid h
  have HMAY := hid (may_ok hmay)
  have HMR := hid hMR
  have HC := hid hcU
  have HZB := hid hzb
  have HL := hid hl
  have HNL := hid hNl
  obtain ⟨c0, c1, c2⟩ := three_cells hX
  clear h hmay hB hG hbU hX hBU hMR hcU hzb hl hNl
  obtain ⟨x, hx⟩ : ∃ x, x = w.heap.size := ⟨_, rfl⟩
  go_enter Try.func43, Try.ntmps43
  go_upto_region 1 with fail
  rw [← hU, ← hx]
  rw [← hx] at c0 c1 c2
  clear hU hx
  go_wp2_with (go_at_call 65; (with_reducible refine HN65.mono ?_); rintro e w2 ⟨rfl, hw⟩; have hw' := hw.symm; clear hw; subst hw'; clear HN65)
  clear c0 c1 c2
  go_loopw [14] (fun y wq => ∃ i : Nat, y = .int .i64 (i : Int) ∧ i ≤ n ∧ Hid (MR w wq m base (.slice z1 N C) (N + i) (lg ++ (l.take i).map (mvI N which))) ∧ Hid (Chs (fun b => b = m ∨ (Value.slice z1 N C).ownBlock = some b) w wq)) (fun y _ => n - (intOf y).toNat)
  case atStart => exact ⟨0, rfl, by omega, HMR.out, HC.out⟩
  case round =>
    clear HMR HC
    obtain ⟨i, rfl, hi, HMR, HC⟩ := hrel
    by_cases hil : i < n
    · have b1 : decide ((i : Int) < (n : Int)) = true := by simp; omega
      have b2 : (i : Int) < (n : Int) := by omega
      have ad1 : IntKind.i64.wrap ((i : Int) + 1) = (i : Int) + 1 := by simp [IntKind.wrap, IntKind.bits, IntKind.signed]; omega
      have hlt : i < l.length := by have := HL.out; omega
      have hbl : Below base w wr := HC.out.low (fun b h' => h'.elim (fun e => by omega) (HZB.out b)) hb
      obtain ⟨g, o, ND, e, hg, hcs⟩ := HP.out.mem (by omega)
      subst e
      have lg' : g < wr.heap.size := by have := hbl.size; omega
      obtain ⟨m0, m1, m2, m3, m4⟩ := (hcs i hlt).1.kept (hbl.block g hg)
      have hI := (hcs i hlt).2.kept hbl (B' := wr.heap.size) (by have := hbl.size; omega)
      have hok := HMAY.out.2.2.2.2.2 l[i] (List.getElem_mem hlt)
      have hw4 := ways hok
      have hxy := ok_x hok
      have hll := HMAY.out.1
      obtain ⟨M, hM⟩ : ∃ M, M = ND i := ⟨_, rfl⟩
      rw [← hM] at m0 m1 m2 m3 m4 hI
      clear hM hcs hbl
      obtain ⟨op, xx, yy, aa, r1, r2, r3⟩ := M
      dsimp only at m0 m1 m2 m3 m4
      have e1 := hI.op
      have e2 := hI.x
      have e3 := hI.y
      have e4 := hI.a
      have hsm : r2 * 16 ≤ 140737488351232 := hI.sm
      have hlen : r2 = l[i].R.length := hI.len
      dsimp only at e1 e2 e3 e4
      rw [← e1] at hw4
      rw [← e2, ← e3] at hxy
      have sx : IntKind.i64.wrap (xx + (N : Int)) = xx + (N : Int) := wrap_ok _ (by omega) (by omega)
      have sy : IntKind.i64.wrap (yy + (N : Int)) = yy + (N : Int) := wrap_ok _ (by omega) (by omega)
      have HI := hid hI
      have HLEN := hid hlen
      have HE := hid (And.intro e1 (And.intro e2 (And.intro e3 e4)))
      have X1 := fun W => hasX61 op W
      have X2 := fun W => hasY62 op W
      clear hI hlen e1 e2 e3 e4 hxy hok hll
      obtain ⟨zq, cq, MQ, hBq, hGq, hoq⟩ := HMR.out
      have hmw : m < wr.heap.size := (Array.getElem?_eq_some_iff.1 hBq).1
      have HBQ := hid hBq
      have HGQ := hid hGq
      have HOQ := hid hoq
      clear hBq hGq hoq HMR
      obtain ⟨p, hp⟩ : ∃ p, p = wr.heap.size := ⟨_, rfl⟩
      rcases hw4 with ⟨f1, f2, f3⟩ | ⟨f1, f2, f3⟩ | ⟨f1, f2, f3⟩ | ⟨f1, f2, f3⟩
      · simp only [f1] at X1
        simp only [f2] at X2
        have hQF : (wr.alloc (.cells #[.int .i64 op, .int .i64 (xx + (N : Int)), .int .i64 (yy), .int .i64 (aa), .slice r1 r2 r3] 51)).heap[p]? = some (.cells #[.int .i64 op, .int .i64 (xx + (N : Int)), .int .i64 (yy), .int .i64 (aa), .slice r1 r2 r3] 51 (0, 0)) := by rw [hp]; exact heap_alloc_new wr _
        have hbF : Below wr.heap.size wr (wr.alloc (.cells #[.int .i64 op, .int .i64 (xx + (N : Int)), .int .i64 (yy), .int .i64 (aa), .slice r1 r2 r3] 51)) := Joins.below_alloc1 wr _
        go_upto_region 11 with (first | (go_at_call 61; (with_reducible refine (X1 _).mono ?_); rintro e w2 ⟨rfl, hw⟩; have hw' := hw.symm; clear hw; subst hw') | (go_at_call 62; (with_reducible refine (X2 _).mono ?_); rintro e w2 ⟨rfl, hw⟩; have hw' := hw.symm; clear hw; subst hw'))
        rw [← hp]
        obtain ⟨V1, hV1⟩ : ∃ V, V = (wr.alloc (.cells #[.int .i64 op, .int .i64 (xx + (N : Int)), .int .i64 (yy), .int .i64 (aa), .slice r1 r2 r3] 51)) := ⟨_, rfl⟩
        rw [← hV1] at hQF hbF ⊢
        have hmv : (⟨op, xx + (N : Int), yy, aa, l[i].R⟩ : In) = mvI N which l[i] := by
          obtain ⟨e1, e2, e3, e4⟩ := HE.out
          have f5 := f3
          simp only [beq_iff_eq, beq_eq_false_iff_ne] at f5
          unfold mvI
          rw [← e1, ← e2, ← e3, ← e4, f1, f2]
          first | (rw [if_pos f5]; simp; done) | (rw [if_neg f5]; simp; done)
        have HMV := hid hmv
        clear hmv hV1 X1 X2 f1 f2 f3
        have hpl : p < V1.heap.size := (Array.getElem?_eq_some_iff.1 hQF).1
        have HPE := hid hp
        have HQ1 := hid hQF
        have HBV1 := hid hbF
        have HIV := hid (HI.out.kept HBV1.out HBV1.out.size)
        have HSR : Hid (0 < r2 → ∃ b f, r1 = some ⟨b, f, none⟩ ∧ ∀ j u, (O2 l[i].R)[j]? = some u → V1.cell? ⟨b, f + j, none⟩ = some u) := fun hp => HIV.out.row.src hp HLEN.out
        have HO2 : Hid ((O2 l[i].R).length = r2 * 2) := (O2_len _).trans (by rw [HLEN.out])
        obtain ⟨d0, d1, d2, d3, d4⟩ := five hQF
        clear hp hQF hbF m0 m1 m2 m3 m4 HI
        go_upto_region 12 with (at_builtin; refine wpList_append_nil rfl (.const (.slice none 0 0)) (.tmp 40) 36 rfl 49 i5 (.agg #[.int .i64 0, .int .i64 0]) 2 16 Try.underlying36 hi5 hz50 hz51 hz52 rfl (by decide) rfl r1 r2 r3 (O2 l[i].R) rfl HO2.out HSR.out (O2_one _) (by unfold maxLen; omega) (by omega) ?_; intro v4 w4 ho4 hb4 hl4; obtain ⟨c1, c3, rfl, hc3⟩ := row_shape ho4.out; have HC3 := hid hc3; clear hc3; have hQ4 := (hb4.out.block p hpl).trans HQ1.out; have f4 := Joins.unfrozen_of_block hQ4 4; have k4 := Joins.cell_of_block hQ4 4; have HQ4 := hid hQ4; clear hQ4)
        obtain ⟨V5, hV5⟩ : ∃ V, V = w4.setCell ⟨p, 4, none⟩ (.slice c1 r2 c3) := ⟨_, rfl⟩
        rw [← hV5]
        have hz4 : V1.heap.size ≤ w4.heap.size := hb4.out.size
        have hz5 : V5.heap.size = w4.heap.size := by rw [hV5]; simp [World.setCell]
        have hQ5 : V5.heap[p]? = some (.cells #[.int .i64 op, .int .i64 (xx + (N : Int)), .int .i64 yy, .int .i64 aa, .slice c1 r2 c3] 51 (0, 0)) := by rw [hV5]; exact Joins.block_setCell (i := 4) HQ4.out _
        have hcne : (Value.slice c1 r2 c3).ownBlock ≠ some p := fun e => by have := (ho4.out.lt p e).1; omega
        have hz1 : wr.heap.size ≤ V1.heap.size := HBV1.out.size
        have HR5 : Hid (V5.ownsRow wr.heap.size 49 2 (.slice c1 r2 c3) r2 (O2 l[i].R)) := by rw [hV5]; exact (own_setCell ho4.out hcne).mono hz1
        have hK5 : ∀ b, b < wr.heap.size → V5.heap[b]? = wr.heap[b]? := fun b hb => by
          rw [hV5]
          exact (Below.heap_setCell _ _ _ _ (fun e => by have := HPE.out; simp only at e; omega)).trans ((hb4.out.block b (by omega)).trans (HBV1.out.block b hb))
        have hbV5 : Below wr.heap.size wr V5 := by
          refine ⟨?_, ?_, ?_, by omega, hK5⟩
          · rw [hV5]; exact hb4.out.os.trans HBV1.out.os
          · rw [hV5]; exact hb4.out.tape.trans HBV1.out.tape
          · rw [hV5]; exact hb4.out.output.trans HBV1.out.output
        have hBq5 : BxR V5 m 61 zq (N + i) cq := (hK5 m hmw).trans HBQ.out
        have hlq : (lg ++ (l.take i).map (mvI N which)).length = N + i := by have := HNL.out; simp; omega
        have hrq := (HGQ.out.below hbV5).row
        rw [hlq] at hrq
        have HA := add42g (t := 61) (by decide) ⟨op, (xx + (N : Int)), yy, aa, c1, r2, c3⟩ hBq5 hrq (by omega) (base := base) (by have := HC.out.size; omega)
        obtain ⟨e0, e1, e2, e3, e4⟩ := five hQ5
        have HBV5 := hid hbV5
        have HBQ5 := hid hBq5
        have hbw : base ≤ wr.heap.size := by have := HC.out.size; omega
        have hw5 : wr.heap.size ≤ V5.heap.size := by omega
        clear hrq hV5 hQ5 d0 d1 d2 d3 d4 f4 k4 HQ4 hz5 hcne hK5 hbV5 hBq5
        go_wp2_with (go_at_call 42; (with_reducible refine HA.mono ?_); rintro e w7 ⟨rfl, y1, y3, hB7, ho7, hn7, hc7⟩; have HB7 := hid hB7; have HO7 := hid ho7; have HN7 := hid hn7; have HC7 := hid hc7; clear hB7 ho7 hn7 hc7 HA)
        have hzq : (Value.slice zq (N + i) cq).ownBlock ≠ some m := own_ne HGQ.out.row HBQ.out (by decide)
        have hnew := HGQ.out.push (m := m) (V := V5) (w7 := w7) (v7 := .slice y1 (N + i + 1) y3) (M := ⟨op, (xx + (N : Int)), yy, aa, c1, r2, c3⟩) (I := ⟨op, (xx + (N : Int)), yy, aa, l[i].R⟩) hbw hw5 (fun b hb _ => HBV5.out.block b hb) (fun b R n h => own_ne h HBQ5.out (by decide)) rfl rfl rfl rfl HLEN.out hsm (by rw [← HLEN.out]; exact HR5.out) hzq (fun b R n h => own_ne h HBQ.out (by decide)) (fun b hb h1 h2 => HC7.out.block b hb (fun h' => h'.elim h2 h1)) HN7.out (by rw [hlq]; exact HO7.out)
        rw [HMV.out] at hnew
        refine ⟨⟨i + 1, by push_cast; rfl, by omega, ⟨y1, y3, MQ ++ [⟨op, (xx + (N : Int)), yy, aa, c1, r2, c3⟩], HB7.out, ?_, fun b hb => ?_⟩, ?_⟩, by simp [intOf]; omega⟩
        · rw [List.take_succ_eq_append_getElem hlt, List.map_append, ← List.append_assoc]
          exact hnew
        · rcases HN7.out b hb with h' | h'
          · exact HOQ.out b h'
          · right; have := HC.out.size; omega
        · refine ⟨HC7.out.os.trans (HBV5.out.os.trans HC.out.os), HC7.out.tape.trans (HBV5.out.tape.trans HC.out.tape), HC7.out.output.trans (HBV5.out.output.trans HC.out.output), by have := HC.out.size; have := HC7.out.size; omega, fun b hb hn => ?_⟩
          refine (HC7.out.block b (by have := HC.out.size; omega) (fun h' => ?_)).trans ((HBV5.out.block b (by have := HC.out.size; omega)).trans (HC.out.block b hb hn))
          rcases h' with h' | h'
          · exact hn (.inl h')
          · rcases HOQ.out b h' with h2 | h2
            · exact hn (.inr h2)
            · omega
      · simp only [f1] at X1
        simp only [f2] at X2
        have hQF : (wr.alloc (.cells #[.int .i64 op, .int .i64 (xx + (N : Int)), .int .i64 (yy + (N : Int)), .int .i64 (aa), .slice r1 r2 r3] 51)).heap[p]? = some (.cells #[.int .i64 op, .int .i64 (xx + (N : Int)), .int .i64 (yy + (N : Int)), .int .i64 (aa), .slice r1 r2 r3] 51 (0, 0)) := by rw [hp]; exact heap_alloc_new wr _
        have hbF : Below wr.heap.size wr (wr.alloc (.cells #[.int .i64 op, .int .i64 (xx + (N : Int)), .int .i64 (yy + (N : Int)), .int .i64 (aa), .slice r1 r2 r3] 51)) := Joins.below_alloc1 wr _
        go_upto_region 11 with (first | (go_at_call 61; (with_reducible refine (X1 _).mono ?_); rintro e w2 ⟨rfl, hw⟩; have hw' := hw.symm; clear hw; subst hw') | (go_at_call 62; (with_reducible refine (X2 _).mono ?_); rintro e w2 ⟨rfl, hw⟩; have hw' := hw.symm; clear hw; subst hw'))
        rw [← hp]
        obtain ⟨V1, hV1⟩ : ∃ V, V = (wr.alloc (.cells #[.int .i64 op, .int .i64 (xx + (N : Int)), .int .i64 (yy + (N : Int)), .int .i64 (aa), .slice r1 r2 r3] 51)) := ⟨_, rfl⟩
        rw [← hV1] at hQF hbF ⊢
        have hmv : (⟨op, xx + (N : Int), yy + (N : Int), aa, l[i].R⟩ : In) = mvI N which l[i] := by
          obtain ⟨e1, e2, e3, e4⟩ := HE.out
          have f5 := f3
          simp only [beq_iff_eq, beq_eq_false_iff_ne] at f5
          unfold mvI
          rw [← e1, ← e2, ← e3, ← e4, f1, f2]
          first | (rw [if_pos f5]; simp; done) | (rw [if_neg f5]; simp; done)
        have HMV := hid hmv
        clear hmv hV1 X1 X2 f1 f2 f3
        have hpl : p < V1.heap.size := (Array.getElem?_eq_some_iff.1 hQF).1
        have HPE := hid hp
        have HQ1 := hid hQF
        have HBV1 := hid hbF
        have HIV := hid (HI.out.kept HBV1.out HBV1.out.size)
        have HSR : Hid (0 < r2 → ∃ b f, r1 = some ⟨b, f, none⟩ ∧ ∀ j u, (O2 l[i].R)[j]? = some u → V1.cell? ⟨b, f + j, none⟩ = some u) := fun hp => HIV.out.row.src hp HLEN.out
        have HO2 : Hid ((O2 l[i].R).length = r2 * 2) := (O2_len _).trans (by rw [HLEN.out])
        obtain ⟨d0, d1, d2, d3, d4⟩ := five hQF
        clear hp hQF hbF m0 m1 m2 m3 m4 HI
        go_upto_region 12 with (at_builtin; refine wpList_append_nil rfl (.const (.slice none 0 0)) (.tmp 40) 36 rfl 49 i5 (.agg #[.int .i64 0, .int .i64 0]) 2 16 Try.underlying36 hi5 hz50 hz51 hz52 rfl (by decide) rfl r1 r2 r3 (O2 l[i].R) rfl HO2.out HSR.out (O2_one _) (by unfold maxLen; omega) (by omega) ?_; intro v4 w4 ho4 hb4 hl4; obtain ⟨c1, c3, rfl, hc3⟩ := row_shape ho4.out; have HC3 := hid hc3; clear hc3; have hQ4 := (hb4.out.block p hpl).trans HQ1.out; have f4 := Joins.unfrozen_of_block hQ4 4; have k4 := Joins.cell_of_block hQ4 4; have HQ4 := hid hQ4; clear hQ4)
        obtain ⟨V5, hV5⟩ : ∃ V, V = w4.setCell ⟨p, 4, none⟩ (.slice c1 r2 c3) := ⟨_, rfl⟩
        rw [← hV5]
        have hz4 : V1.heap.size ≤ w4.heap.size := hb4.out.size
        have hz5 : V5.heap.size = w4.heap.size := by rw [hV5]; simp [World.setCell]
        have hQ5 : V5.heap[p]? = some (.cells #[.int .i64 op, .int .i64 (xx + (N : Int)), .int .i64 (yy + (N : Int)), .int .i64 aa, .slice c1 r2 c3] 51 (0, 0)) := by rw [hV5]; exact Joins.block_setCell (i := 4) HQ4.out _
        have hcne : (Value.slice c1 r2 c3).ownBlock ≠ some p := fun e => by have := (ho4.out.lt p e).1; omega
        have hz1 : wr.heap.size ≤ V1.heap.size := HBV1.out.size
        have HR5 : Hid (V5.ownsRow wr.heap.size 49 2 (.slice c1 r2 c3) r2 (O2 l[i].R)) := by rw [hV5]; exact (own_setCell ho4.out hcne).mono hz1
        have hK5 : ∀ b, b < wr.heap.size → V5.heap[b]? = wr.heap[b]? := fun b hb => by
          rw [hV5]
          exact (Below.heap_setCell _ _ _ _ (fun e => by have := HPE.out; simp only at e; omega)).trans ((hb4.out.block b (by omega)).trans (HBV1.out.block b hb))
        have hbV5 : Below wr.heap.size wr V5 := by
          refine ⟨?_, ?_, ?_, by omega, hK5⟩
          · rw [hV5]; exact hb4.out.os.trans HBV1.out.os
          · rw [hV5]; exact hb4.out.tape.trans HBV1.out.tape
          · rw [hV5]; exact hb4.out.output.trans HBV1.out.output
        have hBq5 : BxR V5 m 61 zq (N + i) cq := (hK5 m hmw).trans HBQ.out
        have hlq : (lg ++ (l.take i).map (mvI N which)).length = N + i := by have := HNL.out; simp; omega
        have hrq := (HGQ.out.below hbV5).row
        rw [hlq] at hrq
        have HA := add42g (t := 61) (by decide) ⟨op, (xx + (N : Int)), (yy + (N : Int)), aa, c1, r2, c3⟩ hBq5 hrq (by omega) (base := base) (by have := HC.out.size; omega)
        obtain ⟨e0, e1, e2, e3, e4⟩ := five hQ5
        have HBV5 := hid hbV5
        have HBQ5 := hid hBq5
        have hbw : base ≤ wr.heap.size := by have := HC.out.size; omega
        have hw5 : wr.heap.size ≤ V5.heap.size := by omega
        clear hrq hV5 hQ5 d0 d1 d2 d3 d4 f4 k4 HQ4 hz5 hcne hK5 hbV5 hBq5
        go_wp2_with (go_at_call 42; (with_reducible refine HA.mono ?_); rintro e w7 ⟨rfl, y1, y3, hB7, ho7, hn7, hc7⟩; have HB7 := hid hB7; have HO7 := hid ho7; have HN7 := hid hn7; have HC7 := hid hc7; clear hB7 ho7 hn7 hc7 HA)
        have hzq : (Value.slice zq (N + i) cq).ownBlock ≠ some m := own_ne HGQ.out.row HBQ.out (by decide)
        have hnew := HGQ.out.push (m := m) (V := V5) (w7 := w7) (v7 := .slice y1 (N + i + 1) y3) (M := ⟨op, (xx + (N : Int)), (yy + (N : Int)), aa, c1, r2, c3⟩) (I := ⟨op, (xx + (N : Int)), (yy + (N : Int)), aa, l[i].R⟩) hbw hw5 (fun b hb _ => HBV5.out.block b hb) (fun b R n h => own_ne h HBQ5.out (by decide)) rfl rfl rfl rfl HLEN.out hsm (by rw [← HLEN.out]; exact HR5.out) hzq (fun b R n h => own_ne h HBQ.out (by decide)) (fun b hb h1 h2 => HC7.out.block b hb (fun h' => h'.elim h2 h1)) HN7.out (by rw [hlq]; exact HO7.out)
        rw [HMV.out] at hnew
        refine ⟨⟨i + 1, by push_cast; rfl, by omega, ⟨y1, y3, MQ ++ [⟨op, (xx + (N : Int)), (yy + (N : Int)), aa, c1, r2, c3⟩], HB7.out, ?_, fun b hb => ?_⟩, ?_⟩, by simp [intOf]; omega⟩
        · rw [List.take_succ_eq_append_getElem hlt, List.map_append, ← List.append_assoc]
          exact hnew
        · rcases HN7.out b hb with h' | h'
          · exact HOQ.out b h'
          · right; have := HC.out.size; omega
        · refine ⟨HC7.out.os.trans (HBV5.out.os.trans HC.out.os), HC7.out.tape.trans (HBV5.out.tape.trans HC.out.tape), HC7.out.output.trans (HBV5.out.output.trans HC.out.output), by have := HC.out.size; have := HC7.out.size; omega, fun b hb hn => ?_⟩
          refine (HC7.out.block b (by have := HC.out.size; omega) (fun h' => ?_)).trans ((HBV5.out.block b (by have := HC.out.size; omega)).trans (HC.out.block b hb hn))
          rcases h' with h' | h'
          · exact hn (.inl h')
          · rcases HOQ.out b h' with h2 | h2
            · exact hn (.inr h2)
            · omega
      · simp only [f1] at X1
        simp only [f2] at X2
        have hQF : (wr.alloc (.cells #[.int .i64 op, .int .i64 (xx), .int .i64 (yy), .int .i64 ((which : Int)), .slice r1 r2 r3] 51)).heap[p]? = some (.cells #[.int .i64 op, .int .i64 (xx), .int .i64 (yy), .int .i64 ((which : Int)), .slice r1 r2 r3] 51 (0, 0)) := by rw [hp]; exact heap_alloc_new wr _
        have hbF : Below wr.heap.size wr (wr.alloc (.cells #[.int .i64 op, .int .i64 (xx), .int .i64 (yy), .int .i64 ((which : Int)), .slice r1 r2 r3] 51)) := Joins.below_alloc1 wr _
        go_upto_region 11 with (first | (go_at_call 61; (with_reducible refine (X1 _).mono ?_); rintro e w2 ⟨rfl, hw⟩; have hw' := hw.symm; clear hw; subst hw') | (go_at_call 62; (with_reducible refine (X2 _).mono ?_); rintro e w2 ⟨rfl, hw⟩; have hw' := hw.symm; clear hw; subst hw'))
        rw [← hp]
        obtain ⟨V1, hV1⟩ : ∃ V, V = (wr.alloc (.cells #[.int .i64 op, .int .i64 (xx), .int .i64 (yy), .int .i64 ((which : Int)), .slice r1 r2 r3] 51)) := ⟨_, rfl⟩
        rw [← hV1] at hQF hbF ⊢
        have hmv : (⟨op, xx, yy, (which : Int), l[i].R⟩ : In) = mvI N which l[i] := by
          obtain ⟨e1, e2, e3, e4⟩ := HE.out
          have f5 := f3
          simp only [beq_iff_eq, beq_eq_false_iff_ne] at f5
          unfold mvI
          rw [← e1, ← e2, ← e3, ← e4, f1, f2]
          first | (rw [if_pos f5]; simp; done) | (rw [if_neg f5]; simp; done)
        have HMV := hid hmv
        clear hmv hV1 X1 X2 f1 f2 f3
        have hpl : p < V1.heap.size := (Array.getElem?_eq_some_iff.1 hQF).1
        have HPE := hid hp
        have HQ1 := hid hQF
        have HBV1 := hid hbF
        have HIV := hid (HI.out.kept HBV1.out HBV1.out.size)
        have HSR : Hid (0 < r2 → ∃ b f, r1 = some ⟨b, f, none⟩ ∧ ∀ j u, (O2 l[i].R)[j]? = some u → V1.cell? ⟨b, f + j, none⟩ = some u) := fun hp => HIV.out.row.src hp HLEN.out
        have HO2 : Hid ((O2 l[i].R).length = r2 * 2) := (O2_len _).trans (by rw [HLEN.out])
        obtain ⟨d0, d1, d2, d3, d4⟩ := five hQF
        clear hp hQF hbF m0 m1 m2 m3 m4 HI
        go_upto_region 12 with (at_builtin; refine wpList_append_nil rfl (.const (.slice none 0 0)) (.tmp 40) 36 rfl 49 i5 (.agg #[.int .i64 0, .int .i64 0]) 2 16 Try.underlying36 hi5 hz50 hz51 hz52 rfl (by decide) rfl r1 r2 r3 (O2 l[i].R) rfl HO2.out HSR.out (O2_one _) (by unfold maxLen; omega) (by omega) ?_; intro v4 w4 ho4 hb4 hl4; obtain ⟨c1, c3, rfl, hc3⟩ := row_shape ho4.out; have HC3 := hid hc3; clear hc3; have hQ4 := (hb4.out.block p hpl).trans HQ1.out; have f4 := Joins.unfrozen_of_block hQ4 4; have k4 := Joins.cell_of_block hQ4 4; have HQ4 := hid hQ4; clear hQ4)
        obtain ⟨V5, hV5⟩ : ∃ V, V = w4.setCell ⟨p, 4, none⟩ (.slice c1 r2 c3) := ⟨_, rfl⟩
        rw [← hV5]
        have hz4 : V1.heap.size ≤ w4.heap.size := hb4.out.size
        have hz5 : V5.heap.size = w4.heap.size := by rw [hV5]; simp [World.setCell]
        have hQ5 : V5.heap[p]? = some (.cells #[.int .i64 op, .int .i64 xx, .int .i64 yy, .int .i64 (which : Int), .slice c1 r2 c3] 51 (0, 0)) := by rw [hV5]; exact Joins.block_setCell (i := 4) HQ4.out _
        have hcne : (Value.slice c1 r2 c3).ownBlock ≠ some p := fun e => by have := (ho4.out.lt p e).1; omega
        have hz1 : wr.heap.size ≤ V1.heap.size := HBV1.out.size
        have HR5 : Hid (V5.ownsRow wr.heap.size 49 2 (.slice c1 r2 c3) r2 (O2 l[i].R)) := by rw [hV5]; exact (own_setCell ho4.out hcne).mono hz1
        have hK5 : ∀ b, b < wr.heap.size → V5.heap[b]? = wr.heap[b]? := fun b hb => by
          rw [hV5]
          exact (Below.heap_setCell _ _ _ _ (fun e => by have := HPE.out; simp only at e; omega)).trans ((hb4.out.block b (by omega)).trans (HBV1.out.block b hb))
        have hbV5 : Below wr.heap.size wr V5 := by
          refine ⟨?_, ?_, ?_, by omega, hK5⟩
          · rw [hV5]; exact hb4.out.os.trans HBV1.out.os
          · rw [hV5]; exact hb4.out.tape.trans HBV1.out.tape
          · rw [hV5]; exact hb4.out.output.trans HBV1.out.output
        have hBq5 : BxR V5 m 61 zq (N + i) cq := (hK5 m hmw).trans HBQ.out
        have hlq : (lg ++ (l.take i).map (mvI N which)).length = N + i := by have := HNL.out; simp; omega
        have hrq := (HGQ.out.below hbV5).row
        rw [hlq] at hrq
        have HA := add42g (t := 61) (by decide) ⟨op, xx, yy, (which : Int), c1, r2, c3⟩ hBq5 hrq (by omega) (base := base) (by have := HC.out.size; omega)
        obtain ⟨e0, e1, e2, e3, e4⟩ := five hQ5
        have HBV5 := hid hbV5
        have HBQ5 := hid hBq5
        have hbw : base ≤ wr.heap.size := by have := HC.out.size; omega
        have hw5 : wr.heap.size ≤ V5.heap.size := by omega
        clear hrq hV5 hQ5 d0 d1 d2 d3 d4 f4 k4 HQ4 hz5 hcne hK5 hbV5 hBq5
        go_wp2_with (go_at_call 42; (with_reducible refine HA.mono ?_); rintro e w7 ⟨rfl, y1, y3, hB7, ho7, hn7, hc7⟩; have HB7 := hid hB7; have HO7 := hid ho7; have HN7 := hid hn7; have HC7 := hid hc7; clear hB7 ho7 hn7 hc7 HA)
        have hzq : (Value.slice zq (N + i) cq).ownBlock ≠ some m := own_ne HGQ.out.row HBQ.out (by decide)
        have hnew := HGQ.out.push (m := m) (V := V5) (w7 := w7) (v7 := .slice y1 (N + i + 1) y3) (M := ⟨op, xx, yy, (which : Int), c1, r2, c3⟩) (I := ⟨op, xx, yy, (which : Int), l[i].R⟩) hbw hw5 (fun b hb _ => HBV5.out.block b hb) (fun b R n h => own_ne h HBQ5.out (by decide)) rfl rfl rfl rfl HLEN.out hsm (by rw [← HLEN.out]; exact HR5.out) hzq (fun b R n h => own_ne h HBQ.out (by decide)) (fun b hb h1 h2 => HC7.out.block b hb (fun h' => h'.elim h2 h1)) HN7.out (by rw [hlq]; exact HO7.out)
        rw [HMV.out] at hnew
        refine ⟨⟨i + 1, by push_cast; rfl, by omega, ⟨y1, y3, MQ ++ [⟨op, xx, yy, (which : Int), c1, r2, c3⟩], HB7.out, ?_, fun b hb => ?_⟩, ?_⟩, by simp [intOf]; omega⟩
        · rw [List.take_succ_eq_append_getElem hlt, List.map_append, ← List.append_assoc]
          exact hnew
        · rcases HN7.out b hb with h' | h'
          · exact HOQ.out b h'
          · right; have := HC.out.size; omega
        · refine ⟨HC7.out.os.trans (HBV5.out.os.trans HC.out.os), HC7.out.tape.trans (HBV5.out.tape.trans HC.out.tape), HC7.out.output.trans (HBV5.out.output.trans HC.out.output), by have := HC.out.size; have := HC7.out.size; omega, fun b hb hn => ?_⟩
          refine (HC7.out.block b (by have := HC.out.size; omega) (fun h' => ?_)).trans ((HBV5.out.block b (by have := HC.out.size; omega)).trans (HC.out.block b hb hn))
          rcases h' with h' | h'
          · exact hn (.inl h')
          · rcases HOQ.out b h' with h2 | h2
            · exact hn (.inr h2)
            · omega
      · simp only [f1] at X1
        simp only [f2] at X2
        have hQF : (wr.alloc (.cells #[.int .i64 op, .int .i64 (xx), .int .i64 (yy), .int .i64 (aa), .slice r1 r2 r3] 51)).heap[p]? = some (.cells #[.int .i64 op, .int .i64 (xx), .int .i64 (yy), .int .i64 (aa), .slice r1 r2 r3] 51 (0, 0)) := by rw [hp]; exact heap_alloc_new wr _
        have hbF : Below wr.heap.size wr (wr.alloc (.cells #[.int .i64 op, .int .i64 (xx), .int .i64 (yy), .int .i64 (aa), .slice r1 r2 r3] 51)) := Joins.below_alloc1 wr _
        go_upto_region 11 with (first | (go_at_call 61; (with_reducible refine (X1 _).mono ?_); rintro e w2 ⟨rfl, hw⟩; have hw' := hw.symm; clear hw; subst hw') | (go_at_call 62; (with_reducible refine (X2 _).mono ?_); rintro e w2 ⟨rfl, hw⟩; have hw' := hw.symm; clear hw; subst hw'))
        rw [← hp]
        obtain ⟨V1, hV1⟩ : ∃ V, V = (wr.alloc (.cells #[.int .i64 op, .int .i64 (xx), .int .i64 (yy), .int .i64 (aa), .slice r1 r2 r3] 51)) := ⟨_, rfl⟩
        rw [← hV1] at hQF hbF ⊢
        have hmv : (⟨op, xx, yy, aa, l[i].R⟩ : In) = mvI N which l[i] := by
          obtain ⟨e1, e2, e3, e4⟩ := HE.out
          have f5 := f3
          simp only [beq_iff_eq, beq_eq_false_iff_ne] at f5
          unfold mvI
          rw [← e1, ← e2, ← e3, ← e4, f1, f2]
          first | (rw [if_pos f5]; simp; done) | (rw [if_neg f5]; simp; done)
        have HMV := hid hmv
        clear hmv hV1 X1 X2 f1 f2 f3
        have hpl : p < V1.heap.size := (Array.getElem?_eq_some_iff.1 hQF).1
        have HPE := hid hp
        have HQ1 := hid hQF
        have HBV1 := hid hbF
        have HIV := hid (HI.out.kept HBV1.out HBV1.out.size)
        have HSR : Hid (0 < r2 → ∃ b f, r1 = some ⟨b, f, none⟩ ∧ ∀ j u, (O2 l[i].R)[j]? = some u → V1.cell? ⟨b, f + j, none⟩ = some u) := fun hp => HIV.out.row.src hp HLEN.out
        have HO2 : Hid ((O2 l[i].R).length = r2 * 2) := (O2_len _).trans (by rw [HLEN.out])
        obtain ⟨d0, d1, d2, d3, d4⟩ := five hQF
        clear hp hQF hbF m0 m1 m2 m3 m4 HI
        go_upto_region 12 with (at_builtin; refine wpList_append_nil rfl (.const (.slice none 0 0)) (.tmp 40) 36 rfl 49 i5 (.agg #[.int .i64 0, .int .i64 0]) 2 16 Try.underlying36 hi5 hz50 hz51 hz52 rfl (by decide) rfl r1 r2 r3 (O2 l[i].R) rfl HO2.out HSR.out (O2_one _) (by unfold maxLen; omega) (by omega) ?_; intro v4 w4 ho4 hb4 hl4; obtain ⟨c1, c3, rfl, hc3⟩ := row_shape ho4.out; have HC3 := hid hc3; clear hc3; have hQ4 := (hb4.out.block p hpl).trans HQ1.out; have f4 := Joins.unfrozen_of_block hQ4 4; have k4 := Joins.cell_of_block hQ4 4; have HQ4 := hid hQ4; clear hQ4)
        obtain ⟨V5, hV5⟩ : ∃ V, V = w4.setCell ⟨p, 4, none⟩ (.slice c1 r2 c3) := ⟨_, rfl⟩
        rw [← hV5]
        have hz4 : V1.heap.size ≤ w4.heap.size := hb4.out.size
        have hz5 : V5.heap.size = w4.heap.size := by rw [hV5]; simp [World.setCell]
        have hQ5 : V5.heap[p]? = some (.cells #[.int .i64 op, .int .i64 xx, .int .i64 yy, .int .i64 aa, .slice c1 r2 c3] 51 (0, 0)) := by rw [hV5]; exact Joins.block_setCell (i := 4) HQ4.out _
        have hcne : (Value.slice c1 r2 c3).ownBlock ≠ some p := fun e => by have := (ho4.out.lt p e).1; omega
        have hz1 : wr.heap.size ≤ V1.heap.size := HBV1.out.size
        have HR5 : Hid (V5.ownsRow wr.heap.size 49 2 (.slice c1 r2 c3) r2 (O2 l[i].R)) := by rw [hV5]; exact (own_setCell ho4.out hcne).mono hz1
        have hK5 : ∀ b, b < wr.heap.size → V5.heap[b]? = wr.heap[b]? := fun b hb => by
          rw [hV5]
          exact (Below.heap_setCell _ _ _ _ (fun e => by have := HPE.out; simp only at e; omega)).trans ((hb4.out.block b (by omega)).trans (HBV1.out.block b hb))
        have hbV5 : Below wr.heap.size wr V5 := by
          refine ⟨?_, ?_, ?_, by omega, hK5⟩
          · rw [hV5]; exact hb4.out.os.trans HBV1.out.os
          · rw [hV5]; exact hb4.out.tape.trans HBV1.out.tape
          · rw [hV5]; exact hb4.out.output.trans HBV1.out.output
        have hBq5 : BxR V5 m 61 zq (N + i) cq := (hK5 m hmw).trans HBQ.out
        have hlq : (lg ++ (l.take i).map (mvI N which)).length = N + i := by have := HNL.out; simp; omega
        have hrq := (HGQ.out.below hbV5).row
        rw [hlq] at hrq
        have HA := add42g (t := 61) (by decide) ⟨op, xx, yy, aa, c1, r2, c3⟩ hBq5 hrq (by omega) (base := base) (by have := HC.out.size; omega)
        obtain ⟨e0, e1, e2, e3, e4⟩ := five hQ5
        have HBV5 := hid hbV5
        have HBQ5 := hid hBq5
        have hbw : base ≤ wr.heap.size := by have := HC.out.size; omega
        have hw5 : wr.heap.size ≤ V5.heap.size := by omega
        clear hrq hV5 hQ5 d0 d1 d2 d3 d4 f4 k4 HQ4 hz5 hcne hK5 hbV5 hBq5
        go_wp2_with (go_at_call 42; (with_reducible refine HA.mono ?_); rintro e w7 ⟨rfl, y1, y3, hB7, ho7, hn7, hc7⟩; have HB7 := hid hB7; have HO7 := hid ho7; have HN7 := hid hn7; have HC7 := hid hc7; clear hB7 ho7 hn7 hc7 HA)
        have hzq : (Value.slice zq (N + i) cq).ownBlock ≠ some m := own_ne HGQ.out.row HBQ.out (by decide)
        have hnew := HGQ.out.push (m := m) (V := V5) (w7 := w7) (v7 := .slice y1 (N + i + 1) y3) (M := ⟨op, xx, yy, aa, c1, r2, c3⟩) (I := ⟨op, xx, yy, aa, l[i].R⟩) hbw hw5 (fun b hb _ => HBV5.out.block b hb) (fun b R n h => own_ne h HBQ5.out (by decide)) rfl rfl rfl rfl HLEN.out hsm (by rw [← HLEN.out]; exact HR5.out) hzq (fun b R n h => own_ne h HBQ.out (by decide)) (fun b hb h1 h2 => HC7.out.block b hb (fun h' => h'.elim h2 h1)) HN7.out (by rw [hlq]; exact HO7.out)
        rw [HMV.out] at hnew
        refine ⟨⟨i + 1, by push_cast; rfl, by omega, ⟨y1, y3, MQ ++ [⟨op, xx, yy, aa, c1, r2, c3⟩], HB7.out, ?_, fun b hb => ?_⟩, ?_⟩, by simp [intOf]; omega⟩
        · rw [List.take_succ_eq_append_getElem hlt, List.map_append, ← List.append_assoc]
          exact hnew
        · rcases HN7.out b hb with h' | h'
          · exact HOQ.out b h'
          · right; have := HC.out.size; omega
        · refine ⟨HC7.out.os.trans (HBV5.out.os.trans HC.out.os), HC7.out.tape.trans (HBV5.out.tape.trans HC.out.tape), HC7.out.output.trans (HBV5.out.output.trans HC.out.output), by have := HC.out.size; have := HC7.out.size; omega, fun b hb hn => ?_⟩
          refine (HC7.out.block b (by have := HC.out.size; omega) (fun h' => ?_)).trans ((HBV5.out.block b (by have := HC.out.size; omega)).trans (HC.out.block b hb hn))
          rcases h' with h' | h'
          · exact hn (.inl h')
          · rcases HOQ.out b h' with h2 | h2
            · exact hn (.inr h2)
            · omega
    · have b1 : decide ((i : Int) < (n : Int)) = false := by simp; omega
      obtain rfl : i = n := by omega
      go_wp2
      all_goals go_end0
      all_goals refine ⟨rfl, ?_, HC.out⟩
      all_goals
        have h' := HMR.out
        rw [List.take_of_length_le (by have := HL.out; omega)] at h'
        exact h'
end Go.Proofs.Ytnecakampgdhcaa
