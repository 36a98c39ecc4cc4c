/- HELPERS: one more tree is built and put behind the others. -/
import Derived.Test.YtdidopgenhpakaaGa
namespace Go.Proofs.Ytdidopgenhpakaa
open Go.RowKit
set_option linter.unusedVariables false
set_option linter.unusedSimpArgs false
abbrev Zn : Nv := ⟨0, none, 0, 0, 0, none, 0, 0, 0, 0, false, 0, ⟨#[]⟩⟩
abbrev litO : Obj := .cells #[.int .i64 0, .slice none 0 0, .int .i64 0, .slice none 0 0, .int .i64 0, .int .i64 0, .bool false, .int .i64 0, .string ⟨#[]⟩] 25
theorem lit_cells {W : World} {p : Nat} (h : W.heap[p]? = some litO) : ∀ j u, (Nv.cs Zn)[j]? = some u → W.cell? ((⟨p, 0, none⟩ : Addr).add j) = some u := fun j u hj => by
  rw [Addr.add_mid, Nat.zero_add, Joins.cell_of_block h j]
  simpa using hj
/-- what building a form does -/
def BP (s : Tn) (g : Nat) (W : World) : Prop := Calls Try.prog 32 #[pt g] W fun e w' => ∃ M AA, e = .returned (Nv.v M) ∧ TO w' M s AA ∧ (∀ c, AA c → W.heap.size ≤ c) ∧ Below W.heap.size W w'
theorem row_some {w : World} {base e s n : Nat} {v : Value} {xs : List Value} (h : w.ownsRow base e s v (n + 1) xs) : ∃ g c, v = .slice (some ⟨g, 0, none⟩) (n + 1) c := by
  rcases h.2 with ⟨_, h0⟩ | ⟨g, cap, cur, h1, _⟩
  · omega
  · exact ⟨g, cap, h1⟩
theorem moved_ne {w w' : World} {v : Value} {g n c b : Nat} (h : Moved w w' v (.slice (some ⟨g, 0, none⟩) n c)) (hb : b < w.heap.size) (hn : v.ownBlock ≠ some b) : g ≠ b := fun e => by
  subst e
  rcases h with ⟨h0, _⟩ | ⟨h0, _⟩
  · exact hn (h0.symm.trans rfl)
  · have : some g = some w.heap.size := h0
    simp at this
    omega
theorem last9 {x g5 n c5 : Nat} {w5 : World} {xs : List Value} (ho : w5.ownsRow x 25 9 (.slice (some ⟨g5, 0, none⟩) (n + 1) c5) (n + 1) (xs ++ Nv.cs Zn)) (hxs : xs.length = n * 9) :
    (w5.cell? ⟨g5, n * 9, none⟩ = some (.int .i64 0) ∧ w5.cell? ⟨g5, n * 9 + 1, none⟩ = some (.slice none 0 0) ∧ w5.cell? ⟨g5, n * 9 + 2, none⟩ = some (.int .i64 0) ∧ w5.cell? ⟨g5, n * 9 + 3, none⟩ = some (.slice none 0 0) ∧ w5.cell? ⟨g5, n * 9 + 4, none⟩ = some (.int .i64 0) ∧ w5.cell? ⟨g5, n * 9 + 5, none⟩ = some (.int .i64 0) ∧ w5.cell? ⟨g5, n * 9 + 6, none⟩ = some (.bool false) ∧ w5.cell? ⟨g5, n * 9 + 7, none⟩ = some (.int .i64 0) ∧ w5.cell? ⟨g5, n * 9 + 8, none⟩ = some (.string ⟨#[]⟩)) ∧ (w5.frozen? ⟨g5, n * 9, none⟩ = false ∧ w5.frozen? ⟨g5, n * 9 + 1, none⟩ = false ∧ w5.frozen? ⟨g5, n * 9 + 2, none⟩ = false ∧ w5.frozen? ⟨g5, n * 9 + 3, none⟩ = false ∧ w5.frozen? ⟨g5, n * 9 + 4, none⟩ = false ∧ w5.frozen? ⟨g5, n * 9 + 5, none⟩ = false ∧ w5.frozen? ⟨g5, n * 9 + 6, none⟩ = false ∧ w5.frozen? ⟨g5, n * 9 + 7, none⟩ = false ∧ w5.frozen? ⟨g5, n * 9 + 8, none⟩ = false) := by
  have hc : ∀ j, j < 9 → w5.cell? ⟨g5, n * 9 + j, none⟩ = (Nv.cs Zn)[j]? := fun j hj => by
    rw [ho.cellAt (n * 9 + j) (by omega), List.getElem?_append_right (by omega), hxs, show n * 9 + j - n * 9 = j by omega]
  have hf : ∀ j, w5.frozen? ⟨g5, j, none⟩ = false := fun j => by
    rcases ho.2 with ⟨h, _⟩ | ⟨g', cap', cur, he, hb, hgg, h1, h2, h3, h4⟩
    · cases h
    · simp only [Value.slice.injEq, Option.some.injEq, Addr.mk.injEq] at he
      obtain ⟨⟨rfl, _⟩, _, rfl⟩ := he
      exact Joins.unfrozen_of_block hgg _
  exact ⟨⟨hc 0 (by omega), hc 1 (by omega), hc 2 (by omega), hc 3 (by omega), hc 4 (by omega), hc 5 (by omega), hc 6 (by omega), hc 7 (by omega), hc 8 (by omega)⟩, ⟨hf _, hf _, hf _, hf _, hf _, hf _, hf _, hf _, hf _⟩⟩
abbrev set9 (W : World) (g q : Nat) (M : Nv) : World := (((((((((W.setCell ⟨g, q, none⟩ (.int .i64 M.k)).setCell ⟨g, q + 1, none⟩ (.slice M.r1 M.r2 M.r3)).setCell ⟨g, q + 2, none⟩ (.int .i64 M.a2)).setCell ⟨g, q + 3, none⟩ (.slice M.s1 M.s2 M.s3)).setCell ⟨g, q + 4, none⟩ (.int .i64 M.a4)).setCell ⟨g, q + 5, none⟩ (.int .i64 M.a5)).setCell ⟨g, q + 6, none⟩ (.bool M.a6)).setCell ⟨g, q + 7, none⟩ (.int .i64 M.a7)).setCell ⟨g, q + 8, none⟩ (.string M.a8))
theorem set9_eq (W : World) (g q : Nat) (M : Nv) : set9 W g q M = W.setCells g q (Nv.cs M) := rfl
/-- what the end of the region leaves -/
def FinU (x b g5 n c5 : Nat) (w5 U : World) (xs : List Value) (M : Nv) : Prop := Bx U b 23 (.slice (some ⟨g5, 0, none⟩) (n + 1) c5) ∧ U.ownsRow x 25 9 (.slice (some ⟨g5, 0, none⟩) (n + 1) c5) (n + 1) (xs ++ Nv.cs M) ∧ (∀ c, c ≠ b → c ≠ g5 → U.heap[c]? = w5.heap[c]?) ∧ ∀ B0 W0, Below B0 W0 w5 → B0 ≤ b → B0 ≤ g5 → Below B0 W0 U
theorem ro_tail {x b g5 n c5 : Nat} {w5 : World} {xs : List Value} {uv : Value} (ho : w5.ownsRow x 25 9 (.slice (some ⟨g5, 0, none⟩) (n + 1) c5) (n + 1) (xs ++ Nv.cs Zn)) (hb : Bx w5 b 23 uv) (hne : g5 ≠ b) (hxs : xs.length = n * 9) (M : Nv) :
    (w5.setCell ⟨b, 0, none⟩ (.slice (some ⟨g5, 0, none⟩) (n + 1) c5)).ownsRow x 25 9 (.slice (some ⟨g5, 0, none⟩) (n + 1) c5) (n + 1) (xs ++ Nv.cs Zn) ∧ (set9 w5 g5 (n * 9) M).cell? ⟨b, 0, none⟩ = some uv ∧ (set9 w5 g5 (n * 9) M).frozen? ⟨b, 0, none⟩ = false ∧
      FinU x b g5 n c5 w5 (set9 (w5.setCell ⟨b, 0, none⟩ (.slice (some ⟨g5, 0, none⟩) (n + 1) c5)) g5 (n * 9) M) xs M ∧ FinU x b g5 n c5 w5 ((set9 w5 g5 (n * 9) M).setCell ⟨b, 0, none⟩ (.slice (some ⟨g5, 0, none⟩) (n + 1) c5)) xs M := by
  rw [set9_eq, set9_eq]
  have hob : (Value.slice (some ⟨g5, 0, none⟩) (n + 1) c5).ownBlock ≠ some b := fun e => by simp [Value.ownBlock] at e; exact hne e
  have ho1 : (w5.setCell ⟨b, 0, none⟩ (.slice (some ⟨g5, 0, none⟩) (n + 1) c5)).ownsRow x 25 9 (.slice (some ⟨g5, 0, none⟩) (n + 1) c5) (n + 1) (xs ++ Nv.cs Zn) := row_kept ho fun c hc => Below.heap_setCell _ _ _ _ (fun e => hob (by simp only at e; rw [e] at hc; exact hc))
  have hb2 : Bx (w5.setCells g5 (n * 9) (Nv.cs M)) b 23 uv := (setCells_old g5 _ _ _ b (fun e => hne e.symm)).trans hb
  have e9 : (Nv.cs M).length = (Nv.cs Zn).length := rfl
  refine ⟨ho1, bx0 hb2, Joins.unfrozen_of_block hb2 0, ⟨?_, ?_, fun c h1 h2 => ?_, fun B0 W0 h h1 h2 => ?_⟩, ⟨?_, ?_, fun c h1 h2 => ?_, fun B0 W0 h h1 h2 => ?_⟩⟩
  · exact (setCells_old g5 _ _ _ b (fun e => hne e.symm)).trans (Joins.block_setCell (i := 0) hb _)
  · rw [← hxs]; exact row_last ho1 e9
  · exact (setCells_old g5 _ _ _ c h2).trans (Below.heap_setCell _ _ _ _ h1)
  · exact Below.setCells h2 _ _ _ _ (h.setCell (by exact h1) _)
  · exact Joins.block_setCell (i := 0) hb2 _
  · refine row_kept ?_ fun c hc => Below.heap_setCell _ _ _ _ (fun e => hob (by simp only at e; rw [e] at hc; exact hc))
    rw [← hxs]; exact row_last ho e9
  · exact (Below.heap_setCell _ _ _ _ h1).trans (setCells_old g5 _ _ _ c h2)
  · exact (Below.setCells h2 _ _ _ _ h).setCell (by exact h1) _
theorem do_fin {x b n g5 c5 uc : Nat} {w Wa w5 U : World} {ua : Option Addr} {us : List Tn} {MS : List Nv} {AS : Nat → Nat → Prop} {M : Nv} {s : Tn} {AA : Nat → Prop} (hn : n = MS.length) (h : RO x w b (.slice ua MS.length uc) MS us AS) (hx : x ≤ w.heap.size) (hW : Below w.heap.size w Wa) (hM : TO Wa M s AA) (hAA : ∀ c, AA c → w.heap.size ≤ c)
    (hm : Moved Wa w5 (.slice ua n uc) (.slice (some ⟨g5, 0, none⟩) (n + 1) c5)) (hU : FinU x b g5 n c5 w5 U (MS.flatMap Nv.cs) M) : ∃ uv', ROv x U b uv' (us ++ [s]) ∧ Chg w U (FB b (.slice ua MS.length uc)) (FB b uv') := by
  subst hn
  obtain ⟨u1, u2, u3, u4⟩ := hU
  have hv : ∀ k, (Value.slice ua MS.length uc).ownBlock = some k → x ≤ k := fun k hk => (h.row.lt k hk).1
  have hb5 := moved_below (hW.mono hx) (Nat.le_trans hx hW.size) hv hm
  have hg5 : x ≤ g5 := (u2.lt g5 rfl).1
  have hB := u4 _ _ hb5.1 h.xb hg5
  have hg : (Value.slice ua MS.length uc).ownBlock = some g5 ∨ Wa.heap.size ≤ g5 := by
    rcases hm with ⟨h0, _⟩ | ⟨h0, _⟩
    · left; rw [← h0]; rfl
    · right
      have : some g5 = some Wa.heap.size := h0
      simp at this
      omega
  refine ⟨_, ⟨MS ++ [M], _, h.next hW hM hAA hm u1 u2 (fun c h1 h2 => u3 c h1 (fun e => h2 (by rw [e]; rfl))) hx⟩, hB.os, hB.tape, hB.output, hB.size, fun k hk hn => ?_, fun k hk => ?_⟩
  · simp only [FB, List.mem_cons, Option.mem_toList, not_or] at hn
    have hs := hW.size
    refine (u3 k hn.1 (fun e => ?_)).trans ((moved_old' hm (by omega) hn.2).trans (hW.block k hk))
    rcases hg with hg | hg
    · exact hn.2 (by rw [e]; exact hg)
    · omega
  · simp only [FB, List.mem_cons, Option.mem_toList] at hk ⊢
    rcases hk with hk | hk
    · exact .inl (.inl hk)
    · have e : g5 = k := by have : some g5 = some k := hk; simpa using this
      rcases hg with hg | hg
      · exact .inl (.inr (by rw [← e]; exact hg))
      · right; have := hW.size; omega
set_option maxRecDepth 100000 in
set_option maxHeartbeats 8000000 in
theorem do49 {x b : Nat} {w : World} {uv : Value} {us : List Tn} (hR : ROv x w b uv us) (hx : x ≤ w.heap.size) (g : Nat) (s : Tn) (HP : ∀ W', Below w.heap.size w W' → BP s g W') (hn : us.length < 200000) :
    Calls Try.prog 49 #[pt g, pt b] w (EPost x b w uv (us ++ [s])) := by
  obtain ⟨MS, AS, h⟩ := hR
  obtain ⟨i0, hi0, hz0, hz1, hz2⟩ := info_parts info25
  obtain ⟨ua, uc, rfl, hnc, hcm⟩ := row_shape h.row
  have hbl : b < w.heap.size := (Array.getElem?_eq_some_iff.1 h.box).1
  have HROW : Hid (∀ W', Below w.heap.size w W' → W'.ownsRow x 25 9 (.slice ua MS.length uc) MS.length (MS.flatMap Nv.cs)) := fun W' hb => row_kept h.row fun c hc => hb.block c (h.row.lt c hc).2
  have hl := h.len
  obtain ⟨n, hnn⟩ : ∃ n, n = MS.length := ⟨_, rfl⟩
  rw [← hnn] at HROW hl
  have c0 := bx0 h.box
  rw [← hnn] at c0
  have HH := hid h
  have HPP := hid HP
  have HNN := hid hnn
  have HD := hid (below_drew w)
  have HLB : Hid (Below w.heap.size w (w.alloc litO).drew) := (Joins.below_alloc1 w _).trans (Joins.below_le (below_drew _) (by simp))
  have HLN : Hid ((w.alloc litO).drew.heap[w.heap.size]? = some litO) := heap_alloc_new w _
  have HBX : Hid (Bx w b 23 (.slice ua n uc)) := by rw [hnn]; exact h.box
  have HOB : Hid ((Value.slice ua n uc).ownBlock ≠ some b) := by rw [hnn]; exact h.out
  have HLS : Hid ((w.alloc litO).drew.heap.size = w.heap.size + 1) := by show (w.alloc litO).heap.size = _; simp
  have hn2 : n < 200000 := by omega
  have HL := hid hl
  have c0a : (w.alloc litO).cell? ⟨b, 0, none⟩ = some (.slice ua n uc) := bx0 ((heap_alloc_old w litO hbl).trans HBX.out)
  clear h HP hnn hnc hcm hl hn
  go_enter Try.func49, Try.ntmps49
  go_region_law (first | (refine step_call1 rfl 32 (.tmp 4) 55 rfl en32 ?_; refine (HPP.out _ (by first | exact HD.out | exact HLB.out)).mono ?_; rintro e w2 ⟨M, AA, rfl, hM, hAA, hb2⟩; refine ⟨_, rfl, ?_⟩; have hbb2 : Bx w2 b 23 (.slice ua n uc) := ((hb2.block b (by first | exact hbl | exact Nat.lt_of_lt_of_le hbl HLB.out.size)).trans (by first | exact HBX.out | exact (HLB.out.block b hbl).trans HBX.out)); have c2 := bx0 hbb2; have c2a := bx0 ((heap_alloc_old w2 litO (Array.getElem?_eq_some_iff.1 hbb2).1).trans hbb2); clear hbb2; have HM := hid hM; have HAW : Hid (∀ c, AA c → w.heap.size ≤ c) := (fun c hc => Nat.le_trans (by first | exact Nat.le_refl _ | exact HLB.out.size) (hAA c hc)); have HB2 := hid hb2; clear hM hAA hb2) | (refine step_append_moveN rfl (.tmp 3) (.tmp 7) 23 rfl x 25 i0 Z9 9 112 Try.underlying23 hi0 hz0 hz1 hz2 rfl (by decide) (.slice ua n uc) n (MS.flatMap Nv.cs) rfl (HROW.out _ (HD.out.trans (Joins.below_le (HB2.out.trans (Joins.below_le (Joins.below_alloc1 w2 _) HB2.out.size)) HD.out.size))) ⟨w2.heap.size, 0, none⟩ 1 1 (Nv.cs Zn) rfl rfl (by decide) (lit_cells (heap_alloc_new w2 _)) (one9 _) (by unfold maxLen; omega) (by omega) (Nat.le_trans hx (Nat.le_trans HB2.out.size (by simp))) ?_; intro v5 w5 ho5 hm5; obtain ⟨g5, c5, rfl⟩ := row_some ho5; have hb5 : Bx w5 b 23 (.slice ua n uc) := (moved_old' hm5 (Nat.lt_of_lt_of_le hbl (HD.out.trans (Joins.below_le (HB2.out.trans (Joins.below_le (Joins.below_alloc1 w2 litO) HB2.out.size)) HD.out.size)).size) HOB.out).trans (((HD.out.trans (Joins.below_le (HB2.out.trans (Joins.below_le (Joins.below_alloc1 w2 litO) HB2.out.size)) HD.out.size)).block b hbl).trans HBX.out); have hne5 : g5 ≠ b := moved_ne hm5 (Nat.lt_of_lt_of_le hbl (HD.out.trans (Joins.below_le (HB2.out.trans (Joins.below_le (Joins.below_alloc1 w2 litO) HB2.out.size)) HD.out.size)).size) HOB.out; have HWB := hid (HD.out.trans (Joins.below_le (HB2.out.trans (Joins.below_le (Joins.below_alloc1 w2 litO) HB2.out.size)) HD.out.size)); have HTM : Hid (TO (w2.alloc litO) M s AA) := HM.out.kept (fun c hc => heap_alloc_old w2 litO (HM.out.low c hc)); have hnl : (n : Int) < (n : Int) + 1 := (by omega); obtain ⟨y1, y3, y4, y5, y6⟩ := ro_tail ho5 hb5 hne5 (by rw [flat9_len, HNN.out]) M; obtain ⟨⟨p0, p1, p2, p3, p4, p5, p6, p7, p8⟩, ⟨r0, r1, r2, r3, r4, r5, r6, r7, r8⟩⟩ := last9 ho5 (by rw [flat9_len, HNN.out]); obtain ⟨⟨s0, s1, s2, s3, s4, s5, s6, s7, s8⟩, ⟨t0, t1, t2, t3, t4, t5, t6, t7, t8⟩⟩ := last9 y1 (by rw [flat9_len, HNN.out]); have cb5 := bx0 hb5; have f5 := Joins.unfrozen_of_block hb5 0; have Y5 := hid y5; have Y6 := hid y6; have HM5 := hid hm5; have HO5 := hid ho5; clear y1 y5 y6 hm5 ho5 hb5) | (refine step_append_moveN rfl (.tmp 3) (.tmp 7) 23 rfl x 25 i0 Z9 9 112 Try.underlying23 hi0 hz0 hz1 hz2 rfl (by decide) (.slice ua n uc) n (MS.flatMap Nv.cs) rfl (HROW.out _ (HLB.out.trans (Joins.below_le HB2.out HLB.out.size))) ⟨w.heap.size, 0, none⟩ 1 1 (Nv.cs Zn) rfl rfl (by decide) (lit_cells ((HB2.out.block w.heap.size (by rw [HLS.out]; omega)).trans HLN.out)) (one9 _) (by unfold maxLen; omega) (by omega) (Nat.le_trans hx (Nat.le_trans HLB.out.size HB2.out.size)) ?_; intro v5 w5 ho5 hm5; obtain ⟨g5, c5, rfl⟩ := row_some ho5; have hb5 : Bx w5 b 23 (.slice ua n uc) := (moved_old' hm5 (Nat.lt_of_lt_of_le hbl (HLB.out.trans (Joins.below_le HB2.out HLB.out.size)).size) HOB.out).trans (((HLB.out.trans (Joins.below_le HB2.out HLB.out.size)).block b hbl).trans HBX.out); have hne5 : g5 ≠ b := moved_ne hm5 (Nat.lt_of_lt_of_le hbl (HLB.out.trans (Joins.below_le HB2.out HLB.out.size)).size) HOB.out; have HWB := hid (HLB.out.trans (Joins.below_le HB2.out HLB.out.size)); have HTM := hid HM.out; have hnl : (n : Int) < (n : Int) + 1 := (by omega); obtain ⟨y1, y3, y4, y5, y6⟩ := ro_tail ho5 hb5 hne5 (by rw [flat9_len, HNN.out]) M; obtain ⟨⟨p0, p1, p2, p3, p4, p5, p6, p7, p8⟩, ⟨r0, r1, r2, r3, r4, r5, r6, r7, r8⟩⟩ := last9 ho5 (by rw [flat9_len, HNN.out]); obtain ⟨⟨s0, s1, s2, s3, s4, s5, s6, s7, s8⟩, ⟨t0, t1, t2, t3, t4, t5, t6, t7, t8⟩⟩ := last9 y1 (by rw [flat9_len, HNN.out]); have cb5 := bx0 hb5; have f5 := Joins.unfrozen_of_block hb5 0; have Y5 := hid y5; have Y6 := hid y6; have HM5 := hid hm5; have HO5 := hid ho5; clear y1 y5 y6 hm5 ho5 hb5))
  all_goals go_end0
  all_goals refine ⟨rfl, do_fin HNN.out HH.out hx HWB.out HTM.out HAW.out HM5.out ?_⟩
  all_goals first | with_reducible exact Y5.out | with_reducible exact Y6.out
end Go.Proofs.Ytdidopgenhpakaa
