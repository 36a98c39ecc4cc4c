/- HELPERS: Ue. -/
import Derived.Test.YtnpocciioedgpaaK12
import Derived.Deep.RegionHeld2
/- HELPERS: a tree unfolded, in memory. -/
namespace Go.Proofs.Ytnpocciioedgpaa
open Go.RowKit
set_option linter.unusedVariables false
set_option linter.unusedSimpArgs false
/-- such a row later, more blocks being trees' -/
theorem RowN.grow {base B : Nat} {w w' : World} {uv : Value} {MS : List Nv} {us : List Tn} {A A' : Nat → Prop} (h : RowN base B w uv MS us A) (hb : Below w.heap.size w w') (hA : ∀ b, A b → A' b) (hlow : ∀ b, A' b → b < w'.heap.size) (hout : ∀ b, uv.ownBlock = some b → ¬ A' b) : RowN base B w' uv MS us A' :=
  ⟨row_kept h.row (fun b hb' => hb.block b (h.row.lt b hb').2), h.len, fun j h1 h2 => (h.tp j h1 h2).kept (fun b hb' => hb.block b (h.low b hb')) hA, fun b hb' => hA b (h.inA b hb'), hlow, hout⟩
/-- two nodes in a new block -/
theorem RowN.two {B : Nat} {w : World} {M M' : Nv} {x x' : Tn} {A : Nat → Prop} (h : TP w A M x) (h' : TP w A M' x') (hin : ∀ b, b < B → A b) (hlow : ∀ b, A b → b < w.heap.size) : RowN w.heap.size B (w.alloc (.cells #[.int .i64 M.k, .slice M.r1 M.r2 M.r3, .int .i64 M.a2, .slice M.s1 M.s2 M.s3, .int .i64 M.a4, .int .i64 M.a5, .bool M.a6, .int .i64 M.a7, .string M.a8, .int .i64 M'.k, .slice M'.r1 M'.r2 M'.r3, .int .i64 M'.a2, .slice M'.s1 M'.s2 M'.s3, .int .i64 M'.a4, .int .i64 M'.a5, .bool M'.a6, .int .i64 M'.a7, .string M'.a8] 28)) (.slice (some ⟨w.heap.size, 0, none⟩) 2 2) [M, M'] [x, x'] A := by
  have hn := heap_alloc_new w (.cells #[.int .i64 M.k, .slice M.r1 M.r2 M.r3, .int .i64 M.a2, .slice M.s1 M.s2 M.s3, .int .i64 M.a4, .int .i64 M.a5, .bool M.a6, .int .i64 M.a7, .string M.a8, .int .i64 M'.k, .slice M'.r1 M'.r2 M'.r3, .int .i64 M'.a2, .slice M'.s1 M'.s2 M'.s3, .int .i64 M'.a4, .int .i64 M'.a5, .bool M'.a6, .int .i64 M'.a7, .string M'.a8] 28)
  refine ⟨⟨by simp, .inr ⟨w.heap.size, 2, _, rfl, Nat.le_refl _, hn, by simp, by simp [maxLen], by simp, by simp⟩⟩, rfl, fun j h1 h2 => ?_, hin, fun b hb => by have := hlow b hb; simp; omega, fun b hb hA => by have := hlow b hA; simp [Value.ownBlock] at hb; omega⟩
  have hk : ∀ b, A b → (w.alloc (.cells #[.int .i64 M.k, .slice M.r1 M.r2 M.r3, .int .i64 M.a2, .slice M.s1 M.s2 M.s3, .int .i64 M.a4, .int .i64 M.a5, .bool M.a6, .int .i64 M.a7, .string M.a8, .int .i64 M'.k, .slice M'.r1 M'.r2 M'.r3, .int .i64 M'.a2, .slice M'.s1 M'.s2 M'.s3, .int .i64 M'.a4, .int .i64 M'.a5, .bool M'.a6, .int .i64 M'.a7, .string M'.a8] 28)).heap[b]? = w.heap[b]? := fun b hb => heap_alloc_old w _ (hlow b hb)
  match j, h1 with
  | 0, _ => exact h.kept hk (fun _ h => h)
  | 1, _ => exact h'.kept hk (fun _ h => h)
/-- an append onto an own row leaves what is below -/
theorem below_moved {B : Nat} {w0 w w3 : World} {o : Obj} {v v' : Value} (hb : Below B w0 w) (hB : B ≤ w.heap.size) (hv : ∀ k, v.ownBlock = some k → B ≤ k) (hm : Moved (w.alloc o) w3 v v') : Below B w0 w3 ∧ w.heap.size ≤ w3.heap.size := by
  have hs3 : w.heap.size ≤ w3.heap.size := by rcases hm with ⟨_, h⟩ | ⟨_, h⟩ <;> (have := h.size; simp at this; omega)
  have hold : ∀ k, k < B → w3.heap[k]? = w.heap[k]? := fun k hk => by
    have hne : v.ownBlock ≠ some k := fun e => by have := hv k e; omega
    exact (moved_old' hm (by simp; omega) hne).trans (heap_alloc_old w _ (by omega))
  refine ⟨⟨?_, ?_, ?_, by have := hb.size; omega, fun k hk => (hold k hk).trans (hb.block k hk)⟩, hs3⟩
  · rcases hm with ⟨_, h⟩ | ⟨_, h⟩ <;> exact h.os.trans hb.os
  · rcases hm with ⟨_, h⟩ | ⟨_, h⟩ <;> exact h.tape.trans hb.tape
  · rcases hm with ⟨_, h⟩ | ⟨_, h⟩ <;> exact h.output.trans hb.output
theorem RowN.lenV {base B : Nat} {w : World} {a1 : Option Addr} {n cap : Nat} {MS : List Nv} {us : List Tn} {A : Nat → Prop} (h : RowN base B w (.slice a1 n cap) MS us A) : n = MS.length := by
  rcases h.row.2 with ⟨e, h0⟩ | ⟨g, cap, cur, e, _⟩
  · simp only [Value.slice.injEq] at e; omega
  · simp only [Value.slice.injEq] at e; exact e.2.1
/-- what may be left, in its box -/
def OptIs (A : Nat → Prop) (L ob : Nat) (w2 : World) (u : Tn) (W : World) : Prop := (∃ Mo : Nv, W.heap[ob]? = some (.cells #[.int .i64 Mo.k, .slice Mo.r1 Mo.r2 Mo.r3, .int .i64 Mo.a2, .slice Mo.s1 Mo.s2 Mo.s3, .int .i64 Mo.a4, .int .i64 Mo.a5, .bool Mo.a6, .int .i64 Mo.a7, .string Mo.a8] 28 (0, 0)) ∧ TP W (fun b => A b ∨ L ≤ b ∧ b < W.heap.size ∧ b ≠ ob) Mo u) ∧ Below ob w2 W ∧ ob < W.heap.size
theorem opt_done {A A6 : Nat → Prop} {L ob : Nat} {w2 w6 : World} {u : Tn} {Mo M4 : Nv} (hmo : w6.heap[ob]? = some (.cells #[.int .i64 Mo.k, .slice Mo.r1 Mo.r2 Mo.r3, .int .i64 Mo.a2, .slice Mo.s1 Mo.s2 Mo.s3, .int .i64 Mo.a4, .int .i64 Mo.a5, .bool Mo.a6, .int .i64 Mo.a7, .string Mo.a8] 28 (0, 0))) (hM4 : TP w6 A6 M4 u) (hA : ∀ b, A6 b → (A b ∨ L ≤ b ∧ b < w6.heap.size ∧ b ≠ ob) ∧ b ≠ ob) (hb : Below ob w2 w6) (hs : ob < w6.heap.size) :
    OptIs A L ob w2 u (((((((((w6.setCell ⟨ob, 0, none⟩ (.int .i64 M4.k)).setCell ⟨ob, 1, none⟩ (.slice M4.r1 M4.r2 M4.r3)).setCell ⟨ob, 2, none⟩ (.int .i64 M4.a2)).setCell ⟨ob, 3, none⟩ (.slice M4.s1 M4.s2 M4.s3)).setCell ⟨ob, 4, none⟩ (.int .i64 M4.a4)).setCell ⟨ob, 5, none⟩ (.int .i64 M4.a5)).setCell ⟨ob, 6, none⟩ (.bool M4.a6)).setCell ⟨ob, 7, none⟩ (.int .i64 M4.a7)).setCell ⟨ob, 8, none⟩ (.string M4.a8)) := by
  obtain ⟨y1, y2, y3, y4⟩ := nineSet w6 ob (.int .i64 M4.k) (.slice M4.r1 M4.r2 M4.r3) (.int .i64 M4.a2) (.slice M4.s1 M4.s2 M4.s3) (.int .i64 M4.a4) (.int .i64 M4.a5) (.bool M4.a6) (.int .i64 M4.a7) (.string M4.a8) hmo
  obtain ⟨Y, hY⟩ : ∃ Y, Y = (((((((((w6.setCell ⟨ob, 0, none⟩ (.int .i64 M4.k)).setCell ⟨ob, 1, none⟩ (.slice M4.r1 M4.r2 M4.r3)).setCell ⟨ob, 2, none⟩ (.int .i64 M4.a2)).setCell ⟨ob, 3, none⟩ (.slice M4.s1 M4.s2 M4.s3)).setCell ⟨ob, 4, none⟩ (.int .i64 M4.a4)).setCell ⟨ob, 5, none⟩ (.int .i64 M4.a5)).setCell ⟨ob, 6, none⟩ (.bool M4.a6)).setCell ⟨ob, 7, none⟩ (.int .i64 M4.a7)).setCell ⟨ob, 8, none⟩ (.string M4.a8)) := ⟨_, rfl⟩
  rw [← hY] at y1 y2 y3 y4 ⊢
  exact ⟨⟨M4, y1, hM4.kept (fun b hb' => y2 b (hA b hb').2) (fun b hb' => by rw [y3]; exact (hA b hb').1)⟩, y4 hb (Nat.le_refl _), by rw [y3]; exact hs⟩
set_option maxRecDepth 100000 in
set_option maxHeartbeats 16000000 in
theorem spread17 {w0 : World} {B : Nat} {N : Nv} {t : Tn} (h : TI w0 B N t) : t.fine = true → t.nodes ≤ 200000 → ∀ (w : World), B ≤ w.heap.size → (∀ b, b < B → w.heap[b]? = w0.heap[b]?) →
    Calls Try.prog 17 #[N.v] w fun e w' => ∃ M : Nv, e = .returned M.v ∧ TP w' (fun b => b < B ∨ w.heap.size ≤ b ∧ b < w'.heap.size) M t.spread ∧ Below w.heap.size w w' := by
  induction h with
  | @mk N R ts ND ok hr hR hRk hs hS hk ih =>
  intro hf hno w hB hw
  simp only [Tn.fine, Bool.and_eq_true] at hf
  simp only [Tn.nodes] at hno
  have FN := fine_node hf.1
  have hfg := fineL_get hf.2
  have IH : ∀ i (hi : i < ts.length) (w : World), B ≤ w.heap.size → (∀ b, b < B → w.heap[b]? = w0.heap[b]?) → Calls Try.prog 17 #[(ND i).v] w fun e w' => ∃ M : Nv, e = .returned M.v ∧ TP w' (fun b => b < B ∨ w.heap.size ≤ b ∧ b < w'.heap.size) M ts[i].spread ∧ Below w.heap.size w w' := fun i hi => ih i hi (hfg i hi) (by have := nodes_get ts i hi; omega)
  have hlen : ts.length ≤ 200000 := by have := nodes_ge ts; omega
  have hRw : ∀ w1 : World, (∀ b, b < B → w1.heap[b]? = w0.heap[b]?) → RP w1 (fun b => b < B) N.r1 R := fun w1 h1 => (show RP w0 (fun b => b < B) N.r1 R from hR).kept h1 (fun b hb => hb)
  have hok := ok
  have HRL0 := hid hr
  obtain ⟨k, r1, r2, r3, a2, s1, s2, s3, a4, a5, a6, a7, a8⟩ := N
  simp only at hs hS FN
  have HW := hid hw
  have HS := hid hS
  have HIH := hid IH
  have HL := hid hs
  have HRW := hid hRw
  have HFN := hid FN
  have hm2 : s2 ≤ 200000 := by omega
  obtain ⟨i0, hi0, hz0, hz1, hz2⟩ := info_parts info28
  have HOK := hid hok
  have HRL : Hid (r2 = R.length) := HRL0.out
  clear HRL0
  clear ok hr hR hk hS hw ih hs hf FN hfg IH hRw hno hlen hok
  obtain ⟨S, hSS⟩ : ∃ S, S = (Tn.mk k R a2 ts a4 a5 a6 a7 a8).spread := ⟨_, rfl⟩
  rw [← hSS]
  have HSS := hid hSS
  clear hSS
  go_enter Try.func17, Try.ntmps17
  go_wp2_with fail
  go_loopw [3, 4] (fun u y wq => ∃ (i : Nat) (u1 : Option Addr) (u3 : Nat), u = .slice u1 i u3 ∧ y = .int .i64 (i : Int) ∧ i ≤ s2 ∧ Hid (∃ MS A, RowN (w.heap.size + 1 + 1) B wq (.slice u1 i u3) MS ((ts.take i).map Tn.spread) A ∧ ∀ b, A b → b < B ∨ w.heap.size + 1 + 1 ≤ b) ∧ Hid (Below w.heap.size w wq) ∧ Hid (wq.heap[w.heap.size]? = some (.cells #[.int .i64 k, .slice r1 r2 r3, .int .i64 a2, .slice s1 s2 s3, .int .i64 a4, .int .i64 a5, .bool a6, .int .i64 a7, .string a8] 28 (0, 0))) ∧ Hid (wq.heap[w.heap.size + 1]? = some (.cells #[.int .i64 0, .slice none 0 0, .int .i64 0, .slice none 0 0, .int .i64 0, .int .i64 0, .bool false, .int .i64 0, .string ⟨#[]⟩] 28 (0, 0)))) (fun _ y _ => s2 - (intOf y).toNat)
  case atStart => exact ⟨0, none, 0, rfl, rfl, by omega, by exact ⟨[], _, RowN.nil _ B _ (by simp; omega), fun b hb => .inl hb⟩, below_two' w _ _, (heap_alloc_old _ _ (by simp)).trans (heap_alloc_new w _), two_new w _ _ _⟩
  case round =>
    obtain ⟨i, u1, u3, rfl, rfl, hi, HI, BK, BX, BY⟩ := hrel
    obtain ⟨o0, o1, o2, o3, o4, o5, o6, o7, o8⟩ := nine' BX.out
    by_cases hil : i < s2
    · have b1 : decide ((i : Int) < (s2 : Int)) = true := by simp; omega
      have b2 : (i : Int) < (s2 : Int) := by omega
      have hlt : i < ts.length := by rw [← HL.out]; exact hil
      obtain ⟨b, o, hs1, hb, hc⟩ := HS.out (by omega)
      subst hs1
      have hwk : ∀ b, b < B → wr.heap[b]? = w0.heap[b]? := fun b hb => (BK.out.block b (by omega)).trans (HW.out b hb)
      obtain ⟨n0, n1, n2, n3, n4, n5, n6, n7, n8⟩ := (hc i hlt).kept (hwk b hb)
      have HC := HIH.out i hlt wr (by have := BK.out.size; omega) hwk
      obtain ⟨MS, A, hRN, hA⟩ := HI.out
      obtain ⟨P, hP⟩ : ∃ P, P = ND i := ⟨_, rfl⟩
      rw [← hP] at HC n0 n1 n2 n3 n4 n5 n6 n7 n8
      have ad1 : IntKind.i64.wrap ((i : Int) + 1) = (i : Int) + 1 := by simp [IntKind.wrap, IntKind.bits, IntKind.signed]; omega
      have hml : MS.length = i := by have := hRN.len; simp at this; omega
      have HRN := hid hRN
      have HA := hid hA
      have HML := hid hml
      clear hP hwk hc hRN hA hml HI
      go_wp2_with (first | (go_at_call 17; (with_reducible refine HC.mono ?_); rintro e w2 ⟨M, rfl, hM, hb2⟩; have hrow2 : w2.ownsRow (w.heap.size + 1 + 1) 28 9 (.slice u1 i u3) i (MS.flatMap Nv.cs) := (by have h := row_kept HRN.out.row (fun b hb => hb2.block b (HRN.out.row.lt b hb).2); rw [HML.out] at h; exact h); have HR2 := hid hrow2; have HM := hid hM; have HB2 := hid hb2; have hs2' : w.heap.size + 1 + 1 ≤ w2.heap.size := (by have := hb2.size; have := (Array.getElem?_eq_some_iff.1 BY.out).1; omega); clear hrow2 hM hb2 HC) | (at_builtin; refine wpList_append_moveN rfl (.tmp 18) (.tmp 25) 26 rfl (w.heap.size + 1 + 1) 28 i0 Z9 9 112 Try.underlying26 hi0 hz0 hz1 hz2 rfl (by decide) (.slice u1 i u3) i (MS.flatMap Nv.cs) rfl (HR2.out.alloc _) ⟨w2.heap.size, 0, none⟩ 1 1 (Nv.cs M) rfl rfl (by decide) (news9 w2 M) (one9 M) (by unfold maxLen; omega) (by omega) (by simp; omega) ?_; intro v' w3 ho3 hm3; obtain ⟨vb, vc, rfl⟩ := Joins.ownsRow_form ho3.out (by omega)))
      have hold : ∀ k, k < w.heap.size + 1 + 1 → w3.heap[k]? = wr.heap[k]? := fun k hk => by
        have hyl := (Array.getElem?_eq_some_iff.1 BY.out).1
        have hne : (Value.slice u1 i u3).ownBlock ≠ some k := fun e => by have := (HRN.out.row.lt k e).1; omega
        exact (moved_old' hm3.out (by simp; omega) hne).trans ((heap_alloc_old w2 _ (by omega)).trans (HB2.out.block k (by omega)))
      have hs3 : w2.heap.size ≤ w3.heap.size := by rcases hm3.out with ⟨_, h⟩ | ⟨_, h⟩ <;> (have := h.size; simp at this; omega)
      have hbel : Below w.heap.size w w3 := by
        have hsz := BK.out.size
        have hsz2 := HB2.out.size
        refine ⟨?_, ?_, ?_, by omega, fun k hk => (hold k (by omega)).trans (BK.out.block k hk)⟩
        · rcases hm3.out with ⟨_, h⟩ | ⟨_, h⟩ <;> exact h.os.trans (HB2.out.os.trans BK.out.os)
        · rcases hm3.out with ⟨_, h⟩ | ⟨_, h⟩ <;> exact h.tape.trans (HB2.out.tape.trans BK.out.tape)
        · rcases hm3.out with ⟨_, h⟩ | ⟨_, h⟩ <;> exact h.output.trans (HB2.out.output.trans BK.out.output)
      have hnx := HRN.out.next (w' := wr) (Nat.le_refl _) (fun b hb => rfl) HB2.out HM.out _ (by rw [HML.out]; exact ho3.out) hm3.out
      have hex : ∃ MS A, RowN (w.heap.size + 1 + 1) B w3 (.slice (some ⟨vb, 0, none⟩) (i + 1) vc) MS ((ts.take (i + 1)).map Tn.spread) A ∧ ∀ b, A b → b < B ∨ w.heap.size + 1 + 1 ≤ b := by
        refine ⟨MS ++ [M], fun b => A b ∨ wr.heap.size ≤ b ∧ b < w2.heap.size, ?_, fun b hb => ?_⟩
        · rw [List.take_succ_eq_append_getElem hlt, List.map_append]
          exact hnx
        · rcases hb with hb | hb
          · exact HA.out b hb
          · right; have := (Array.getElem?_eq_some_iff.1 BY.out).1; omega
      exact ⟨⟨i + 1, _, _, rfl, by push_cast; rfl, by omega, hex, hbel, (hold _ (by omega)).trans BX.out, (hold _ (by omega)).trans BY.out⟩, by simp [intOf]; omega⟩
    · have b1 : decide ((i : Int) < (s2 : Int)) = false := by simp; omega
      obtain rfl : i = s2 := by omega
      have hyl := (Array.getElem?_eq_some_iff.1 BY.out).1
      by_cases k6 : k = 6
      · subst k6
        obtain ⟨q1', q2', q3', q4'⟩ := HFN.out.rep rfl
        obtain ⟨x0, rfl⟩ : ∃ t, ts = [t] := List.length_eq_one_iff.1 q1'
        have hi1 : i = 1 := HL.out
        subst hi1
        obtain ⟨MS, A, hRN, hA⟩ := HI.out
        simp only [List.take_succ_cons, List.take_zero, List.map_cons, List.map_nil] at hRN
        have hml : MS.length = 1 := by have := hRN.len; simpa using this
        obtain ⟨M, rfl⟩ : ∃ M, MS = [M] := List.length_eq_one_iff.1 hml
        obtain ⟨x, hx⟩ : ∃ x, x = x0.spread := ⟨_, rfl⟩
        rw [← hx] at hRN
        have HSX : Hid (S = sprN x a4 a5 a6) := by show _ = _; rw [HSS.out, hx]; simp [Tn.spread, spreadL]
        obtain ⟨rb, rcap, hf⟩ : ∃ b cap, Value.slice u1 1 u3 = .slice (some ⟨b, 0, none⟩) 1 cap := by
          have := Joins.ownsRow_forms hRN.row
          rcases this with ⟨e, h0⟩ | ⟨b, cap, e⟩
          · simp at h0
          · exact ⟨b, cap, e⟩
        simp only [Value.slice.injEq] at hf
        obtain ⟨hu1, _, hu3⟩ := hf
        subst hu1 hu3
        have hc0 := hRN.cells 0 (by simp)
        have htp := hRN.tp 0 (by simp) (by simp)
        simp only [List.getElem_cons_zero] at hc0 htp
        obtain ⟨n0', n1', n2', n3', n4', n5', n6', n7', n8'⟩ := hc0
        simp only [Nat.zero_mul, Nat.add_zero, Nat.zero_add] at n0' n1' n2' n3' n4' n5' n6' n7' n8'
        have hrbl : rb < wr.heap.size := (hRN.row.lt rb rfl).2
        have hAl : ∀ b, A b → (b < B ∨ w.heap.size + 1 + 1 ≤ b) ∧ b < wr.heap.size := fun b hb => ⟨hA b hb, hRN.low b hb⟩
        have hAi : ∀ b, b < B → A b := hRN.inA
        have HTP := hid htp
        have HAL := hid hAl
        have HAI := hid hAi
        clear htp hAl hAi hRN hA hml hx HI HSS HFN HIH HS HRW HOK HRL
        go_upto_region 10 with fail
        obtain ⟨X, hX⟩ : ∃ X, X = wr.alloc (.cells #[.int .i64 M.k, .slice M.r1 M.r2 M.r3, .int .i64 M.a2, .slice M.s1 M.s2 M.s3, .int .i64 M.a4, .int .i64 M.a5, .bool M.a6, .int .i64 M.a7, .string M.a8] 28) := ⟨_, rfl⟩
        rw [← hX]
        obtain ⟨xb, hxb⟩ : ∃ xb, xb = wr.heap.size := ⟨_, rfl⟩
        have hXb : Below wr.heap.size wr X := by rw [hX]; exact Joins.below_alloc1 wr _
        have hXs : X.heap.size = wr.heap.size + 1 := by rw [hX]; simp
        have hXn : X.heap[xb]? = some (.cells #[.int .i64 M.k, .slice M.r1 M.r2 M.r3, .int .i64 M.a2, .slice M.s1 M.s2 M.s3, .int .i64 M.a4, .int .i64 M.a5, .bool M.a6, .int .i64 M.a7, .string M.a8] 28 (0, 0)) := by rw [hX, hxb]; exact heap_alloc_new wr _
        rw [← hxb]
        have hG : ∀ W, Below X.heap.size X W → (W.cell? ⟨w.heap.size, 4, none⟩ = some (.int .i64 a4) ∧ W.cell? ⟨w.heap.size, 5, none⟩ = some (.int .i64 a5) ∧ W.cell? ⟨w.heap.size, 6, none⟩ = some (.bool a6)) ∧ (W.cell? ⟨xb, 0, none⟩ = some (.int .i64 M.k) ∧ W.cell? ⟨xb, 1, none⟩ = some (.slice M.r1 M.r2 M.r3) ∧ W.cell? ⟨xb, 2, none⟩ = some (.int .i64 M.a2) ∧ W.cell? ⟨xb, 3, none⟩ = some (.slice M.s1 M.s2 M.s3) ∧ W.cell? ⟨xb, 4, none⟩ = some (.int .i64 M.a4) ∧ W.cell? ⟨xb, 5, none⟩ = some (.int .i64 M.a5) ∧ W.cell? ⟨xb, 6, none⟩ = some (.bool M.a6) ∧ W.cell? ⟨xb, 7, none⟩ = some (.int .i64 M.a7) ∧ W.cell? ⟨xb, 8, none⟩ = some (.string M.a8)) ∧ W.heap[w.heap.size + 1]? = some (.cells #[.int .i64 0, .slice none 0 0, .int .i64 0, .slice none 0 0, .int .i64 0, .int .i64 0, .bool false, .int .i64 0, .string ⟨#[]⟩] 28 (0, 0)) ∧ TP W A M x ∧ Below w.heap.size w W ∧ X.heap.size ≤ W.heap.size := fun W hW => by
          have e1 : ∀ b, b < wr.heap.size → W.heap[b]? = wr.heap[b]? := fun b hb => (hW.block b (by omega)).trans (hXb.block b hb)
          have hbx := (e1 _ (by omega)).trans BX.out
          have h1 := (hW.block xb (by omega)).trans hXn
          exact ⟨⟨Joins.cell_of_block hbx 4, Joins.cell_of_block hbx 5, Joins.cell_of_block hbx 6⟩, nine' h1, (e1 _ (by omega)).trans BY.out, HTP.out.kept (fun b hb => e1 b (HAL.out b hb).2) (fun b hb => hb), BK.out.trans (Joins.below_le (hXb.trans (Joins.below_le hW (by omega))) (by omega)), hW.size⟩
        have hAX : ∀ b, A b → b < X.heap.size := fun b hb => by have := (HAL.out b hb).2; omega
        have hxs : w.heap.size + 1 + 1 ≤ X.heap.size := by omega
        have HG := hid hG
        have HAX := hid hAX
        have HB0 : Hid (Below X.heap.size X X) := Below.refl _ _
        obtain ⟨⟨o4', o5', o6'⟩, ⟨z0, z1, z2, z3, z4, z5, z6, z7, z8⟩, _⟩ := hG X HB0.out
        have HXS := hid hXs
        clear hX hXb hXn hxb hG hAX o0 o1 o2 o3 o4 o5 o6 o7 o8 n0' n1' n2' n3' n4' n5' n6' n7' n8' hXs
        by_cases c0 : a5 < 0
        · have d0 : decide (a5 < 0) = true := by simp; omega
          have ha5 : a5 = -1 := by omega
          by_cases c1 : a4 < 2
          · have d1 : decide (a4 < 2) = true := by simp; omega
            have hS : S = loopN x a4 (-1) a6 := by rw [HSX.out]; simp [sprN, c0, c1]
            have HS' := hid hS
            have HC := loop33 M x A a4 (-1) a6 X (HG.out X HB0.out).2.2.2.1 HAX.out ⟨by omega, by omega⟩ (by decide)
            clear hS HSX q4'
            go_wp2_with (first | (go_at_call 33; (with_reducible refine HC.mono ?_); rintro e w2 ⟨M2, rfl, hM2, hb2⟩; obtain ⟨_, _, by2, _, bw2, hs2w⟩ := HG.out w2 hb2; obtain ⟨g0, g1, g2, g3, g4, g5, g6, g7, g8⟩ := nine' by2; have f0 := Joins.unfrozen_of_block by2 0; have f1 := Joins.unfrozen_of_block by2 1; have f2 := Joins.unfrozen_of_block by2 2; have f3 := Joins.unfrozen_of_block by2 3; have f4 := Joins.unfrozen_of_block by2 4; have f5 := Joins.unfrozen_of_block by2 5; have f6 := Joins.unfrozen_of_block by2 6; have f7 := Joins.unfrozen_of_block by2 7; have f8 := Joins.unfrozen_of_block by2 8; have HM2 := hid hM2; have BY2 := hid by2; have BW2 := hid bw2; clear by2 bw2 hM2 hb2 HC o4' o5' o6'))
            rw [HS'.out]
            have hfa : ∀ b, (A b ∨ X.heap.size ≤ b ∧ b < w2.heap.size) → b < B ∨ (w.heap.size + 1 + 1 ≤ b ∧ b < w2.heap.size) := fun b hb => by
              rcases hb with hb | hb
              · rcases (HAL.out b hb).1 with h | h
                · exact .inl h
                · right; have := HAX.out b hb; omega
              · right; omega
            obtain ⟨y1, y2, y3, y4⟩ := nineSet w2 (w.heap.size + 1) (.int .i64 M2.k) (.slice M2.r1 M2.r2 M2.r3) (.int .i64 M2.a2) (.slice M2.s1 M2.s2 M2.s3) (.int .i64 M2.a4) (.int .i64 M2.a5) (.bool M2.a6) (.int .i64 M2.a7) (.string M2.a8) BY2.out
            obtain ⟨Y, hY⟩ : ∃ Y, Y = (((((((((w2.setCell ⟨w.heap.size + 1, 0, none⟩ (.int .i64 M2.k)).setCell ⟨w.heap.size + 1, 1, none⟩ (.slice M2.r1 M2.r2 M2.r3)).setCell ⟨w.heap.size + 1, 2, none⟩ (.int .i64 M2.a2)).setCell ⟨w.heap.size + 1, 3, none⟩ (.slice M2.s1 M2.s2 M2.s3)).setCell ⟨w.heap.size + 1, 4, none⟩ (.int .i64 M2.a4)).setCell ⟨w.heap.size + 1, 5, none⟩ (.int .i64 M2.a5)).setCell ⟨w.heap.size + 1, 6, none⟩ (.bool M2.a6)).setCell ⟨w.heap.size + 1, 7, none⟩ (.int .i64 M2.a7)).setCell ⟨w.heap.size + 1, 8, none⟩ (.string M2.a8)) := ⟨_, rfl⟩
            rw [← hY] at y1 y2 y3 y4
            have y4' := y4 BW2.out (by omega)
            rw [← hY]
            refine bodyPost_ret (results_cell_row rfl _ _ (w.heap.size + 1) 28 _ (0, 0) _ rfl y1 Try.underlying28 rfl (by kernel_rfl)) rfl ?_
            refine ⟨M2, rfl, HM2.out.kept (fun b hb => y2 b ?_) (fun b hb => ?_), y4'⟩
            · rcases hfa b hb with h | h <;> omega
            · rcases hfa b hb with h | h
              · exact .inl h
              · right; omega
          · have d1 : decide (a4 < 2) = false := by simp; omega
            have hS : S = rowN (List.replicate (a4 - 1).toNat x ++ [loopN x 1 (-1) a6]) := by rw [HSX.out]; simp [sprN, c0, c1]
            obtain ⟨C, hC⟩ : ∃ C : Nat, (C : Int) = a4 - 1 := ⟨(a4 - 1).toNat, by omega⟩
            have hCt : (a4 - 1).toNat = C := by omega
            rw [hCt] at hS
            have HS' := hid hS
            have HCC := hid hC
            have hCb : C ≤ 1000 := by omega
            clear hS HSX hC hCt q4' o4' o5' o6' z0 z1 z2 z3 z4 z5 z6 z7 z8
            obtain ⟨⟨o4', o5', o6'⟩, ⟨z0, z1, z2, z3, z4, z5, z6, z7, z8⟩, _⟩ := HG.out X HB0.out
            go_wp2_with fail
            go_loopw [6, 7] (fun u y wq => ∃ (c : Nat) (v1 : Option Addr) (v3 : Nat) (z : Int), u = .slice v1 c v3 ∧ y = .int .i64 z ∧ Hid (z = (c : Int) + 1) ∧ (0 ≤ z ∧ z ≤ 2000) ∧ c ≤ C ∧ Hid (RowN X.heap.size B wq (.slice v1 c v3) (List.replicate c M) (List.replicate c x) A) ∧ Hid (Below X.heap.size X wq)) (fun _ y _ => (a4 - intOf y).toNat)
            case atStart => exact ⟨0, none, 0, 1, rfl, rfl, by show _ = _; omega, by omega, by omega, by exact ⟨World.ownsRow_nil _ _ _ _, rfl, fun j h => by simp at h, HAI.out, HAX.out, fun b hb => by cases hb⟩, HB0⟩
            case round =>
              obtain ⟨c, v1, v3, z, rfl, rfl, HZ, hzb, hcC, HR, BX2⟩ := hrel
              obtain ⟨⟨o4', o5', o6'⟩, ⟨z0, z1, z2, z3, z4, z5, z6, z7, z8⟩, _, htpw, _, hsw⟩ := HG.out wr BX2.out
              have HTW := hid htpw
              clear htpw
              by_cases hc : c < C
              · have b3 : decide (z < a4) = true := by have := HZ.out; have := HCC.out; simp; omega
                have ad2 : IntKind.i64.wrap (z + 1) = z + 1 := by simp [IntKind.wrap, IntKind.bits, IntKind.signed]; omega
                have hrow : wr.ownsRow X.heap.size 28 9 (.slice v1 c v3) c ((List.replicate c M).flatMap Nv.cs) := by have h := HR.out.row; simpa using h
                have HROW := hid hrow
                clear hrow
                go_wp2_with (first | (at_builtin; refine wpList_append_moveN rfl (.tmp 59) (.tmp 61) 26 rfl X.heap.size 28 i0 Z9 9 112 Try.underlying26 hi0 hz0 hz1 hz2 rfl (by decide) (.slice v1 c v3) c ((List.replicate c M).flatMap Nv.cs) rfl (HROW.out.alloc _) ⟨wr.heap.size, 0, none⟩ 1 1 (Nv.cs M) rfl rfl (by decide) (news9 wr M) (one9 M) (by unfold maxLen; omega) (by omega) (by simp; omega) ?_; intro v' w3 ho3 hm3; obtain ⟨vb, vc, rfl⟩ := Joins.ownsRow_form ho3.out (by omega)))
                obtain ⟨hbw, hs3⟩ := below_moved BX2.out hsw (fun k hk => (HROW.out.lt k hk).1) hm3.out
                have hnx := HR.out.push HTW.out _ (by simpa using ho3.out) hm3.out
                rw [← List.replicate_succ', ← List.replicate_succ'] at hnx
                exact ⟨⟨c + 1, _, _, z + 1, rfl, rfl, by have := HZ.out; show _ = _; push_cast; omega, by have := HZ.out; have := HCC.out; omega, by omega, hnx, hbw⟩, by have := HZ.out; have := HCC.out; simp [intOf]; omega⟩
              · have b3 : decide (z < a4) = false := by have := HZ.out; have := HCC.out; simp; omega
                obtain rfl : c = C := by omega
                have HC := loop33 M x A 1 (-1) a6 wr HTW.out (fun b hb => by have := HAX.out b hb; omega) (by decide) (by decide)
                go_wp2_with (first | (go_at_call 33; (with_reducible refine HC.mono ?_); rintro e w2 ⟨M2, rfl, hM2, hb2⟩; have hRN2 := HR.out.grow hb2 (A' := fun b => A b ∨ wr.heap.size ≤ b ∧ b < w2.heap.size) (fun b hb => .inl hb) (fun b hb => (by have := hb2.size; rcases hb with hb | hb; have := HAX.out b hb; omega; omega)) (fun b hb hA' => (by rcases hA' with h | h; exact HR.out.out b hb h; have := (HR.out.row.lt b hb).2; omega)); have hrow2 : w2.ownsRow X.heap.size 28 9 (.slice v1 c v3) c ((List.replicate c M).flatMap Nv.cs) := (by have h := hRN2.row; simpa using h); have HR2 := hid hRN2; have HROW := hid hrow2; have HM2 := hid hM2; have BX3 : Hid (Below X.heap.size X w2) := BX2.out.trans (Joins.below_le hb2 hsw); have hs2x : X.heap.size ≤ w2.heap.size := BX3.out.size; clear hRN2 hrow2 hM2 hb2 HC) | (at_builtin; refine wpList_append_moveN rfl (.tmp 63) (.tmp 68) 26 rfl X.heap.size 28 i0 Z9 9 112 Try.underlying26 hi0 hz0 hz1 hz2 rfl (by decide) (.slice v1 c v3) c ((List.replicate c M).flatMap Nv.cs) rfl (HROW.out.alloc _) ⟨w2.heap.size, 0, none⟩ 1 1 (Nv.cs M2) rfl rfl (by decide) (news9 w2 M2) (one9 M2) (by unfold maxLen; omega) (by omega) (by simp; omega) ?_; intro v' w3 ho3 hm3; obtain ⟨vb, vc, rfl⟩ := Joins.ownsRow_form ho3.out (by omega); have hnx := HR2.out.push HM2.out _ (by simpa using ho3.out) hm3.out; have hbm := below_moved BX3.out hs2x (fun k hk => (HROW.out.lt k hk).1) hm3.out; have HC2 := row34 w3 _ _ _ _ _ _ hnx (by omega); have HNX := hid hnx; have BX4 := hid hbm.1; have hs3w : w2.heap.size ≤ w3.heap.size := hbm.2; clear hnx hbm ho3 hm3) | (go_at_call 34; (with_reducible refine HC2.mono ?_); rintro e w4 ⟨M4, rfl, hM4, hb4⟩; have hbx4 : Below X.heap.size X w4 := BX4.out.trans (Joins.below_le hb4 (by omega)); obtain ⟨_, _, by4, _, bw4, hs4w⟩ := HG.out w4 hbx4; obtain ⟨g0, g1, g2, g3, g4, g5, g6, g7, g8⟩ := nine' by4; have f0 := Joins.unfrozen_of_block by4 0; have f1 := Joins.unfrozen_of_block by4 1; have f2 := Joins.unfrozen_of_block by4 2; have f3 := Joins.unfrozen_of_block by4 3; have f4 := Joins.unfrozen_of_block by4 4; have f5 := Joins.unfrozen_of_block by4 5; have f6 := Joins.unfrozen_of_block by4 6; have f7 := Joins.unfrozen_of_block by4 7; have f8 := Joins.unfrozen_of_block by4 8; have HM4 := hid hM4; have BY4 := hid by4; have BW4 := hid bw4; have HS4 := hid hb4.size; clear by4 bw4 hM4 hb4 hbx4 HC2))
                rw [HS'.out]
                have hfa : ∀ b, ((A b ∨ wr.heap.size ≤ b ∧ b < w2.heap.size) ∨ (Value.slice (some ⟨vb, 0, none⟩) (c + 1) vc).ownBlock = some b) → b < B ∨ (w.heap.size + 1 + 1 ≤ b ∧ b < w4.heap.size) := fun b hb => by
                  have := HS4.out
                  rcases hb with (hb | hb) | hb
                  · rcases (HAL.out b hb).1 with h | h
                    · exact .inl h
                    · right; have := HAX.out b hb; omega
                  · right; omega
                  · right; have := HNX.out.row.lt b hb; omega
                obtain ⟨y1, y2, y3, y4⟩ := nineSet w4 (w.heap.size + 1) (.int .i64 M4.k) (.slice M4.r1 M4.r2 M4.r3) (.int .i64 M4.a2) (.slice M4.s1 M4.s2 M4.s3) (.int .i64 M4.a4) (.int .i64 M4.a5) (.bool M4.a6) (.int .i64 M4.a7) (.string M4.a8) BY4.out
                obtain ⟨Y, hY⟩ : ∃ Y, Y = (((((((((w4.setCell ⟨w.heap.size + 1, 0, none⟩ (.int .i64 M4.k)).setCell ⟨w.heap.size + 1, 1, none⟩ (.slice M4.r1 M4.r2 M4.r3)).setCell ⟨w.heap.size + 1, 2, none⟩ (.int .i64 M4.a2)).setCell ⟨w.heap.size + 1, 3, none⟩ (.slice M4.s1 M4.s2 M4.s3)).setCell ⟨w.heap.size + 1, 4, none⟩ (.int .i64 M4.a4)).setCell ⟨w.heap.size + 1, 5, none⟩ (.int .i64 M4.a5)).setCell ⟨w.heap.size + 1, 6, none⟩ (.bool M4.a6)).setCell ⟨w.heap.size + 1, 7, none⟩ (.int .i64 M4.a7)).setCell ⟨w.heap.size + 1, 8, none⟩ (.string M4.a8)) := ⟨_, rfl⟩
                rw [← hY] at y1 y2 y3 y4
                have y4' := y4 BW4.out (by omega)
                rw [← hY]
                refine bodyPost_ret (results_cell_row rfl _ _ (w.heap.size + 1) 28 _ (0, 0) _ rfl y1 Try.underlying28 rfl (by kernel_rfl)) rfl ?_
                refine ⟨M4, rfl, HM4.out.kept (fun b hb => y2 b ?_) (fun b hb => ?_), y4'⟩
                · rcases hfa b hb with h | h <;> omega
                · rcases hfa b hb with h | h
                  · exact .inl h
                  · right; omega
        · have d0 : decide (a5 < 0) = false := by simp; omega
          have q5 : a4 ≤ a5 ∧ a5 ≤ 1000 := by omega
          obtain ⟨C, hC⟩ : ∃ C : Nat, (C : Int) = a4 := ⟨a4.toNat, by omega⟩
          have hS0 : S = rowN (List.replicate C x ++ if a4 < a5 then [optN x a6 (a5 - a4 - 1).toNat] else []) := by rw [HSX.out]; simp only [sprN, c0, if_false]; rw [show a4.toNat = C by omega]
          have HS0 := hid hS0
          have HCC := hid hC
          have hCb : C ≤ 1000 := by omega
          clear hS0 HSX hC q4' o4' o5' o6' z0 z1 z2 z3 z4 z5 z6 z7 z8
          obtain ⟨⟨o4', o5', o6'⟩, ⟨z0, z1, z2, z3, z4, z5, z6, z7, z8⟩, _⟩ := HG.out X HB0.out
          go_wp2_with fail
          go_loopw [6, 8] (fun u y wq => ∃ (c : Nat) (v1 : Option Addr) (v3 : Nat) (z : Int), u = .slice v1 c v3 ∧ y = .int .i64 z ∧ Hid (z = (c : Int) + 0) ∧ (0 ≤ z ∧ z ≤ 2000) ∧ c ≤ C ∧ Hid (RowN X.heap.size B wq (.slice v1 c v3) (List.replicate c M) (List.replicate c x) A) ∧ Hid (Below X.heap.size X wq)) (fun _ y _ => (a4 - intOf y).toNat)
          case atStart => exact ⟨0, none, 0, 0, rfl, rfl, by show _ = _; omega, by omega, by omega, by exact ⟨World.ownsRow_nil _ _ _ _, rfl, fun j h => by simp at h, HAI.out, HAX.out, fun b hb => by cases hb⟩, HB0⟩
          case round =>
            obtain ⟨c, v1, v3, z, rfl, rfl, HZ, hzb, hcC, HR, BX2⟩ := hrel
            obtain ⟨⟨o4', o5', o6'⟩, ⟨z0, z1, z2, z3, z4, z5, z6, z7, z8⟩, _, htpw, _, hsw⟩ := HG.out wr BX2.out
            have HTW := hid htpw
            clear htpw
            by_cases hc : c < C
            · have b3 : decide (z < a4) = true := by have := HZ.out; have := HCC.out; simp; omega
              have ad2 : IntKind.i64.wrap (z + 1) = z + 1 := by simp [IntKind.wrap, IntKind.bits, IntKind.signed]; omega
              have hrow : wr.ownsRow X.heap.size 28 9 (.slice v1 c v3) c ((List.replicate c M).flatMap Nv.cs) := by have h := HR.out.row; simpa using h
              have HROW := hid hrow
              clear hrow
              go_wp2_with (first | (at_builtin; refine wpList_append_moveN rfl (.tmp 77) (.tmp 79) 26 rfl X.heap.size 28 i0 Z9 9 112 Try.underlying26 hi0 hz0 hz1 hz2 rfl (by decide) (.slice v1 c v3) c ((List.replicate c M).flatMap Nv.cs) rfl (HROW.out.alloc _) ⟨wr.heap.size, 0, none⟩ 1 1 (Nv.cs M) rfl rfl (by decide) (news9 wr M) (one9 M) (by unfold maxLen; omega) (by omega) (by simp; omega) ?_; intro v' w3 ho3 hm3; obtain ⟨vb, vc, rfl⟩ := Joins.ownsRow_form ho3.out (by omega)))
              obtain ⟨hbw, hs3⟩ := below_moved BX2.out hsw (fun k hk => (HROW.out.lt k hk).1) hm3.out
              have hnx := HR.out.push HTW.out _ (by simpa using ho3.out) hm3.out
              rw [← List.replicate_succ', ← List.replicate_succ'] at hnx
              exact ⟨⟨c + 1, _, _, z + 1, rfl, rfl, by have := HZ.out; show _ = _; push_cast; omega, by have := HZ.out; have := HCC.out; omega, by omega, hnx, hbw⟩, by have := HZ.out; have := HCC.out; simp [intOf]; omega⟩
            · have b3 : decide (z < a4) = false := by have := HZ.out; have := HCC.out; simp; omega
              obtain rfl : c = C := by omega
              by_cases c2 : a4 < a5
              · have d2 : decide (a5 > a4) = true := by simp; omega
                have d2' : decide (a4 < a5) = true := by simp; omega
                obtain ⟨D, hD⟩ : ∃ D : Nat, (D : Int) = a5 - a4 - 1 := ⟨(a5 - a4 - 1).toNat, by omega⟩
                have hS : S = rowN (List.replicate c x ++ [optN x a6 D]) := by rw [HS0.out, if_pos c2, show (a5 - a4 - 1).toNat = D by omega]
                have HS' := hid hS
                have HDD := hid hD
                have ad4 : IntKind.i64.wrap (a4 + 1) = a4 + 1 := by simp [IntKind.wrap, IntKind.bits, IntKind.signed]; omega
                have HC := loop33 M x A 0 1 a6 wr HTW.out (fun b hb => by have := HAX.out b hb; omega) (by decide) (by decide)
                obtain ⟨WL, hWL⟩ : ∃ WL, WL = wr := ⟨_, rfl⟩
                subst hWL
                clear hS hD HS0
                go_upto_region 25 with (first | (go_at_call 33; (with_reducible refine HC.mono ?_); rintro e w2 ⟨M2, rfl, hM2, hb2⟩; have HM2 := hid hM2; have HB2 := hid hb2; have hs2w : WL.heap.size ≤ w2.heap.size := hb2.size; clear hM2 hb2 HC o4' o5' o6' z0 z1 z2 z3 z4 z5 z6 z7 z8))
                obtain ⟨Z, hZ⟩ : ∃ Z, Z = w2.alloc (.cells #[.int .i64 M2.k, .slice M2.r1 M2.r2 M2.r3, .int .i64 M2.a2, .slice M2.s1 M2.s2 M2.s3, .int .i64 M2.a4, .int .i64 M2.a5, .bool M2.a6, .int .i64 M2.a7, .string M2.a8] 28) := ⟨_, rfl⟩
                rw [← hZ]
                obtain ⟨ob, hob⟩ : ∃ ob, ob = w2.heap.size := ⟨_, rfl⟩
                rw [← hob]
                have hZb : Below w2.heap.size w2 Z := by rw [hZ]; exact Joins.below_alloc1 w2 _
                have hZs : Z.heap.size = w2.heap.size + 1 := by rw [hZ]; simp
                have hZn : Z.heap[ob]? = some (.cells #[.int .i64 M2.k, .slice M2.r1 M2.r2 M2.r3, .int .i64 M2.a2, .slice M2.s1 M2.s2 M2.s3, .int .i64 M2.a4, .int .i64 M2.a5, .bool M2.a6, .int .i64 M2.a7, .string M2.a8] 28 (0, 0)) := by rw [hZ, hob]; exact heap_alloc_new w2 _
                have HZN := hid hZn
                have HZB := hid hZb
                have HZS := hid hZs
                have HOB := hid hob
                have hobl : WL.heap.size ≤ ob := by omega
                have BXZ : Hid (Below X.heap.size X Z) := (BX2.out.trans (Joins.below_le HB2.out hsw)).trans (Joins.below_le hZb (by omega))
                obtain ⟨⟨o4', o5', o6'⟩, ⟨z0, z1, z2, z3, z4, z5, z6, z7, z8⟩, _⟩ := HG.out Z BXZ.out
                clear hZ hZb hZs hZn hob
                go_wp2_with fail
                go_loopw [10] (fun y wq => ∃ (d : Nat) (z : Int), y = .int .i64 z ∧ Hid (z = a4 + 1 + (d : Int)) ∧ (0 ≤ z ∧ z ≤ 2000) ∧ d ≤ D ∧ Hid (OptIs A WL.heap.size ob w2 (optN x a6 d) wq)) (fun y _ => (a5 - intOf y).toNat)
                case atStart => exact ⟨0, a4 + 1, rfl, by show _ = _; simp, by omega, by omega, by exact ⟨⟨M2, HZN.out, HM2.out.kept (fun b hb => HZB.out.block b (by rcases hb with hb | hb; have := HAX.out b hb; omega; omega)) (fun b hb => by rcases hb with hb | hb; exact .inl hb; right; have := HZS.out; have := HOB.out; omega)⟩, by rw [HOB.out]; exact HZB.out, by have := HZS.out; have := HOB.out; omega⟩⟩
                case round =>
                  obtain ⟨d, z, rfl, HZ1, hzb1, hdD, HMO⟩ := hrel
                  obtain ⟨⟨Mo, hmo, htpo⟩, hbo0, hosz⟩ := HMO.out
                  have HBO := hid hbo0
                  have hbl : Below X.heap.size X wr := (BX2.out.trans (Joins.below_le HB2.out hsw)).trans (Joins.below_le HBO.out (by omega))
                  have BXr := hid hbl
                  obtain ⟨⟨o4', o5', o6'⟩, ⟨z0, z1, z2, z3, z4, z5, z6, z7, z8⟩, by1, htx1, bw1, hsxr⟩ := HG.out wr hbl
                  obtain ⟨p0, p1, p2, p3, p4, p5, p6, p7, p8⟩ := nine' hmo
                  have HMOB := hid hmo
                  have HTPO := hid htpo
                  have HTX1 := hid htx1
                  have hAw : ∀ b, (A b ∨ WL.heap.size ≤ b ∧ b < wr.heap.size ∧ b ≠ ob) → b < wr.heap.size := fun b hb => by rcases hb with hb | hb; have := HAX.out b hb; omega; omega
                  have HAW := hid hAw
                  have hbxs : w.heap.size < wr.heap.size := by omega
                  clear hmo htpo htx1 by1 bw1 hAw hbl HMO hbo0
                  by_cases hd : d < D
                  · have b4 : decide (z < a5) = true := by have := HZ1.out; have := HDD.out; simp; omega
                    have ad5 : IntKind.i64.wrap (z + 1) = z + 1 := by simp [IntKind.wrap, IntKind.bits, IntKind.signed]; omega
                    have h2 := RowN.two (B := B) (w := wr.drew) (M := M) (M' := Mo) (x := x) (x' := optN x a6 d) (A := fun b => A b ∨ WL.heap.size ≤ b ∧ b < wr.heap.size ∧ b ≠ ob) (HTX1.out.kept (fun _ _ => rfl) (fun b hb => .inl hb)) (HTPO.out.kept (fun _ _ => rfl) (fun b hb => hb)) (fun b hb => .inl (HAI.out b hb)) HAW.out
                    have HC := (show Calls Try.prog 34 #[.slice (some ⟨wr.heap.size, 0, none⟩) 2 2] ((wr.alloc (.cells #[.int .i64 M.k, .slice M.r1 M.r2 M.r3, .int .i64 M.a2, .slice M.s1 M.s2 M.s3, .int .i64 M.a4, .int .i64 M.a5, .bool M.a6, .int .i64 M.a7, .string M.a8, .int .i64 Mo.k, .slice Mo.r1 Mo.r2 Mo.r3, .int .i64 Mo.a2, .slice Mo.s1 Mo.s2 Mo.s3, .int .i64 Mo.a4, .int .i64 Mo.a5, .bool Mo.a6, .int .i64 Mo.a7, .string Mo.a8] 28)).drew) _ from row34 _ _ _ _ _ _ _ h2 (by omega))
                    have hVb : Below wr.heap.size wr ((wr.alloc (.cells #[.int .i64 M.k, .slice M.r1 M.r2 M.r3, .int .i64 M.a2, .slice M.s1 M.s2 M.s3, .int .i64 M.a4, .int .i64 M.a5, .bool M.a6, .int .i64 M.a7, .string M.a8, .int .i64 Mo.k, .slice Mo.r1 Mo.r2 Mo.r3, .int .i64 Mo.a2, .slice Mo.s1 Mo.s2 Mo.s3, .int .i64 Mo.a4, .int .i64 Mo.a5, .bool Mo.a6, .int .i64 Mo.a7, .string Mo.a8] 28)).drew) := (Joins.below_alloc1 wr _).drew
                    have hVs : ((wr.alloc (.cells #[.int .i64 M.k, .slice M.r1 M.r2 M.r3, .int .i64 M.a2, .slice M.s1 M.s2 M.s3, .int .i64 M.a4, .int .i64 M.a5, .bool M.a6, .int .i64 M.a7, .string M.a8, .int .i64 Mo.k, .slice Mo.r1 Mo.r2 Mo.r3, .int .i64 Mo.a2, .slice Mo.s1 Mo.s2 Mo.s3, .int .i64 Mo.a4, .int .i64 Mo.a5, .bool Mo.a6, .int .i64 Mo.a7, .string Mo.a8] 28)).drew).heap.size = wr.heap.size + 1 := by simp
                    have HVB := hid hVb
                    have HVS := hid hVs
                    clear h2 hVb hVs
                    have hz1 : z + 1 = a4 + 1 + ((d + 1 : Nat) : Int) := by have := HZ1.out; push_cast; omega
                    have HZN1 := hid hz1
                    have hz2 : 0 ≤ z + 1 ∧ z + 1 ≤ 2000 := by have := HZ1.out; have := HDD.out; omega
                    have HZB1 := hid hz2
                    have hms : (a5 - intOf (Value.int .i64 (z + 1))).toNat < (a5 - intOf (Value.int .i64 z)).toNat := by have := HZ1.out; have := HDD.out; simp [intOf]; omega
                    have HMS := hid hms
                    clear hz1 hz2 hms
                    go_upto_region 28 with fail
                    go_region_with (first | (go_at_call 34; (with_reducible refine HC.mono ?_); rintro e w5 ⟨M3, rfl, hM3, hb5⟩; have hb5' : Below wr.heap.size wr w5 := HVB.out.trans (Joins.below_le hb5 (by rw [HVS.out]; omega)); have hs5 : wr.heap.size + 1 ≤ w5.heap.size := (by have := hb5.size; rw [HVS.out] at this; exact this); have o6'' := (HG.out w5 (BXr.out.trans (Joins.below_le hb5' (by omega)))).1.2.2; have HC2 := loop33 M3 (rowN [x, optN x a6 d]) _ 0 1 a6 w5 hM3 (fun b hb => (by rcases hb with hb | hb; have := HAW.out b hb; omega; simp [Value.ownBlock] at hb; have : b = wr.heap.size := hb.symm; omega)) (by decide) (by decide); have HB5 := hid hb5'; clear hM3 hb5 hb5' HC) | (go_at_call 33; (with_reducible refine HC2.mono ?_); rintro e w6 ⟨M4, rfl, hM4, hb6⟩; have hs6 : w5.heap.size ≤ w6.heap.size := hb6.size; have hmo6 := (hb6.block ob (by omega)).trans ((HB5.out.block ob hosz).trans HMOB.out); have hbo : Below ob w2 w6 := (HBO.out.trans (Joins.below_le HB5.out (by omega))).trans (Joins.below_le hb6 (by omega)); have HFIN := hid (opt_done (A := A) (L := WL.heap.size) hmo6 hM4 (fun b hb => (by rcases hb with (hb | hb) | hb; rcases hb with hb | hb; have := HAX.out b hb; exact ⟨.inl hb, by omega⟩; exact ⟨.inr ⟨hb.1, by omega, hb.2.2⟩, hb.2.2⟩; simp [Value.ownBlock] at hb; have : b = wr.heap.size := hb.symm; exact ⟨.inr ⟨by omega, by omega, by omega⟩, by omega⟩; exact ⟨.inr ⟨by omega, by omega, by omega⟩, by omega⟩)) hbo (by omega)); obtain ⟨g0, g1, g2, g3, g4, g5, g6, g7, g8⟩ := nine' hmo6; have f0 := Joins.unfrozen_of_block hmo6 0; have f1 := Joins.unfrozen_of_block hmo6 1; have f2 := Joins.unfrozen_of_block hmo6 2; have f3 := Joins.unfrozen_of_block hmo6 3; have f4 := Joins.unfrozen_of_block hmo6 4; have f5 := Joins.unfrozen_of_block hmo6 5; have f6 := Joins.unfrozen_of_block hmo6 6; have f7 := Joins.unfrozen_of_block hmo6 7; have f8 := Joins.unfrozen_of_block hmo6 8; clear hM4 hb6 hmo6 hbo HC2))
                    all_goals
                      go_wp2
                      exact ⟨⟨d + 1, z + 1, rfl, HZN1, HZB1.out, hd, HFIN⟩, HMS.out⟩
                  · have b4 : decide (z < a5) = false := by have := HZ1.out; have := HDD.out; simp; omega
                    obtain rfl : d = D := by omega
                    have hRN2 := HR.out.grow (w' := wr) (HB2.out.trans (Joins.below_le HBO.out (by omega))) (A' := fun b => A b ∨ WL.heap.size ≤ b ∧ b < wr.heap.size ∧ b ≠ ob) (fun b hb => .inl hb) HAW.out (fun b hb hA' => by rcases hA' with h | h; exact HR.out.out b hb h; have := (HR.out.row.lt b hb).2; omega)
                    have hrow2 : wr.ownsRow X.heap.size 28 9 (.slice v1 c v3) c ((List.replicate c M).flatMap Nv.cs) := by have h := hRN2.row; simpa using h
                    have HR2 := hid hRN2
                    have HROW := hid hrow2
                    clear hRN2 hrow2
                    go_wp2_with (first | (at_builtin; refine wpList_append_moveN rfl (.tmp 106) (.tmp 108) 26 rfl X.heap.size 28 i0 Z9 9 112 Try.underlying26 hi0 hz0 hz1 hz2 rfl (by decide) (.slice v1 c v3) c ((List.replicate c M).flatMap Nv.cs) rfl (HROW.out.alloc _) ⟨wr.heap.size, 0, none⟩ 1 1 (Nv.cs Mo) rfl rfl (by decide) (news9 wr Mo) (one9 Mo) (by unfold maxLen; omega) (by omega) (by simp; omega) ?_; intro v' w3 ho3 hm3; obtain ⟨vb, vc, rfl⟩ := Joins.ownsRow_form ho3.out (by omega); have hnx := HR2.out.push HTPO.out _ (by simpa using ho3.out) hm3.out; have hbm := below_moved BXr.out hsxr (fun k hk => (HROW.out.lt k hk).1) hm3.out; have HC2 := row34 w3 _ _ _ _ _ _ hnx (by omega); have HNX := hid hnx; have BX4 := hid hbm.1; have hs3w : wr.heap.size ≤ w3.heap.size := hbm.2; clear hnx hbm ho3 hm3) | (go_at_call 34; (with_reducible refine HC2.mono ?_); rintro e w4 ⟨M4, rfl, hM4, hb4⟩; have hbx4 : Below X.heap.size X w4 := BX4.out.trans (Joins.below_le hb4 (by omega)); obtain ⟨_, _, by4, _, bw4, hs4w⟩ := HG.out w4 hbx4; obtain ⟨g0, g1, g2, g3, g4, g5, g6, g7, g8⟩ := nine' by4; have f0 := Joins.unfrozen_of_block by4 0; have f1 := Joins.unfrozen_of_block by4 1; have f2 := Joins.unfrozen_of_block by4 2; have f3 := Joins.unfrozen_of_block by4 3; have f4 := Joins.unfrozen_of_block by4 4; have f5 := Joins.unfrozen_of_block by4 5; have f6 := Joins.unfrozen_of_block by4 6; have f7 := Joins.unfrozen_of_block by4 7; have f8 := Joins.unfrozen_of_block by4 8; have HM4 := hid hM4; have BY4 := hid by4; have BW4 := hid bw4; have HS4 := hid hb4.size; clear by4 bw4 hM4 hb4 hbx4 HC2))
                    rw [HS'.out]
                    have hfa : ∀ b, ((A b ∨ WL.heap.size ≤ b ∧ b < wr.heap.size ∧ b ≠ ob) ∨ (Value.slice (some ⟨vb, 0, none⟩) (c + 1) vc).ownBlock = some b) → b < B ∨ (w.heap.size + 1 + 1 ≤ b ∧ b < w4.heap.size) := fun b hb => by
                      have := HS4.out
                      rcases hb with (hb | hb) | hb
                      · rcases (HAL.out b hb).1 with h | h
                        · exact .inl h
                        · right; have := HAX.out b hb; omega
                      · right; omega
                      · right; have := HNX.out.row.lt b hb; omega
                    obtain ⟨y1, y2, y3, y4⟩ := nineSet w4 (w.heap.size + 1) (.int .i64 M4.k) (.slice M4.r1 M4.r2 M4.r3) (.int .i64 M4.a2) (.slice M4.s1 M4.s2 M4.s3) (.int .i64 M4.a4) (.int .i64 M4.a5) (.bool M4.a6) (.int .i64 M4.a7) (.string M4.a8) BY4.out
                    obtain ⟨Y, hY⟩ : ∃ Y, Y = (((((((((w4.setCell ⟨w.heap.size + 1, 0, none⟩ (.int .i64 M4.k)).setCell ⟨w.heap.size + 1, 1, none⟩ (.slice M4.r1 M4.r2 M4.r3)).setCell ⟨w.heap.size + 1, 2, none⟩ (.int .i64 M4.a2)).setCell ⟨w.heap.size + 1, 3, none⟩ (.slice M4.s1 M4.s2 M4.s3)).setCell ⟨w.heap.size + 1, 4, none⟩ (.int .i64 M4.a4)).setCell ⟨w.heap.size + 1, 5, none⟩ (.int .i64 M4.a5)).setCell ⟨w.heap.size + 1, 6, none⟩ (.bool M4.a6)).setCell ⟨w.heap.size + 1, 7, none⟩ (.int .i64 M4.a7)).setCell ⟨w.heap.size + 1, 8, none⟩ (.string M4.a8)) := ⟨_, rfl⟩
                    rw [← hY] at y1 y2 y3 y4
                    have y4' := y4 BW4.out (by omega)
                    rw [← hY]
                    refine bodyPost_ret (results_cell_row rfl _ _ (w.heap.size + 1) 28 _ (0, 0) _ rfl y1 Try.underlying28 rfl (by kernel_rfl)) rfl ?_
                    refine ⟨M4, rfl, HM4.out.kept (fun b hb => y2 b ?_) (fun b hb => ?_), y4'⟩
                    · rcases hfa b hb with h | h <;> omega
                    · rcases hfa b hb with h | h
                      · exact .inl h
                      · right; omega
              · have d2 : decide (a5 > a4) = false := by simp; omega
                have d2' : decide (a4 < a5) = false := by simp; omega
                have hS : S = rowN (List.replicate c x) := by rw [HS0.out, if_neg c2, List.append_nil]
                have HS' := hid hS
                have HC2 := row34 wr _ _ _ _ _ _ HR.out (by omega)
                clear hS HS0
                go_wp2_with (first | (go_at_call 34; (with_reducible refine HC2.mono ?_); rintro e w4 ⟨M4, rfl, hM4, hb4⟩; have hbx4 : Below X.heap.size X w4 := BX2.out.trans (Joins.below_le hb4 (by omega)); obtain ⟨_, _, by4, _, bw4, hs4w⟩ := HG.out w4 hbx4; obtain ⟨g0, g1, g2, g3, g4, g5, g6, g7, g8⟩ := nine' by4; have f0 := Joins.unfrozen_of_block by4 0; have f1 := Joins.unfrozen_of_block by4 1; have f2 := Joins.unfrozen_of_block by4 2; have f3 := Joins.unfrozen_of_block by4 3; have f4 := Joins.unfrozen_of_block by4 4; have f5 := Joins.unfrozen_of_block by4 5; have f6 := Joins.unfrozen_of_block by4 6; have f7 := Joins.unfrozen_of_block by4 7; have f8 := Joins.unfrozen_of_block by4 8; have HM4 := hid hM4; have BY4 := hid by4; have BW4 := hid bw4; have HS4 := hid hb4.size; clear by4 bw4 hM4 hb4 hbx4 HC2))
                rw [HS'.out]
                have hfa : ∀ b, (A b ∨ (Value.slice v1 c v3).ownBlock = some b) → b < B ∨ (w.heap.size + 1 + 1 ≤ b ∧ b < w4.heap.size) := fun b hb => by
                  have := HS4.out
                  rcases hb with hb | hb
                  · rcases (HAL.out b hb).1 with h | h
                    · exact .inl h
                    · right; have := HAX.out b hb; omega
                  · right; have := HR.out.row.lt b hb; omega
                obtain ⟨y1, y2, y3, y4⟩ := nineSet w4 (w.heap.size + 1) (.int .i64 M4.k) (.slice M4.r1 M4.r2 M4.r3) (.int .i64 M4.a2) (.slice M4.s1 M4.s2 M4.s3) (.int .i64 M4.a4) (.int .i64 M4.a5) (.bool M4.a6) (.int .i64 M4.a7) (.string M4.a8) BY4.out
                obtain ⟨Y, hY⟩ : ∃ Y, Y = (((((((((w4.setCell ⟨w.heap.size + 1, 0, none⟩ (.int .i64 M4.k)).setCell ⟨w.heap.size + 1, 1, none⟩ (.slice M4.r1 M4.r2 M4.r3)).setCell ⟨w.heap.size + 1, 2, none⟩ (.int .i64 M4.a2)).setCell ⟨w.heap.size + 1, 3, none⟩ (.slice M4.s1 M4.s2 M4.s3)).setCell ⟨w.heap.size + 1, 4, none⟩ (.int .i64 M4.a4)).setCell ⟨w.heap.size + 1, 5, none⟩ (.int .i64 M4.a5)).setCell ⟨w.heap.size + 1, 6, none⟩ (.bool M4.a6)).setCell ⟨w.heap.size + 1, 7, none⟩ (.int .i64 M4.a7)).setCell ⟨w.heap.size + 1, 8, none⟩ (.string M4.a8)) := ⟨_, rfl⟩
                rw [← hY] at y1 y2 y3 y4
                have y4' := y4 BW4.out (by omega)
                rw [← hY]
                refine bodyPost_ret (results_cell_row rfl _ _ (w.heap.size + 1) 28 _ (0, 0) _ rfl y1 Try.underlying28 rfl (by kernel_rfl)) rfl ?_
                refine ⟨M4, rfl, HM4.out.kept (fun b hb => y2 b ?_) (fun b hb => ?_), y4'⟩
                · rcases hfa b hb with h | h <;> omega
                · rcases hfa b hb with h | h
                  · exact .inl h
                  · right; omega
      · have k6' : (k != 6) = true := by simpa using k6
        have e0 : (Tn.mk k R a2 ts a4 a5 a6 a7 a8).spread = .mk k R a2 (ts.map Tn.spread) a4 a5 a6 a7 a8 := by simp only [Tn.spread, k6, if_false, spreadL_map]
        have HE0 : Hid (S = .mk k R a2 (ts.map Tn.spread) a4 a5 a6 a7 a8) := HSS.out.trans e0
        clear e0
        obtain ⟨q0, q1, q2, q3, q4, q5, q6, q7, q8⟩ := nine' BY.out
        have fx3 := Joins.unfrozen_of_block BX.out 3
        have f0 := Joins.unfrozen_of_block BY.out 0
        have f1 := Joins.unfrozen_of_block BY.out 1
        have f2 := Joins.unfrozen_of_block BY.out 2
        have f3 := Joins.unfrozen_of_block BY.out 3
        have f4 := Joins.unfrozen_of_block BY.out 4
        have f5 := Joins.unfrozen_of_block BY.out 5
        have f6 := Joins.unfrozen_of_block BY.out 6
        have f7 := Joins.unfrozen_of_block BY.out 7
        have f8 := Joins.unfrozen_of_block BY.out 8
        go_wp2
        obtain ⟨X, hX⟩ : ∃ X, X = wr.setCell ⟨w.heap.size, 3, none⟩ (.slice u1 i u3) := ⟨_, rfl⟩
        rw [← hX]
        have hXo : ∀ k, k ≠ w.heap.size → X.heap[k]? = wr.heap[k]? := fun k hk => by rw [hX]; exact Below.heap_setCell _ _ _ _ hk
        have hXs : X.heap.size = wr.heap.size := by rw [hX]; simp [World.setCell]
        have hXb : Below w.heap.size w X := by rw [hX]; exact BK.out.setCell (by exact Nat.le_refl _) _
        obtain ⟨y1, y2, y3, y4⟩ := nineSet X (w.heap.size + 1) (.int .i64 k) (.slice r1 r2 r3) (.int .i64 a2) (.slice u1 i u3) (.int .i64 a4) (.int .i64 a5) (.bool a6) (.int .i64 a7) (.string a8) ((hXo _ (by omega)).trans BY.out)
        obtain ⟨Y, hY⟩ : ∃ Y, Y = (((((((((X.setCell ⟨w.heap.size + 1, 0, none⟩ (.int .i64 k)).setCell ⟨w.heap.size + 1, 1, none⟩ (.slice r1 r2 r3)).setCell ⟨w.heap.size + 1, 2, none⟩ (.int .i64 a2)).setCell ⟨w.heap.size + 1, 3, none⟩ (.slice u1 i u3)).setCell ⟨w.heap.size + 1, 4, none⟩ (.int .i64 a4)).setCell ⟨w.heap.size + 1, 5, none⟩ (.int .i64 a5)).setCell ⟨w.heap.size + 1, 6, none⟩ (.bool a6)).setCell ⟨w.heap.size + 1, 7, none⟩ (.int .i64 a7)).setCell ⟨w.heap.size + 1, 8, none⟩ (.string a8)) := ⟨_, rfl⟩
        rw [← hY] at y1 y2 y3 y4
        have y4' := y4 hXb (by omega)
        rw [← hY]
        refine bodyPost_ret (results_cell_row rfl _ _ (w.heap.size + 1) 28 _ (0, 0) _ rfl y1 Try.underlying28 rfl (by kernel_rfl)) rfl ?_
        obtain ⟨MS, A, hRN, hA⟩ := HI.out
        have htk : (ts.take i).map Tn.spread = ts.map Tn.spread := by rw [HL.out, List.take_length]
        rw [htk] at hRN
        have hwk : ∀ b, b < B → wr.heap[b]? = w0.heap[b]? := fun b hb => (BK.out.block b (by omega)).trans (HW.out b hb)
        rw [HE0.out]
        exact ⟨⟨k, r1, r2, r3, a2, u1, i, u3, a4, a5, a6, a7, a8⟩, rfl, fin23 hB (Nat.le_refl _) hRN hA HOK.out HRL.out (HRW.out wr hwk) hRk hXo y2 (y3.trans hXs), y4'⟩
end Go.Proofs.Ytnpocciioedgpaa
