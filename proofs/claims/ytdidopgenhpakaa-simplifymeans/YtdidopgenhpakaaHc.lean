/- HELPERS: how many nodes; is it simple? -/
import Derived.Test.YtdidopgenhpakaaHb
import Derived.Test.YtdidopgenhpakaaSc
namespace Go.Proofs.Ytdidopgenhpakaa
open Go.RowKit
set_option linter.unusedVariables false
set_option linter.unusedSimpArgs false
theorem nodesL_take (ts : List Tn) (i : Nat) (hi : i < ts.length) : nodesL (ts.take (i + 1)) = nodesL (ts.take i) + ts[i].nodes := by
  rw [List.take_succ_eq_append_getElem hi, nodesL_append]; simp [nodesL]
theorem nodesL_take_le (ts : List Tn) (i : Nat) : nodesL (ts.take i) ≤ nodesL ts := by
  have h : nodesL ts = nodesL (ts.take i) + nodesL (ts.drop i) := by rw [← nodesL_append, List.take_append_drop]
  omega
set_option maxRecDepth 100000 in
set_option maxHeartbeats 8000000 in
theorem nodes20 {w0 : World} {B : Nat} {N : Nv} {t : Tn} (h : TI w0 B N t) : t.nodes ≤ 200000 → ∀ (w : World), B ≤ w.heap.size → (∀ b, b < B → w.heap[b]? = w0.heap[b]?) →
    Calls Try.prog 20 #[N.v] w fun e w' => e = .returned (.int .i64 ((t.nodes : Nat) : Int)) ∧ Below w.heap.size w w' := by
  induction h with
  | @mk N R ts ND ok hr hR hRk hs hS hk ih =>
  intro hsm w hB hw
  have hnn : (Tn.mk N.k R N.a2 ts N.a4 N.a5 N.a6 N.a7 N.a8).nodes = 1 + nodesL ts := by simp only [Tn.nodes]
  rw [hnn] at hsm ⊢
  have hnl := nodes_ge ts
  have ihS : ∀ i (hi : i < ts.length), ∀ w1 : World, B ≤ w1.heap.size → (∀ b, b < B → w1.heap[b]? = w0.heap[b]?) → Calls Try.prog 20 #[(ND i).v] w1 fun e w' => e = .returned (.int .i64 ((ts[i].nodes : Nat) : Int)) ∧ Below w1.heap.size w1 w' := fun i hi => ih i hi (by have := nodes_get ts i hi; omega)
  have hBW : Below w.heap.size w (w.alloc (.cells #[.int .i64 N.k, .slice N.r1 N.r2 N.r3, .int .i64 N.a2, .slice N.s1 N.s2 N.s3, .int .i64 N.a4, .int .i64 N.a5, .bool N.a6, .int .i64 N.a7, .string N.a8] 25)) := Joins.below_alloc1 w _
  have hBN : BN (w.alloc (.cells #[.int .i64 N.k, .slice N.r1 N.r2 N.r3, .int .i64 N.a2, .slice N.s1 N.s2 N.s3, .int .i64 N.a4, .int .i64 N.a5, .bool N.a6, .int .i64 N.a7, .string N.a8] 25)) w.heap.size N := heap_alloc_new w _
  obtain ⟨k, r1, r2, r3, a2, s1, s2, s3, a4, a5, a6, a7, a8⟩ := N
  dsimp only at hs hS hr hBN hBW
  have hm2 : s2 ≤ 200000 := by omega
  obtain ⟨q0, q1, q2, q3, q4, q5, q6, q7, q8⟩ := nine' hBN
  obtain ⟨W, hW⟩ : ∃ W, W = w.alloc (.cells #[.int .i64 k, .slice r1 r2 r3, .int .i64 a2, .slice s1 s2 s3, .int .i64 a4, .int .i64 a5, .bool a6, .int .i64 a7, .string a8] 25) := ⟨_, rfl⟩
  rw [← hW] at hBN hBW q0 q1 q2 q3 q4 q5 q6 q7 q8
  obtain ⟨z, hz⟩ : ∃ z, z = w.heap.size := ⟨_, rfl⟩
  rw [← hz] at hBN hBW q0 q1 q2 q3 q4 q5 q6 q7 q8
  have HBN := hid hBN
  have HBW := hid hBW
  have HZ := hid hz
  have HSS := hid hS
  have HIH := hid ihS
  have HL := hid hs
  have HW := hid hw
  have HSM := hid hsm
  clear hBN hBW hS ihS ih hk ok hr hR hRk hs hw hsm hnn hnl
  go_enter Try.func20, Try.ntmps20
  go_upto_region 1 with fail
  rw [← hz, ← hW]
  clear hW hz
  go_wp2_with fail
  go_loopw [3, 4] (fun u y wq => ∃ i : Nat, y = .int .i64 (i : Int) ∧ i ≤ s2 ∧ (∃ n : Nat, u = .int .i64 (n : Int) ∧ Hid (n = 1 + nodesL (ts.take i)) ∧ n ≤ 200000) ∧ Hid (Below z w wq) ∧ Hid (BN wq z ⟨k, r1, r2, r3, a2, s1, s2, s3, a4, a5, a6, a7, a8⟩)) (fun _ y _ => s2 - (intOf y).toNat)
  case atStart => exact ⟨0, rfl, by omega, ⟨1, rfl, by simp [nodesL, Hid], by omega⟩, HBW.out, HBN.out⟩
  case round =>
    obtain ⟨i, rfl, hi, ⟨n, rfl, HNN, hn2⟩, BK, BX⟩ := hrel
    clear q0 q1 q2 q3 q4 q5 q6 q7 q8
    obtain ⟨q0, q1, q2, q3, q4, q5, q6, q7, q8⟩ := nine' BX.out
    by_cases hil : i < s2
    · have b1 : decide ((i : Int) < (s2 : Int)) = true := by simp; omega
      have b2 : (i : Int) < (s2 : Int) := by omega
      have ad1 : IntKind.i64.wrap ((i : Int) + 1) = (i : Int) + 1 := by simp [IntKind.wrap, IntKind.bits, IntKind.signed]; omega
      have hlt : i < ts.length := by have := HL.out; omega
      obtain ⟨b, o, rfl, hbl, h9⟩ := HSS.out (by omega)
      have hbw : wr.heap[b]? = w.heap[b]? := BK.out.block b (by have := HZ.out; omega)
      obtain ⟨n0, n1, n2, n3, n4, n5, n6, n7, n8⟩ := (h9 i hlt).kept (hbw.trans (HW.out b hbl))
      have HC := HIH.out i hlt wr (by have := BK.out.size; have := HZ.out; omega) (fun b hb => (BK.out.block b (by have := HZ.out; omega)).trans (HW.out b hb))
      have hzl := (Array.getElem?_eq_some_iff.1 BX.out).1
      have hst := nodesL_take ts i hlt
      have htl := nodesL_take_le ts (i + 1)
      obtain ⟨M, hM⟩ : ∃ M, M = ND i := ⟨_, rfl⟩
      rw [← hM] at HC n0 n1 n2 n3 n4 n5 n6 n7 n8
      obtain ⟨v, hv⟩ : ∃ v, v = ts[i].nodes := ⟨_, rfl⟩
      rw [← hv] at HC hst
      have hvb : n + v ≤ 200000 := by have := HNN.out; have := HSM.out; omega
      have HST := hid hst
      have ad2 : IntKind.i64.wrap ((n : Int) + (v : Int)) = (n : Int) + (v : Int) := by simp [IntKind.wrap, IntKind.bits, IntKind.signed]; omega
      clear h9 hbw hM hv hst htl
      go_wp2_with (first | (go_at_call 20; (with_reducible refine HC.mono ?_); rintro e w2 ⟨rfl, hb2⟩; have hB2 := (hb2.block z hzl).trans BX.out; clear q0 q1 q2 q3 q4 q5 q6 q7 q8; obtain ⟨q0, q1, q2, q3, q4, q5, q6, q7, q8⟩ := nine' hB2; have HB2 := hid hb2; have HX2 := hid hB2; clear hb2 hB2 HC))
      refine ⟨⟨i + 1, by push_cast; rfl, by omega, ⟨n + v, by push_cast; rfl, by show n + v = _; rw [HST.out]; have := HNN.out; omega, hvb⟩, BK.out.trans (Joins.below_le HB2.out (by have := BK.out.size; have := HZ.out; omega)), HX2.out⟩, by simp [intOf]; omega⟩
    · have b1 : decide ((i : Int) < (s2 : Int)) = false := by simp; omega
      obtain rfl : i = s2 := by omega
      go_wp2
      all_goals go_ret
      all_goals
        refine ⟨?_, by rw [← HZ.out]; exact BK.out⟩
        have h1 := HNN.out
        rw [HL.out, List.take_length] at h1
        have e : (n : Int) = 1 + (nodesL ts : Int) := by omega
        exact congrArg (fun x : Int => Ending.returned (Value.int .i64 x)) e
theorem Nf.inv {k : Int} {R : List (Int × Int)} {a : Int} {s : List Tn} {mn mx : Int} {lz : Bool} {ix : Int} {nm : ByteArray} (h : Nf (.mk k R a s mn mx lz ix nm)) : (k = 1 ∨ k = 2 ∨ k = 3 ∨ k = 4 ∨ k = 5 ∨ k = 6 ∨ k = 7) ∧ (k = 6 → (mn = 0 ∧ mx = 1) ∨ (mn = 0 ∧ mx = -1) ∨ (mn = 1 ∧ mx = -1)) ∧ (∀ u ∈ s, Nf u ∧ (u.kind = 4 → k ≠ 4) ∧ (u.kind = 5 → k ≠ 5) ∧ (u.kind = 1 → k ≠ 4)) := by
  generalize ht : Tn.mk k R a s mn mx lz ix nm = t at h
  cases h with
  | leaf hk hn =>
    simp only [Tn.mk.injEq] at ht
    obtain ⟨rfl, rfl, rfl, rfl, rfl, rfl, rfl, rfl, rfl⟩ := ht
    exact ⟨by omega, fun h => by omega, fun u hu => by simp at hu⟩
  | cat h2 h hs =>
    simp only [Tn.mk.injEq] at ht
    obtain ⟨rfl, rfl, rfl, rfl, rfl, rfl, rfl, rfl, rfl⟩ := ht
    exact ⟨by omega, fun h => by omega, fun u hu => ⟨hs u hu, fun e => absurd e (h u hu).2, fun _ => by decide, fun e => absurd e (h u hu).1⟩⟩
  | alt h2 h hs =>
    simp only [Tn.mk.injEq] at ht
    obtain ⟨rfl, rfl, rfl, rfl, rfl, rfl, rfl, rfl, rfl⟩ := ht
    exact ⟨by omega, fun h => by omega, fun u hu => ⟨hs u hu, fun _ => by decide, fun e => absurd e (h u hu), fun _ => by decide⟩⟩
  | loop h hy =>
    simp only [Tn.mk.injEq] at ht
    obtain ⟨rfl, rfl, rfl, rfl, rfl, rfl, rfl, rfl, rfl⟩ := ht
    exact ⟨by omega, fun _ => h, fun u hu => by simp at hu; subst hu; exact ⟨hy, fun _ => by decide, fun _ => by decide, fun _ => by decide⟩⟩
  | grp hn hy =>
    simp only [Tn.mk.injEq] at ht
    obtain ⟨rfl, rfl, rfl, rfl, rfl, rfl, rfl, rfl, rfl⟩ := ht
    exact ⟨by omega, fun h => by omega, fun u hu => by simp at hu; subst hu; exact ⟨hy, fun _ => by decide, fun _ => by decide, fun _ => by decide⟩⟩
set_option maxRecDepth 100000 in
set_option maxHeartbeats 8000000 in
theorem simple21 {w0 : World} {B : Nat} {N : Nv} {t : Tn} (h : TI w0 B N t) : Nf t → t.nodes ≤ 200000 → ∀ (ab : Int) (w : World), (t.kind = 4 → ab ≠ 4) → (t.kind = 5 → ab ≠ 5) → (t.kind = 1 → ab ≠ 4) → B ≤ w.heap.size → (∀ b, b < B → w.heap[b]? = w0.heap[b]?) →
    Calls Try.prog 21 #[N.v, .int .i64 ab] w fun e w' => e = .returned (.bool true) ∧ Below w.heap.size w w' := by
  induction h with
  | @mk N R ts ND ok hr hR hRk hs hS hk ih =>
  intro hnf hsm ab w hab4 hab5 hab1 hB hw
  have hnn : (Tn.mk N.k R N.a2 ts N.a4 N.a5 N.a6 N.a7 N.a8).nodes = 1 + nodesL ts := by simp only [Tn.nodes]
  rw [hnn] at hsm
  have hnl := nodes_ge ts
  obtain ⟨hk7, hk6, hsub⟩ := hnf.inv
  have ihS : ∀ i (hi : i < ts.length), ∀ w1 : World, B ≤ w1.heap.size → (∀ b, b < B → w1.heap[b]? = w0.heap[b]?) → Calls Try.prog 21 #[(ND i).v, .int .i64 N.k] w1 fun e w' => e = .returned (.bool true) ∧ Below w1.heap.size w1 w' := fun i hi w1 h1 h2 => by
    have hu := hsub ts[i] (List.getElem_mem hi)
    exact ih i hi hu.1 (by have := nodes_get ts i hi; omega) N.k w1 hu.2.1 hu.2.2.1 hu.2.2.2 h1 h2
  have hBW : Below w.heap.size w (w.alloc (.cells #[.int .i64 N.k, .slice N.r1 N.r2 N.r3, .int .i64 N.a2, .slice N.s1 N.s2 N.s3, .int .i64 N.a4, .int .i64 N.a5, .bool N.a6, .int .i64 N.a7, .string N.a8] 25)) := Joins.below_alloc1 w _
  have hBN : BN (w.alloc (.cells #[.int .i64 N.k, .slice N.r1 N.r2 N.r3, .int .i64 N.a2, .slice N.s1 N.s2 N.s3, .int .i64 N.a4, .int .i64 N.a5, .bool N.a6, .int .i64 N.a7, .string N.a8] 25)) w.heap.size N := heap_alloc_new w _
  obtain ⟨k, r1, r2, r3, a2, s1, s2, s3, a4, a5, a6, a7, a8⟩ := N
  dsimp only at hs hS hr hBN hBW hk7 hk6 ihS
  simp only [Tn.kind] at hab4 hab5 hab1
  have hm2 : s2 ≤ 200000 := by omega
  obtain ⟨q0, q1, q2, q3, q4, q5, q6, q7, q8⟩ := nine' hBN
  obtain ⟨W, hW⟩ : ∃ W, W = w.alloc (.cells #[.int .i64 k, .slice r1 r2 r3, .int .i64 a2, .slice s1 s2 s3, .int .i64 a4, .int .i64 a5, .bool a6, .int .i64 a7, .string a8] 25) := ⟨_, rfl⟩
  rw [← hW] at hBN hBW q0 q1 q2 q3 q4 q5 q6 q7 q8
  obtain ⟨z, hz⟩ : ∃ z, z = w.heap.size := ⟨_, rfl⟩
  rw [← hz] at hBN hBW q0 q1 q2 q3 q4 q5 q6 q7 q8
  have HBN := hid hBN
  have HBW := hid hBW
  have HZ := hid hz
  have HSS := hid hS
  have HIH := hid ihS
  have HL := hid hs
  have HW := hid hw
  clear hBN hBW hS ihS ih hk ok hr hR hRk hs hw hsm hnn hnl hsub hnf
  have e4 : k = 4 → (ab == 4) = false := fun h => by simpa using hab4 h
  have e5 : k = 5 → (ab == 5) = false := fun h => by simpa using hab5 h
  have e1 : k = 1 → (ab == 4) = false := fun h => by simpa using hab1 h
  clear hab4 hab5 hab1
  rcases hk7 with rfl | rfl | rfl | rfl | rfl | rfl | rfl
  · have f1 := e1 rfl
    clear e1 e4 e5 hk6
    go_enter Try.func21, Try.ntmps21
    go_upto_region 1 with fail
    rw [← hz, ← hW]
    clear hW hz
    go_wp2_with fail
    go_loopw [5] (fun y wq => ∃ i : Nat, y = .int .i64 (i : Int) ∧ i ≤ s2 ∧ Hid (Below z w wq) ∧ Hid (BN wq z ⟨1, r1, r2, r3, a2, s1, s2, s3, a4, a5, a6, a7, a8⟩)) (fun y _ => s2 - (intOf y).toNat)
    case atStart => exact ⟨0, rfl, by omega, HBW.out, HBN.out⟩
    case round =>
      obtain ⟨i, rfl, hi, BK, BX⟩ := hrel
      clear q0 q1 q2 q3 q4 q5 q6 q7 q8
      obtain ⟨q0, q1, q2, q3, q4, q5, q6, q7, q8⟩ := nine' BX.out
      by_cases hil : i < s2
      · have b1 : decide ((i : Int) < (s2 : Int)) = true := by simp; omega
        have b2 : (i : Int) < (s2 : Int) := by omega
        have ad1 : IntKind.i64.wrap ((i : Int) + 1) = (i : Int) + 1 := by simp [IntKind.wrap, IntKind.bits, IntKind.signed]; omega
        have hlt : i < ts.length := by have := HL.out; omega
        obtain ⟨b, o, rfl, hbl, h9⟩ := HSS.out (by omega)
        have hbw : wr.heap[b]? = w.heap[b]? := BK.out.block b (by have := HZ.out; omega)
        have hN9 := (h9 i hlt).kept (hbw.trans (HW.out b hbl))
        have hblw : b < wr.heap.size := by have := BK.out.size; have := HZ.out; omega
        have hzl := (Array.getElem?_eq_some_iff.1 BX.out).1
        have HC := HIH.out i hlt wr.drew (by show B ≤ wr.heap.size; have := BK.out.size; have := HZ.out; omega) (fun b hb => (BK.out.block b (by have := HZ.out; omega)).trans (HW.out b hb))
        obtain ⟨M, hM⟩ : ∃ M, M = ND i := ⟨_, rfl⟩
        rw [← hM] at HC hN9
        have hS : ∀ w3, Below wr.heap.size wr w3 → w3.cell? ⟨z, 0, none⟩ = some (.int .i64 1) ∧ w3.cell? ⟨z, 3, none⟩ = some (.slice (some ⟨b, o, none⟩) s2 s3) ∧ w3.cell? ⟨b, o + i * 9, none⟩ = some (.int .i64 M.k) ∧ w3.cell? ⟨b, o + i * 9 + 1, none⟩ = some (.slice M.r1 M.r2 M.r3) ∧ w3.cell? ⟨b, o + i * 9 + 2, none⟩ = some (.int .i64 M.a2) ∧ w3.cell? ⟨b, o + i * 9 + 3, none⟩ = some (.slice M.s1 M.s2 M.s3) ∧ w3.cell? ⟨b, o + i * 9 + 4, none⟩ = some (.int .i64 M.a4) ∧ w3.cell? ⟨b, o + i * 9 + 5, none⟩ = some (.int .i64 M.a5) ∧ w3.cell? ⟨b, o + i * 9 + 6, none⟩ = some (.bool M.a6) ∧ w3.cell? ⟨b, o + i * 9 + 7, none⟩ = some (.int .i64 M.a7) ∧ w3.cell? ⟨b, o + i * 9 + 8, none⟩ = some (.string M.a8) := fun w3 h3 => by
          obtain ⟨q0, q1, q2, q3, q4, q5, q6, q7, q8⟩ := nine' ((h3.block z hzl).trans BX.out)
          obtain ⟨n0, n1, n2, n3, n4, n5, n6, n7, n8⟩ := hN9.kept (h3.block b hblw)
          exact ⟨q0, q3, n0, n1, n2, n3, n4, n5, n6, n7, n8⟩
        have HS3 := hid hS
        have HD := hid (below_drew wr)
        clear hS hN9 h9 hbw hM
        go_upto_region 8 with fail
        go_region_held2 (fun w3 => w3.cell? ⟨z, 0, none⟩ = some (.int .i64 1) ∧ w3.cell? ⟨z, 3, none⟩ = some (.slice (some ⟨b, o, none⟩) s2 s3) ∧ w3.cell? ⟨b, o + i * 9, none⟩ = some (.int .i64 M.k) ∧ w3.cell? ⟨b, o + i * 9 + 1, none⟩ = some (.slice M.r1 M.r2 M.r3) ∧ w3.cell? ⟨b, o + i * 9 + 2, none⟩ = some (.int .i64 M.a2) ∧ w3.cell? ⟨b, o + i * 9 + 3, none⟩ = some (.slice M.s1 M.s2 M.s3) ∧ w3.cell? ⟨b, o + i * 9 + 4, none⟩ = some (.int .i64 M.a4) ∧ w3.cell? ⟨b, o + i * 9 + 5, none⟩ = some (.int .i64 M.a5) ∧ w3.cell? ⟨b, o + i * 9 + 6, none⟩ = some (.bool M.a6) ∧ w3.cell? ⟨b, o + i * 9 + 7, none⟩ = some (.int .i64 M.a7) ∧ w3.cell? ⟨b, o + i * 9 + 8, none⟩ = some (.string M.a8))
          (first | exact HS3.out _ HD.out | exact HS3.out _ (HD.out.trans (Joins.below_le HB2.out HD.out.size)))
          (first | (go_at_call 21; (with_reducible refine HC.mono ?_); rintro e w2 ⟨rfl, hb2⟩; have HB2 := hid hb2; clear hb2 HC))
        all_goals
          go_wp2
          have hbb := HD.out.trans (Joins.below_le HB2.out HD.out.size)
          exact ⟨⟨i + 1, by push_cast; rfl, by omega, BK.out.trans (Joins.below_le hbb (by have := BK.out.size; have := HZ.out; omega)), (hbb.block z hzl).trans BX.out⟩, by simp [intOf]; omega⟩
      · have b1 : decide ((i : Int) < (s2 : Int)) = false := by simp; omega
        go_wp2
        all_goals go_ret
        all_goals exact ⟨rfl, by rw [← HZ.out]; exact BK.out⟩
  · clear e1 e4 e5 hk6
    go_enter Try.func21, Try.ntmps21
    go_upto_region 1 with fail
    rw [← hz, ← hW]
    clear hW hz
    go_wp2_with fail
    go_loopw [5] (fun y wq => ∃ i : Nat, y = .int .i64 (i : Int) ∧ i ≤ s2 ∧ Hid (Below z w wq) ∧ Hid (BN wq z ⟨2, r1, r2, r3, a2, s1, s2, s3, a4, a5, a6, a7, a8⟩)) (fun y _ => s2 - (intOf y).toNat)
    case atStart => exact ⟨0, rfl, by omega, HBW.out, HBN.out⟩
    case round =>
      obtain ⟨i, rfl, hi, BK, BX⟩ := hrel
      clear q0 q1 q2 q3 q4 q5 q6 q7 q8
      obtain ⟨q0, q1, q2, q3, q4, q5, q6, q7, q8⟩ := nine' BX.out
      by_cases hil : i < s2
      · have b1 : decide ((i : Int) < (s2 : Int)) = true := by simp; omega
        have b2 : (i : Int) < (s2 : Int) := by omega
        have ad1 : IntKind.i64.wrap ((i : Int) + 1) = (i : Int) + 1 := by simp [IntKind.wrap, IntKind.bits, IntKind.signed]; omega
        have hlt : i < ts.length := by have := HL.out; omega
        obtain ⟨b, o, rfl, hbl, h9⟩ := HSS.out (by omega)
        have hbw : wr.heap[b]? = w.heap[b]? := BK.out.block b (by have := HZ.out; omega)
        have hN9 := (h9 i hlt).kept (hbw.trans (HW.out b hbl))
        have hblw : b < wr.heap.size := by have := BK.out.size; have := HZ.out; omega
        have hzl := (Array.getElem?_eq_some_iff.1 BX.out).1
        have HC := HIH.out i hlt wr.drew (by show B ≤ wr.heap.size; have := BK.out.size; have := HZ.out; omega) (fun b hb => (BK.out.block b (by have := HZ.out; omega)).trans (HW.out b hb))
        obtain ⟨M, hM⟩ : ∃ M, M = ND i := ⟨_, rfl⟩
        rw [← hM] at HC hN9
        have hS : ∀ w3, Below wr.heap.size wr w3 → w3.cell? ⟨z, 0, none⟩ = some (.int .i64 2) ∧ w3.cell? ⟨z, 3, none⟩ = some (.slice (some ⟨b, o, none⟩) s2 s3) ∧ w3.cell? ⟨b, o + i * 9, none⟩ = some (.int .i64 M.k) ∧ w3.cell? ⟨b, o + i * 9 + 1, none⟩ = some (.slice M.r1 M.r2 M.r3) ∧ w3.cell? ⟨b, o + i * 9 + 2, none⟩ = some (.int .i64 M.a2) ∧ w3.cell? ⟨b, o + i * 9 + 3, none⟩ = some (.slice M.s1 M.s2 M.s3) ∧ w3.cell? ⟨b, o + i * 9 + 4, none⟩ = some (.int .i64 M.a4) ∧ w3.cell? ⟨b, o + i * 9 + 5, none⟩ = some (.int .i64 M.a5) ∧ w3.cell? ⟨b, o + i * 9 + 6, none⟩ = some (.bool M.a6) ∧ w3.cell? ⟨b, o + i * 9 + 7, none⟩ = some (.int .i64 M.a7) ∧ w3.cell? ⟨b, o + i * 9 + 8, none⟩ = some (.string M.a8) := fun w3 h3 => by
          obtain ⟨q0, q1, q2, q3, q4, q5, q6, q7, q8⟩ := nine' ((h3.block z hzl).trans BX.out)
          obtain ⟨n0, n1, n2, n3, n4, n5, n6, n7, n8⟩ := hN9.kept (h3.block b hblw)
          exact ⟨q0, q3, n0, n1, n2, n3, n4, n5, n6, n7, n8⟩
        have HS3 := hid hS
        have HD := hid (below_drew wr)
        clear hS hN9 h9 hbw hM
        go_upto_region 8 with fail
        go_region_held2 (fun w3 => w3.cell? ⟨z, 0, none⟩ = some (.int .i64 2) ∧ w3.cell? ⟨z, 3, none⟩ = some (.slice (some ⟨b, o, none⟩) s2 s3) ∧ w3.cell? ⟨b, o + i * 9, none⟩ = some (.int .i64 M.k) ∧ w3.cell? ⟨b, o + i * 9 + 1, none⟩ = some (.slice M.r1 M.r2 M.r3) ∧ w3.cell? ⟨b, o + i * 9 + 2, none⟩ = some (.int .i64 M.a2) ∧ w3.cell? ⟨b, o + i * 9 + 3, none⟩ = some (.slice M.s1 M.s2 M.s3) ∧ w3.cell? ⟨b, o + i * 9 + 4, none⟩ = some (.int .i64 M.a4) ∧ w3.cell? ⟨b, o + i * 9 + 5, none⟩ = some (.int .i64 M.a5) ∧ w3.cell? ⟨b, o + i * 9 + 6, none⟩ = some (.bool M.a6) ∧ w3.cell? ⟨b, o + i * 9 + 7, none⟩ = some (.int .i64 M.a7) ∧ w3.cell? ⟨b, o + i * 9 + 8, none⟩ = some (.string M.a8))
          (first | exact HS3.out _ HD.out | exact HS3.out _ (HD.out.trans (Joins.below_le HB2.out HD.out.size)))
          (first | (go_at_call 21; (with_reducible refine HC.mono ?_); rintro e w2 ⟨rfl, hb2⟩; have HB2 := hid hb2; clear hb2 HC))
        all_goals
          go_wp2
          have hbb := HD.out.trans (Joins.below_le HB2.out HD.out.size)
          exact ⟨⟨i + 1, by push_cast; rfl, by omega, BK.out.trans (Joins.below_le hbb (by have := BK.out.size; have := HZ.out; omega)), (hbb.block z hzl).trans BX.out⟩, by simp [intOf]; omega⟩
      · have b1 : decide ((i : Int) < (s2 : Int)) = false := by simp; omega
        go_wp2
        all_goals go_ret
        all_goals exact ⟨rfl, by rw [← HZ.out]; exact BK.out⟩
  · clear e1 e4 e5 hk6
    go_enter Try.func21, Try.ntmps21
    go_upto_region 1 with fail
    rw [← hz, ← hW]
    clear hW hz
    go_wp2_with fail
    go_loopw [5] (fun y wq => ∃ i : Nat, y = .int .i64 (i : Int) ∧ i ≤ s2 ∧ Hid (Below z w wq) ∧ Hid (BN wq z ⟨3, r1, r2, r3, a2, s1, s2, s3, a4, a5, a6, a7, a8⟩)) (fun y _ => s2 - (intOf y).toNat)
    case atStart => exact ⟨0, rfl, by omega, HBW.out, HBN.out⟩
    case round =>
      obtain ⟨i, rfl, hi, BK, BX⟩ := hrel
      clear q0 q1 q2 q3 q4 q5 q6 q7 q8
      obtain ⟨q0, q1, q2, q3, q4, q5, q6, q7, q8⟩ := nine' BX.out
      by_cases hil : i < s2
      · have b1 : decide ((i : Int) < (s2 : Int)) = true := by simp; omega
        have b2 : (i : Int) < (s2 : Int) := by omega
        have ad1 : IntKind.i64.wrap ((i : Int) + 1) = (i : Int) + 1 := by simp [IntKind.wrap, IntKind.bits, IntKind.signed]; omega
        have hlt : i < ts.length := by have := HL.out; omega
        obtain ⟨b, o, rfl, hbl, h9⟩ := HSS.out (by omega)
        have hbw : wr.heap[b]? = w.heap[b]? := BK.out.block b (by have := HZ.out; omega)
        have hN9 := (h9 i hlt).kept (hbw.trans (HW.out b hbl))
        have hblw : b < wr.heap.size := by have := BK.out.size; have := HZ.out; omega
        have hzl := (Array.getElem?_eq_some_iff.1 BX.out).1
        have HC := HIH.out i hlt wr.drew (by show B ≤ wr.heap.size; have := BK.out.size; have := HZ.out; omega) (fun b hb => (BK.out.block b (by have := HZ.out; omega)).trans (HW.out b hb))
        obtain ⟨M, hM⟩ : ∃ M, M = ND i := ⟨_, rfl⟩
        rw [← hM] at HC hN9
        have hS : ∀ w3, Below wr.heap.size wr w3 → w3.cell? ⟨z, 0, none⟩ = some (.int .i64 3) ∧ w3.cell? ⟨z, 3, none⟩ = some (.slice (some ⟨b, o, none⟩) s2 s3) ∧ w3.cell? ⟨b, o + i * 9, none⟩ = some (.int .i64 M.k) ∧ w3.cell? ⟨b, o + i * 9 + 1, none⟩ = some (.slice M.r1 M.r2 M.r3) ∧ w3.cell? ⟨b, o + i * 9 + 2, none⟩ = some (.int .i64 M.a2) ∧ w3.cell? ⟨b, o + i * 9 + 3, none⟩ = some (.slice M.s1 M.s2 M.s3) ∧ w3.cell? ⟨b, o + i * 9 + 4, none⟩ = some (.int .i64 M.a4) ∧ w3.cell? ⟨b, o + i * 9 + 5, none⟩ = some (.int .i64 M.a5) ∧ w3.cell? ⟨b, o + i * 9 + 6, none⟩ = some (.bool M.a6) ∧ w3.cell? ⟨b, o + i * 9 + 7, none⟩ = some (.int .i64 M.a7) ∧ w3.cell? ⟨b, o + i * 9 + 8, none⟩ = some (.string M.a8) := fun w3 h3 => by
          obtain ⟨q0, q1, q2, q3, q4, q5, q6, q7, q8⟩ := nine' ((h3.block z hzl).trans BX.out)
          obtain ⟨n0, n1, n2, n3, n4, n5, n6, n7, n8⟩ := hN9.kept (h3.block b hblw)
          exact ⟨q0, q3, n0, n1, n2, n3, n4, n5, n6, n7, n8⟩
        have HS3 := hid hS
        have HD := hid (below_drew wr)
        clear hS hN9 h9 hbw hM
        go_upto_region 8 with fail
        go_region_held2 (fun w3 => w3.cell? ⟨z, 0, none⟩ = some (.int .i64 3) ∧ w3.cell? ⟨z, 3, none⟩ = some (.slice (some ⟨b, o, none⟩) s2 s3) ∧ w3.cell? ⟨b, o + i * 9, none⟩ = some (.int .i64 M.k) ∧ w3.cell? ⟨b, o + i * 9 + 1, none⟩ = some (.slice M.r1 M.r2 M.r3) ∧ w3.cell? ⟨b, o + i * 9 + 2, none⟩ = some (.int .i64 M.a2) ∧ w3.cell? ⟨b, o + i * 9 + 3, none⟩ = some (.slice M.s1 M.s2 M.s3) ∧ w3.cell? ⟨b, o + i * 9 + 4, none⟩ = some (.int .i64 M.a4) ∧ w3.cell? ⟨b, o + i * 9 + 5, none⟩ = some (.int .i64 M.a5) ∧ w3.cell? ⟨b, o + i * 9 + 6, none⟩ = some (.bool M.a6) ∧ w3.cell? ⟨b, o + i * 9 + 7, none⟩ = some (.int .i64 M.a7) ∧ w3.cell? ⟨b, o + i * 9 + 8, none⟩ = some (.string M.a8))
          (first | exact HS3.out _ HD.out | exact HS3.out _ (HD.out.trans (Joins.below_le HB2.out HD.out.size)))
          (first | (go_at_call 21; (with_reducible refine HC.mono ?_); rintro e w2 ⟨rfl, hb2⟩; have HB2 := hid hb2; clear hb2 HC))
        all_goals
          go_wp2
          have hbb := HD.out.trans (Joins.below_le HB2.out HD.out.size)
          exact ⟨⟨i + 1, by push_cast; rfl, by omega, BK.out.trans (Joins.below_le hbb (by have := BK.out.size; have := HZ.out; omega)), (hbb.block z hzl).trans BX.out⟩, by simp [intOf]; omega⟩
      · have b1 : decide ((i : Int) < (s2 : Int)) = false := by simp; omega
        go_wp2
        all_goals go_ret
        all_goals exact ⟨rfl, by rw [← HZ.out]; exact BK.out⟩
  · have f1 := e4 rfl
    clear e1 e4 e5 hk6
    go_enter Try.func21, Try.ntmps21
    go_upto_region 1 with fail
    rw [← hz, ← hW]
    clear hW hz
    go_wp2_with fail
    go_loopw [5] (fun y wq => ∃ i : Nat, y = .int .i64 (i : Int) ∧ i ≤ s2 ∧ Hid (Below z w wq) ∧ Hid (BN wq z ⟨4, r1, r2, r3, a2, s1, s2, s3, a4, a5, a6, a7, a8⟩)) (fun y _ => s2 - (intOf y).toNat)
    case atStart => exact ⟨0, rfl, by omega, HBW.out, HBN.out⟩
    case round =>
      obtain ⟨i, rfl, hi, BK, BX⟩ := hrel
      clear q0 q1 q2 q3 q4 q5 q6 q7 q8
      obtain ⟨q0, q1, q2, q3, q4, q5, q6, q7, q8⟩ := nine' BX.out
      by_cases hil : i < s2
      · have b1 : decide ((i : Int) < (s2 : Int)) = true := by simp; omega
        have b2 : (i : Int) < (s2 : Int) := by omega
        have ad1 : IntKind.i64.wrap ((i : Int) + 1) = (i : Int) + 1 := by simp [IntKind.wrap, IntKind.bits, IntKind.signed]; omega
        have hlt : i < ts.length := by have := HL.out; omega
        obtain ⟨b, o, rfl, hbl, h9⟩ := HSS.out (by omega)
        have hbw : wr.heap[b]? = w.heap[b]? := BK.out.block b (by have := HZ.out; omega)
        have hN9 := (h9 i hlt).kept (hbw.trans (HW.out b hbl))
        have hblw : b < wr.heap.size := by have := BK.out.size; have := HZ.out; omega
        have hzl := (Array.getElem?_eq_some_iff.1 BX.out).1
        have HC := HIH.out i hlt wr.drew (by show B ≤ wr.heap.size; have := BK.out.size; have := HZ.out; omega) (fun b hb => (BK.out.block b (by have := HZ.out; omega)).trans (HW.out b hb))
        obtain ⟨M, hM⟩ : ∃ M, M = ND i := ⟨_, rfl⟩
        rw [← hM] at HC hN9
        have hS : ∀ w3, Below wr.heap.size wr w3 → w3.cell? ⟨z, 0, none⟩ = some (.int .i64 4) ∧ w3.cell? ⟨z, 3, none⟩ = some (.slice (some ⟨b, o, none⟩) s2 s3) ∧ w3.cell? ⟨b, o + i * 9, none⟩ = some (.int .i64 M.k) ∧ w3.cell? ⟨b, o + i * 9 + 1, none⟩ = some (.slice M.r1 M.r2 M.r3) ∧ w3.cell? ⟨b, o + i * 9 + 2, none⟩ = some (.int .i64 M.a2) ∧ w3.cell? ⟨b, o + i * 9 + 3, none⟩ = some (.slice M.s1 M.s2 M.s3) ∧ w3.cell? ⟨b, o + i * 9 + 4, none⟩ = some (.int .i64 M.a4) ∧ w3.cell? ⟨b, o + i * 9 + 5, none⟩ = some (.int .i64 M.a5) ∧ w3.cell? ⟨b, o + i * 9 + 6, none⟩ = some (.bool M.a6) ∧ w3.cell? ⟨b, o + i * 9 + 7, none⟩ = some (.int .i64 M.a7) ∧ w3.cell? ⟨b, o + i * 9 + 8, none⟩ = some (.string M.a8) := fun w3 h3 => by
          obtain ⟨q0, q1, q2, q3, q4, q5, q6, q7, q8⟩ := nine' ((h3.block z hzl).trans BX.out)
          obtain ⟨n0, n1, n2, n3, n4, n5, n6, n7, n8⟩ := hN9.kept (h3.block b hblw)
          exact ⟨q0, q3, n0, n1, n2, n3, n4, n5, n6, n7, n8⟩
        have HS3 := hid hS
        have HD := hid (below_drew wr)
        clear hS hN9 h9 hbw hM
        go_upto_region 8 with fail
        go_region_held2 (fun w3 => w3.cell? ⟨z, 0, none⟩ = some (.int .i64 4) ∧ w3.cell? ⟨z, 3, none⟩ = some (.slice (some ⟨b, o, none⟩) s2 s3) ∧ w3.cell? ⟨b, o + i * 9, none⟩ = some (.int .i64 M.k) ∧ w3.cell? ⟨b, o + i * 9 + 1, none⟩ = some (.slice M.r1 M.r2 M.r3) ∧ w3.cell? ⟨b, o + i * 9 + 2, none⟩ = some (.int .i64 M.a2) ∧ w3.cell? ⟨b, o + i * 9 + 3, none⟩ = some (.slice M.s1 M.s2 M.s3) ∧ w3.cell? ⟨b, o + i * 9 + 4, none⟩ = some (.int .i64 M.a4) ∧ w3.cell? ⟨b, o + i * 9 + 5, none⟩ = some (.int .i64 M.a5) ∧ w3.cell? ⟨b, o + i * 9 + 6, none⟩ = some (.bool M.a6) ∧ w3.cell? ⟨b, o + i * 9 + 7, none⟩ = some (.int .i64 M.a7) ∧ w3.cell? ⟨b, o + i * 9 + 8, none⟩ = some (.string M.a8))
          (first | exact HS3.out _ HD.out | exact HS3.out _ (HD.out.trans (Joins.below_le HB2.out HD.out.size)))
          (first | (go_at_call 21; (with_reducible refine HC.mono ?_); rintro e w2 ⟨rfl, hb2⟩; have HB2 := hid hb2; clear hb2 HC))
        all_goals
          go_wp2
          have hbb := HD.out.trans (Joins.below_le HB2.out HD.out.size)
          exact ⟨⟨i + 1, by push_cast; rfl, by omega, BK.out.trans (Joins.below_le hbb (by have := BK.out.size; have := HZ.out; omega)), (hbb.block z hzl).trans BX.out⟩, by simp [intOf]; omega⟩
      · have b1 : decide ((i : Int) < (s2 : Int)) = false := by simp; omega
        go_wp2
        all_goals go_ret
        all_goals exact ⟨rfl, by rw [← HZ.out]; exact BK.out⟩
  · have f1 := e5 rfl
    clear e1 e4 e5 hk6
    go_enter Try.func21, Try.ntmps21
    go_upto_region 1 with fail
    rw [← hz, ← hW]
    clear hW hz
    go_wp2_with fail
    go_loopw [5] (fun y wq => ∃ i : Nat, y = .int .i64 (i : Int) ∧ i ≤ s2 ∧ Hid (Below z w wq) ∧ Hid (BN wq z ⟨5, r1, r2, r3, a2, s1, s2, s3, a4, a5, a6, a7, a8⟩)) (fun y _ => s2 - (intOf y).toNat)
    case atStart => exact ⟨0, rfl, by omega, HBW.out, HBN.out⟩
    case round =>
      obtain ⟨i, rfl, hi, BK, BX⟩ := hrel
      clear q0 q1 q2 q3 q4 q5 q6 q7 q8
      obtain ⟨q0, q1, q2, q3, q4, q5, q6, q7, q8⟩ := nine' BX.out
      by_cases hil : i < s2
      · have b1 : decide ((i : Int) < (s2 : Int)) = true := by simp; omega
        have b2 : (i : Int) < (s2 : Int) := by omega
        have ad1 : IntKind.i64.wrap ((i : Int) + 1) = (i : Int) + 1 := by simp [IntKind.wrap, IntKind.bits, IntKind.signed]; omega
        have hlt : i < ts.length := by have := HL.out; omega
        obtain ⟨b, o, rfl, hbl, h9⟩ := HSS.out (by omega)
        have hbw : wr.heap[b]? = w.heap[b]? := BK.out.block b (by have := HZ.out; omega)
        have hN9 := (h9 i hlt).kept (hbw.trans (HW.out b hbl))
        have hblw : b < wr.heap.size := by have := BK.out.size; have := HZ.out; omega
        have hzl := (Array.getElem?_eq_some_iff.1 BX.out).1
        have HC := HIH.out i hlt wr.drew (by show B ≤ wr.heap.size; have := BK.out.size; have := HZ.out; omega) (fun b hb => (BK.out.block b (by have := HZ.out; omega)).trans (HW.out b hb))
        obtain ⟨M, hM⟩ : ∃ M, M = ND i := ⟨_, rfl⟩
        rw [← hM] at HC hN9
        have hS : ∀ w3, Below wr.heap.size wr w3 → w3.cell? ⟨z, 0, none⟩ = some (.int .i64 5) ∧ w3.cell? ⟨z, 3, none⟩ = some (.slice (some ⟨b, o, none⟩) s2 s3) ∧ w3.cell? ⟨b, o + i * 9, none⟩ = some (.int .i64 M.k) ∧ w3.cell? ⟨b, o + i * 9 + 1, none⟩ = some (.slice M.r1 M.r2 M.r3) ∧ w3.cell? ⟨b, o + i * 9 + 2, none⟩ = some (.int .i64 M.a2) ∧ w3.cell? ⟨b, o + i * 9 + 3, none⟩ = some (.slice M.s1 M.s2 M.s3) ∧ w3.cell? ⟨b, o + i * 9 + 4, none⟩ = some (.int .i64 M.a4) ∧ w3.cell? ⟨b, o + i * 9 + 5, none⟩ = some (.int .i64 M.a5) ∧ w3.cell? ⟨b, o + i * 9 + 6, none⟩ = some (.bool M.a6) ∧ w3.cell? ⟨b, o + i * 9 + 7, none⟩ = some (.int .i64 M.a7) ∧ w3.cell? ⟨b, o + i * 9 + 8, none⟩ = some (.string M.a8) := fun w3 h3 => by
          obtain ⟨q0, q1, q2, q3, q4, q5, q6, q7, q8⟩ := nine' ((h3.block z hzl).trans BX.out)
          obtain ⟨n0, n1, n2, n3, n4, n5, n6, n7, n8⟩ := hN9.kept (h3.block b hblw)
          exact ⟨q0, q3, n0, n1, n2, n3, n4, n5, n6, n7, n8⟩
        have HS3 := hid hS
        have HD := hid (below_drew wr)
        clear hS hN9 h9 hbw hM
        go_upto_region 8 with fail
        go_region_held2 (fun w3 => w3.cell? ⟨z, 0, none⟩ = some (.int .i64 5) ∧ w3.cell? ⟨z, 3, none⟩ = some (.slice (some ⟨b, o, none⟩) s2 s3) ∧ w3.cell? ⟨b, o + i * 9, none⟩ = some (.int .i64 M.k) ∧ w3.cell? ⟨b, o + i * 9 + 1, none⟩ = some (.slice M.r1 M.r2 M.r3) ∧ w3.cell? ⟨b, o + i * 9 + 2, none⟩ = some (.int .i64 M.a2) ∧ w3.cell? ⟨b, o + i * 9 + 3, none⟩ = some (.slice M.s1 M.s2 M.s3) ∧ w3.cell? ⟨b, o + i * 9 + 4, none⟩ = some (.int .i64 M.a4) ∧ w3.cell? ⟨b, o + i * 9 + 5, none⟩ = some (.int .i64 M.a5) ∧ w3.cell? ⟨b, o + i * 9 + 6, none⟩ = some (.bool M.a6) ∧ w3.cell? ⟨b, o + i * 9 + 7, none⟩ = some (.int .i64 M.a7) ∧ w3.cell? ⟨b, o + i * 9 + 8, none⟩ = some (.string M.a8))
          (first | exact HS3.out _ HD.out | exact HS3.out _ (HD.out.trans (Joins.below_le HB2.out HD.out.size)))
          (first | (go_at_call 21; (with_reducible refine HC.mono ?_); rintro e w2 ⟨rfl, hb2⟩; have HB2 := hid hb2; clear hb2 HC))
        all_goals
          go_wp2
          have hbb := HD.out.trans (Joins.below_le HB2.out HD.out.size)
          exact ⟨⟨i + 1, by push_cast; rfl, by omega, BK.out.trans (Joins.below_le hbb (by have := BK.out.size; have := HZ.out; omega)), (hbb.block z hzl).trans BX.out⟩, by simp [intOf]; omega⟩
      · have b1 : decide ((i : Int) < (s2 : Int)) = false := by simp; omega
        go_wp2
        all_goals go_ret
        all_goals exact ⟨rfl, by rw [← HZ.out]; exact BK.out⟩
  · clear e1 e4 e5
    rcases hk6 rfl with ⟨rfl, rfl⟩ | ⟨rfl, rfl⟩ | ⟨rfl, rfl⟩
    · clear hk6
      go_enter Try.func21, Try.ntmps21
      go_upto_region 1 with fail
      rw [← hz, ← hW]
      clear hW hz
      go_wp2_with fail
      go_loopw [5] (fun y wq => ∃ i : Nat, y = .int .i64 (i : Int) ∧ i ≤ s2 ∧ Hid (Below z w wq) ∧ Hid (BN wq z ⟨6, r1, r2, r3, a2, s1, s2, s3, 0, 1, a6, a7, a8⟩)) (fun y _ => s2 - (intOf y).toNat)
      case atStart => exact ⟨0, rfl, by omega, HBW.out, HBN.out⟩
      case round =>
        obtain ⟨i, rfl, hi, BK, BX⟩ := hrel
        clear q0 q1 q2 q3 q4 q5 q6 q7 q8
        obtain ⟨q0, q1, q2, q3, q4, q5, q6, q7, q8⟩ := nine' BX.out
        by_cases hil : i < s2
        · have b1 : decide ((i : Int) < (s2 : Int)) = true := by simp; omega
          have b2 : (i : Int) < (s2 : Int) := by omega
          have ad1 : IntKind.i64.wrap ((i : Int) + 1) = (i : Int) + 1 := by simp [IntKind.wrap, IntKind.bits, IntKind.signed]; omega
          have hlt : i < ts.length := by have := HL.out; omega
          obtain ⟨b, o, rfl, hbl, h9⟩ := HSS.out (by omega)
          have hbw : wr.heap[b]? = w.heap[b]? := BK.out.block b (by have := HZ.out; omega)
          have hN9 := (h9 i hlt).kept (hbw.trans (HW.out b hbl))
          have hblw : b < wr.heap.size := by have := BK.out.size; have := HZ.out; omega
          have hzl := (Array.getElem?_eq_some_iff.1 BX.out).1
          have HC := HIH.out i hlt wr.drew (by show B ≤ wr.heap.size; have := BK.out.size; have := HZ.out; omega) (fun b hb => (BK.out.block b (by have := HZ.out; omega)).trans (HW.out b hb))
          obtain ⟨M, hM⟩ : ∃ M, M = ND i := ⟨_, rfl⟩
          rw [← hM] at HC hN9
          have hS : ∀ w3, Below wr.heap.size wr w3 → w3.cell? ⟨z, 0, none⟩ = some (.int .i64 6) ∧ w3.cell? ⟨z, 3, none⟩ = some (.slice (some ⟨b, o, none⟩) s2 s3) ∧ w3.cell? ⟨b, o + i * 9, none⟩ = some (.int .i64 M.k) ∧ w3.cell? ⟨b, o + i * 9 + 1, none⟩ = some (.slice M.r1 M.r2 M.r3) ∧ w3.cell? ⟨b, o + i * 9 + 2, none⟩ = some (.int .i64 M.a2) ∧ w3.cell? ⟨b, o + i * 9 + 3, none⟩ = some (.slice M.s1 M.s2 M.s3) ∧ w3.cell? ⟨b, o + i * 9 + 4, none⟩ = some (.int .i64 M.a4) ∧ w3.cell? ⟨b, o + i * 9 + 5, none⟩ = some (.int .i64 M.a5) ∧ w3.cell? ⟨b, o + i * 9 + 6, none⟩ = some (.bool M.a6) ∧ w3.cell? ⟨b, o + i * 9 + 7, none⟩ = some (.int .i64 M.a7) ∧ w3.cell? ⟨b, o + i * 9 + 8, none⟩ = some (.string M.a8) := fun w3 h3 => by
            obtain ⟨q0, q1, q2, q3, q4, q5, q6, q7, q8⟩ := nine' ((h3.block z hzl).trans BX.out)
            obtain ⟨n0, n1, n2, n3, n4, n5, n6, n7, n8⟩ := hN9.kept (h3.block b hblw)
            exact ⟨q0, q3, n0, n1, n2, n3, n4, n5, n6, n7, n8⟩
          have HS3 := hid hS
          have HD := hid (below_drew wr)
          clear hS hN9 h9 hbw hM
          go_upto_region 8 with fail
          go_region_held2 (fun w3 => w3.cell? ⟨z, 0, none⟩ = some (.int .i64 6) ∧ w3.cell? ⟨z, 3, none⟩ = some (.slice (some ⟨b, o, none⟩) s2 s3) ∧ w3.cell? ⟨b, o + i * 9, none⟩ = some (.int .i64 M.k) ∧ w3.cell? ⟨b, o + i * 9 + 1, none⟩ = some (.slice M.r1 M.r2 M.r3) ∧ w3.cell? ⟨b, o + i * 9 + 2, none⟩ = some (.int .i64 M.a2) ∧ w3.cell? ⟨b, o + i * 9 + 3, none⟩ = some (.slice M.s1 M.s2 M.s3) ∧ w3.cell? ⟨b, o + i * 9 + 4, none⟩ = some (.int .i64 M.a4) ∧ w3.cell? ⟨b, o + i * 9 + 5, none⟩ = some (.int .i64 M.a5) ∧ w3.cell? ⟨b, o + i * 9 + 6, none⟩ = some (.bool M.a6) ∧ w3.cell? ⟨b, o + i * 9 + 7, none⟩ = some (.int .i64 M.a7) ∧ w3.cell? ⟨b, o + i * 9 + 8, none⟩ = some (.string M.a8))
            (first | exact HS3.out _ HD.out | exact HS3.out _ (HD.out.trans (Joins.below_le HB2.out HD.out.size)))
            (first | (go_at_call 21; (with_reducible refine HC.mono ?_); rintro e w2 ⟨rfl, hb2⟩; have HB2 := hid hb2; clear hb2 HC))
          all_goals
            go_wp2
            have hbb := HD.out.trans (Joins.below_le HB2.out HD.out.size)
            exact ⟨⟨i + 1, by push_cast; rfl, by omega, BK.out.trans (Joins.below_le hbb (by have := BK.out.size; have := HZ.out; omega)), (hbb.block z hzl).trans BX.out⟩, by simp [intOf]; omega⟩
        · have b1 : decide ((i : Int) < (s2 : Int)) = false := by simp; omega
          go_wp2
          all_goals go_ret
          all_goals exact ⟨rfl, by rw [← HZ.out]; exact BK.out⟩
    · clear hk6
      go_enter Try.func21, Try.ntmps21
      go_upto_region 1 with fail
      rw [← hz, ← hW]
      clear hW hz
      go_wp2_with fail
      go_loopw [5] (fun y wq => ∃ i : Nat, y = .int .i64 (i : Int) ∧ i ≤ s2 ∧ Hid (Below z w wq) ∧ Hid (BN wq z ⟨6, r1, r2, r3, a2, s1, s2, s3, 0, -1, a6, a7, a8⟩)) (fun y _ => s2 - (intOf y).toNat)
      case atStart => exact ⟨0, rfl, by omega, HBW.out, HBN.out⟩
      case round =>
        obtain ⟨i, rfl, hi, BK, BX⟩ := hrel
        clear q0 q1 q2 q3 q4 q5 q6 q7 q8
        obtain ⟨q0, q1, q2, q3, q4, q5, q6, q7, q8⟩ := nine' BX.out
        by_cases hil : i < s2
        · have b1 : decide ((i : Int) < (s2 : Int)) = true := by simp; omega
          have b2 : (i : Int) < (s2 : Int) := by omega
          have ad1 : IntKind.i64.wrap ((i : Int) + 1) = (i : Int) + 1 := by simp [IntKind.wrap, IntKind.bits, IntKind.signed]; omega
          have hlt : i < ts.length := by have := HL.out; omega
          obtain ⟨b, o, rfl, hbl, h9⟩ := HSS.out (by omega)
          have hbw : wr.heap[b]? = w.heap[b]? := BK.out.block b (by have := HZ.out; omega)
          have hN9 := (h9 i hlt).kept (hbw.trans (HW.out b hbl))
          have hblw : b < wr.heap.size := by have := BK.out.size; have := HZ.out; omega
          have hzl := (Array.getElem?_eq_some_iff.1 BX.out).1
          have HC := HIH.out i hlt wr.drew (by show B ≤ wr.heap.size; have := BK.out.size; have := HZ.out; omega) (fun b hb => (BK.out.block b (by have := HZ.out; omega)).trans (HW.out b hb))
          obtain ⟨M, hM⟩ : ∃ M, M = ND i := ⟨_, rfl⟩
          rw [← hM] at HC hN9
          have hS : ∀ w3, Below wr.heap.size wr w3 → w3.cell? ⟨z, 0, none⟩ = some (.int .i64 6) ∧ w3.cell? ⟨z, 3, none⟩ = some (.slice (some ⟨b, o, none⟩) s2 s3) ∧ w3.cell? ⟨b, o + i * 9, none⟩ = some (.int .i64 M.k) ∧ w3.cell? ⟨b, o + i * 9 + 1, none⟩ = some (.slice M.r1 M.r2 M.r3) ∧ w3.cell? ⟨b, o + i * 9 + 2, none⟩ = some (.int .i64 M.a2) ∧ w3.cell? ⟨b, o + i * 9 + 3, none⟩ = some (.slice M.s1 M.s2 M.s3) ∧ w3.cell? ⟨b, o + i * 9 + 4, none⟩ = some (.int .i64 M.a4) ∧ w3.cell? ⟨b, o + i * 9 + 5, none⟩ = some (.int .i64 M.a5) ∧ w3.cell? ⟨b, o + i * 9 + 6, none⟩ = some (.bool M.a6) ∧ w3.cell? ⟨b, o + i * 9 + 7, none⟩ = some (.int .i64 M.a7) ∧ w3.cell? ⟨b, o + i * 9 + 8, none⟩ = some (.string M.a8) := fun w3 h3 => by
            obtain ⟨q0, q1, q2, q3, q4, q5, q6, q7, q8⟩ := nine' ((h3.block z hzl).trans BX.out)
            obtain ⟨n0, n1, n2, n3, n4, n5, n6, n7, n8⟩ := hN9.kept (h3.block b hblw)
            exact ⟨q0, q3, n0, n1, n2, n3, n4, n5, n6, n7, n8⟩
          have HS3 := hid hS
          have HD := hid (below_drew wr)
          clear hS hN9 h9 hbw hM
          go_upto_region 8 with fail
          go_region_held2 (fun w3 => w3.cell? ⟨z, 0, none⟩ = some (.int .i64 6) ∧ w3.cell? ⟨z, 3, none⟩ = some (.slice (some ⟨b, o, none⟩) s2 s3) ∧ w3.cell? ⟨b, o + i * 9, none⟩ = some (.int .i64 M.k) ∧ w3.cell? ⟨b, o + i * 9 + 1, none⟩ = some (.slice M.r1 M.r2 M.r3) ∧ w3.cell? ⟨b, o + i * 9 + 2, none⟩ = some (.int .i64 M.a2) ∧ w3.cell? ⟨b, o + i * 9 + 3, none⟩ = some (.slice M.s1 M.s2 M.s3) ∧ w3.cell? ⟨b, o + i * 9 + 4, none⟩ = some (.int .i64 M.a4) ∧ w3.cell? ⟨b, o + i * 9 + 5, none⟩ = some (.int .i64 M.a5) ∧ w3.cell? ⟨b, o + i * 9 + 6, none⟩ = some (.bool M.a6) ∧ w3.cell? ⟨b, o + i * 9 + 7, none⟩ = some (.int .i64 M.a7) ∧ w3.cell? ⟨b, o + i * 9 + 8, none⟩ = some (.string M.a8))
            (first | exact HS3.out _ HD.out | exact HS3.out _ (HD.out.trans (Joins.below_le HB2.out HD.out.size)))
            (first | (go_at_call 21; (with_reducible refine HC.mono ?_); rintro e w2 ⟨rfl, hb2⟩; have HB2 := hid hb2; clear hb2 HC))
          all_goals
            go_wp2
            have hbb := HD.out.trans (Joins.below_le HB2.out HD.out.size)
            exact ⟨⟨i + 1, by push_cast; rfl, by omega, BK.out.trans (Joins.below_le hbb (by have := BK.out.size; have := HZ.out; omega)), (hbb.block z hzl).trans BX.out⟩, by simp [intOf]; omega⟩
        · have b1 : decide ((i : Int) < (s2 : Int)) = false := by simp; omega
          go_wp2
          all_goals go_ret
          all_goals exact ⟨rfl, by rw [← HZ.out]; exact BK.out⟩
    · clear hk6
      go_enter Try.func21, Try.ntmps21
      go_upto_region 1 with fail
      rw [← hz, ← hW]
      clear hW hz
      go_wp2_with fail
      go_loopw [5] (fun y wq => ∃ i : Nat, y = .int .i64 (i : Int) ∧ i ≤ s2 ∧ Hid (Below z w wq) ∧ Hid (BN wq z ⟨6, r1, r2, r3, a2, s1, s2, s3, 1, -1, a6, a7, a8⟩)) (fun y _ => s2 - (intOf y).toNat)
      case atStart => exact ⟨0, rfl, by omega, HBW.out, HBN.out⟩
      case round =>
        obtain ⟨i, rfl, hi, BK, BX⟩ := hrel
        clear q0 q1 q2 q3 q4 q5 q6 q7 q8
        obtain ⟨q0, q1, q2, q3, q4, q5, q6, q7, q8⟩ := nine' BX.out
        by_cases hil : i < s2
        · have b1 : decide ((i : Int) < (s2 : Int)) = true := by simp; omega
          have b2 : (i : Int) < (s2 : Int) := by omega
          have ad1 : IntKind.i64.wrap ((i : Int) + 1) = (i : Int) + 1 := by simp [IntKind.wrap, IntKind.bits, IntKind.signed]; omega
          have hlt : i < ts.length := by have := HL.out; omega
          obtain ⟨b, o, rfl, hbl, h9⟩ := HSS.out (by omega)
          have hbw : wr.heap[b]? = w.heap[b]? := BK.out.block b (by have := HZ.out; omega)
          have hN9 := (h9 i hlt).kept (hbw.trans (HW.out b hbl))
          have hblw : b < wr.heap.size := by have := BK.out.size; have := HZ.out; omega
          have hzl := (Array.getElem?_eq_some_iff.1 BX.out).1
          have HC := HIH.out i hlt wr.drew (by show B ≤ wr.heap.size; have := BK.out.size; have := HZ.out; omega) (fun b hb => (BK.out.block b (by have := HZ.out; omega)).trans (HW.out b hb))
          obtain ⟨M, hM⟩ : ∃ M, M = ND i := ⟨_, rfl⟩
          rw [← hM] at HC hN9
          have hS : ∀ w3, Below wr.heap.size wr w3 → w3.cell? ⟨z, 0, none⟩ = some (.int .i64 6) ∧ w3.cell? ⟨z, 3, none⟩ = some (.slice (some ⟨b, o, none⟩) s2 s3) ∧ w3.cell? ⟨b, o + i * 9, none⟩ = some (.int .i64 M.k) ∧ w3.cell? ⟨b, o + i * 9 + 1, none⟩ = some (.slice M.r1 M.r2 M.r3) ∧ w3.cell? ⟨b, o + i * 9 + 2, none⟩ = some (.int .i64 M.a2) ∧ w3.cell? ⟨b, o + i * 9 + 3, none⟩ = some (.slice M.s1 M.s2 M.s3) ∧ w3.cell? ⟨b, o + i * 9 + 4, none⟩ = some (.int .i64 M.a4) ∧ w3.cell? ⟨b, o + i * 9 + 5, none⟩ = some (.int .i64 M.a5) ∧ w3.cell? ⟨b, o + i * 9 + 6, none⟩ = some (.bool M.a6) ∧ w3.cell? ⟨b, o + i * 9 + 7, none⟩ = some (.int .i64 M.a7) ∧ w3.cell? ⟨b, o + i * 9 + 8, none⟩ = some (.string M.a8) := fun w3 h3 => by
            obtain ⟨q0, q1, q2, q3, q4, q5, q6, q7, q8⟩ := nine' ((h3.block z hzl).trans BX.out)
            obtain ⟨n0, n1, n2, n3, n4, n5, n6, n7, n8⟩ := hN9.kept (h3.block b hblw)
            exact ⟨q0, q3, n0, n1, n2, n3, n4, n5, n6, n7, n8⟩
          have HS3 := hid hS
          have HD := hid (below_drew wr)
          clear hS hN9 h9 hbw hM
          go_upto_region 8 with fail
          go_region_held2 (fun w3 => w3.cell? ⟨z, 0, none⟩ = some (.int .i64 6) ∧ w3.cell? ⟨z, 3, none⟩ = some (.slice (some ⟨b, o, none⟩) s2 s3) ∧ w3.cell? ⟨b, o + i * 9, none⟩ = some (.int .i64 M.k) ∧ w3.cell? ⟨b, o + i * 9 + 1, none⟩ = some (.slice M.r1 M.r2 M.r3) ∧ w3.cell? ⟨b, o + i * 9 + 2, none⟩ = some (.int .i64 M.a2) ∧ w3.cell? ⟨b, o + i * 9 + 3, none⟩ = some (.slice M.s1 M.s2 M.s3) ∧ w3.cell? ⟨b, o + i * 9 + 4, none⟩ = some (.int .i64 M.a4) ∧ w3.cell? ⟨b, o + i * 9 + 5, none⟩ = some (.int .i64 M.a5) ∧ w3.cell? ⟨b, o + i * 9 + 6, none⟩ = some (.bool M.a6) ∧ w3.cell? ⟨b, o + i * 9 + 7, none⟩ = some (.int .i64 M.a7) ∧ w3.cell? ⟨b, o + i * 9 + 8, none⟩ = some (.string M.a8))
            (first | exact HS3.out _ HD.out | exact HS3.out _ (HD.out.trans (Joins.below_le HB2.out HD.out.size)))
            (first | (go_at_call 21; (with_reducible refine HC.mono ?_); rintro e w2 ⟨rfl, hb2⟩; have HB2 := hid hb2; clear hb2 HC))
          all_goals
            go_wp2
            have hbb := HD.out.trans (Joins.below_le HB2.out HD.out.size)
            exact ⟨⟨i + 1, by push_cast; rfl, by omega, BK.out.trans (Joins.below_le hbb (by have := BK.out.size; have := HZ.out; omega)), (hbb.block z hzl).trans BX.out⟩, by simp [intOf]; omega⟩
        · have b1 : decide ((i : Int) < (s2 : Int)) = false := by simp; omega
          go_wp2
          all_goals go_ret
          all_goals exact ⟨rfl, by rw [← HZ.out]; exact BK.out⟩
  · clear e1 e4 e5 hk6
    go_enter Try.func21, Try.ntmps21
    go_upto_region 1 with fail
    rw [← hz, ← hW]
    clear hW hz
    go_wp2_with fail
    go_loopw [5] (fun y wq => ∃ i : Nat, y = .int .i64 (i : Int) ∧ i ≤ s2 ∧ Hid (Below z w wq) ∧ Hid (BN wq z ⟨7, r1, r2, r3, a2, s1, s2, s3, a4, a5, a6, a7, a8⟩)) (fun y _ => s2 - (intOf y).toNat)
    case atStart => exact ⟨0, rfl, by omega, HBW.out, HBN.out⟩
    case round =>
      obtain ⟨i, rfl, hi, BK, BX⟩ := hrel
      clear q0 q1 q2 q3 q4 q5 q6 q7 q8
      obtain ⟨q0, q1, q2, q3, q4, q5, q6, q7, q8⟩ := nine' BX.out
      by_cases hil : i < s2
      · have b1 : decide ((i : Int) < (s2 : Int)) = true := by simp; omega
        have b2 : (i : Int) < (s2 : Int) := by omega
        have ad1 : IntKind.i64.wrap ((i : Int) + 1) = (i : Int) + 1 := by simp [IntKind.wrap, IntKind.bits, IntKind.signed]; omega
        have hlt : i < ts.length := by have := HL.out; omega
        obtain ⟨b, o, rfl, hbl, h9⟩ := HSS.out (by omega)
        have hbw : wr.heap[b]? = w.heap[b]? := BK.out.block b (by have := HZ.out; omega)
        have hN9 := (h9 i hlt).kept (hbw.trans (HW.out b hbl))
        have hblw : b < wr.heap.size := by have := BK.out.size; have := HZ.out; omega
        have hzl := (Array.getElem?_eq_some_iff.1 BX.out).1
        have HC := HIH.out i hlt wr.drew (by show B ≤ wr.heap.size; have := BK.out.size; have := HZ.out; omega) (fun b hb => (BK.out.block b (by have := HZ.out; omega)).trans (HW.out b hb))
        obtain ⟨M, hM⟩ : ∃ M, M = ND i := ⟨_, rfl⟩
        rw [← hM] at HC hN9
        have hS : ∀ w3, Below wr.heap.size wr w3 → w3.cell? ⟨z, 0, none⟩ = some (.int .i64 7) ∧ w3.cell? ⟨z, 3, none⟩ = some (.slice (some ⟨b, o, none⟩) s2 s3) ∧ w3.cell? ⟨b, o + i * 9, none⟩ = some (.int .i64 M.k) ∧ w3.cell? ⟨b, o + i * 9 + 1, none⟩ = some (.slice M.r1 M.r2 M.r3) ∧ w3.cell? ⟨b, o + i * 9 + 2, none⟩ = some (.int .i64 M.a2) ∧ w3.cell? ⟨b, o + i * 9 + 3, none⟩ = some (.slice M.s1 M.s2 M.s3) ∧ w3.cell? ⟨b, o + i * 9 + 4, none⟩ = some (.int .i64 M.a4) ∧ w3.cell? ⟨b, o + i * 9 + 5, none⟩ = some (.int .i64 M.a5) ∧ w3.cell? ⟨b, o + i * 9 + 6, none⟩ = some (.bool M.a6) ∧ w3.cell? ⟨b, o + i * 9 + 7, none⟩ = some (.int .i64 M.a7) ∧ w3.cell? ⟨b, o + i * 9 + 8, none⟩ = some (.string M.a8) := fun w3 h3 => by
          obtain ⟨q0, q1, q2, q3, q4, q5, q6, q7, q8⟩ := nine' ((h3.block z hzl).trans BX.out)
          obtain ⟨n0, n1, n2, n3, n4, n5, n6, n7, n8⟩ := hN9.kept (h3.block b hblw)
          exact ⟨q0, q3, n0, n1, n2, n3, n4, n5, n6, n7, n8⟩
        have HS3 := hid hS
        have HD := hid (below_drew wr)
        clear hS hN9 h9 hbw hM
        go_upto_region 8 with fail
        go_region_held2 (fun w3 => w3.cell? ⟨z, 0, none⟩ = some (.int .i64 7) ∧ w3.cell? ⟨z, 3, none⟩ = some (.slice (some ⟨b, o, none⟩) s2 s3) ∧ w3.cell? ⟨b, o + i * 9, none⟩ = some (.int .i64 M.k) ∧ w3.cell? ⟨b, o + i * 9 + 1, none⟩ = some (.slice M.r1 M.r2 M.r3) ∧ w3.cell? ⟨b, o + i * 9 + 2, none⟩ = some (.int .i64 M.a2) ∧ w3.cell? ⟨b, o + i * 9 + 3, none⟩ = some (.slice M.s1 M.s2 M.s3) ∧ w3.cell? ⟨b, o + i * 9 + 4, none⟩ = some (.int .i64 M.a4) ∧ w3.cell? ⟨b, o + i * 9 + 5, none⟩ = some (.int .i64 M.a5) ∧ w3.cell? ⟨b, o + i * 9 + 6, none⟩ = some (.bool M.a6) ∧ w3.cell? ⟨b, o + i * 9 + 7, none⟩ = some (.int .i64 M.a7) ∧ w3.cell? ⟨b, o + i * 9 + 8, none⟩ = some (.string M.a8))
          (first | exact HS3.out _ HD.out | exact HS3.out _ (HD.out.trans (Joins.below_le HB2.out HD.out.size)))
          (first | (go_at_call 21; (with_reducible refine HC.mono ?_); rintro e w2 ⟨rfl, hb2⟩; have HB2 := hid hb2; clear hb2 HC))
        all_goals
          go_wp2
          have hbb := HD.out.trans (Joins.below_le HB2.out HD.out.size)
          exact ⟨⟨i + 1, by push_cast; rfl, by omega, BK.out.trans (Joins.below_le hbb (by have := BK.out.size; have := HZ.out; omega)), (hbb.block z hzl).trans BX.out⟩, by simp [intOf]; omega⟩
      · have b1 : decide ((i : Int) < (s2 : Int)) = false := by simp; omega
        go_wp2
        all_goals go_ret
        all_goals exact ⟨rfl, by rw [← HZ.out]; exact BK.out⟩
end Go.Proofs.Ytdidopgenhpakaa
