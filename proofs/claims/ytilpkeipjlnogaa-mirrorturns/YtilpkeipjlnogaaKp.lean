/- HELPERS: the marks behind the lists of a tree that was lent. -/
import Derived.Test.YtilpkeipjlnogaaLe
namespace Go.Proofs.Ytilpkeipjlnogaa
open Go.RowKit
set_option linter.unusedVariables false
set_option linter.unusedSimpArgs false
theorem O2_app_at (R : List (Int × Int)) : (O2 (R ++ M2))[R.length * 2]? = some (.int .i64 (-77)) ∧ (O2 (R ++ M2))[(R.length + 1) * 2]? = some (.int .i64 (-78)) := by
  have h1 := O2_at (R ++ M2) R.length (by simp [M2])
  have h2 := O2_at (R ++ M2) (R.length + 1) (by simp [M2])
  refine ⟨h1.1.trans ?_, h2.1.trans ?_⟩ <;> simp [M2]
theorem nodes_app_at (MS : List Nv) : ((MS ++ [mk7 (-77), mk7 (-78)]).flatMap Nv.cs)[MS.length * 9]? = some (.int .i64 (-77)) ∧ ((MS ++ [mk7 (-77), mk7 (-78)]).flatMap Nv.cs)[(MS.length + 1) * 9]? = some (.int .i64 (-78)) := by
  have h1 := flat9 (MS ++ [mk7 (-77), mk7 (-78)]) MS.length 0 (by simp) (by omega)
  have h2 := flat9 (MS ++ [mk7 (-77), mk7 (-78)]) (MS.length + 1) 0 (by simp) (by omega)
  refine ⟨h1.trans ?_, h2.trans ?_⟩ <;> simp
/-- a list of a lent tree, its block and cells -/
theorem row_two {w : World} {base e size n : Nat} {a : Option Addr} {c : Nat} {xs : List Value} (h : w.ownsRow base e size (.slice a (n + 2) c) (n + 2) xs) : ∃ b, a = some ⟨b, 0, none⟩ ∧ n + 2 ≤ c ∧ c ≤ maxLen ∧ ∀ j, j < (n + 2) * size → w.cell? ⟨b, j, none⟩ = xs[j]? := by
  rcases h.2 with ⟨e, h0⟩ | ⟨b, cap, cur, e, h1, h2, h3, h4, _⟩
  · omega
  · have hrow := h
    rw [e] at hrow
    simp only [Value.slice.injEq] at e
    obtain ⟨e1, _, rfl⟩ := e
    exact ⟨b, e1, h3, h4, fun j hj => hrow.cellAt j hj⟩
set_option maxRecDepth 100000 in
set_option maxHeartbeats 8000000 in
theorem kept14 {w0 : World} {N : Nv} {t : Tn} {A : Nat → Prop} (h : TL w0 N t A) : ∀ w : World, (∀ b, A b → w.heap[b]? = w0.heap[b]?) → Calls Try.prog 14 #[N.v] w fun e w' => e = .returned (.bool true) ∧ Below w.heap.size w w' := by
  induction h with
  | @mk N R ts ND AS ok hRk e1 e2 rr sr hk d1 d2 d3 ih =>
  intro w hw
  have IH : ∀ i (hi : i < ts.length) (w : World), (∀ b, AS i b → w.heap[b]? = w0.heap[b]?) → Calls Try.prog 14 #[(ND i).v] w fun e w' => e = .returned (.bool true) ∧ Below w.heap.size w w' := ih
  have hrr := row_kept rr (w' := w) (fun b hb => hw b (.inl ((ob_len _ _ _ _ _).trans hb)))
  have hsr := row_kept sr (w' := w) (fun b hb => hw b (.inr (.inl ((ob_len _ _ _ _ _).trans hb))))
  have hww : ∀ i b, i < ts.length → AS i b → w.heap[b]? = w0.heap[b]? := fun i b hi hb => hw b (.inr (.inr ⟨i, hi, hb⟩))
  have hlow : ∀ i b, i < ts.length → AS i b → b < w.heap.size := fun i b hi hb => by
    have h1 := (hk i hi).low b hb
    have h2 := hww i b hi hb
    rw [Array.getElem?_eq_getElem h1] at h2
    exact (Array.getElem?_eq_some_iff.1 h2).1
  obtain ⟨br, hbr, hrc, hrm, hcr⟩ := row_two hrr
  obtain ⟨bs, hbs, hsc, hsm, hcs⟩ := row_two hsr
  have m1 := (hcr (R.length * 2) (by omega)).trans (O2_app_at R).1
  have m2 := (hcr ((R.length + 1) * 2) (by omega)).trans (O2_app_at R).2
  have hna := nodes_app_at ((List.range ts.length).map ND)
  simp only [List.length_map, List.length_range] at hna
  have m3 := (hcs (ts.length * 9) (by omega)).trans hna.1
  have m4 := (hcs ((ts.length + 1) * 9) (by omega)).trans hna.2
  have hlr : br < w.heap.size := World.block_lt_of_cell? _ _ m1
  have hls : bs < w.heap.size := World.block_lt_of_cell? _ _ m3
  have hchild : ∀ i, i < ts.length → N9 w bs 0 i (ND i) := fun i hi => by
    have c : ∀ k, k < 9 → w.cell? ⟨bs, 0 + i * 9 + k, none⟩ = (Nv.cs (ND i))[k]? := fun k hk => by
      rw [Nat.zero_add, hcs (i * 9 + k) (by omega)]
      have := flat9 ((List.range ts.length).map ND ++ [mk7 (-77), mk7 (-78)]) i k (by simp; omega) hk
      rw [this, List.getElem_append_left (by simpa using hi)]
      simp
    exact ⟨c 0 (by omega), c 1 (by omega), c 2 (by omega), c 3 (by omega), c 4 (by omega), c 5 (by omega), c 6 (by omega), c 7 (by omega), c 8 (by omega)⟩
  obtain ⟨k, r1, r2, r3, a2, s1, s2, s3, a4, a5, a6, a7, a8⟩ := N
  dsimp only at e1 e2 hbr hbs hrc hsc hrm hsm
  subst hbr hbs
  rw [← e1] at m1 m2 hrc
  rw [← e2] at m3 m4 hsc
  have hm : maxLen = 9223372036854775807 := rfl
  have hr9 : r2 + 2 ≤ 9223372036854775807 := by omega
  have hs9 : s2 + 2 ≤ 9223372036854775807 := by omega
  have w1 : IntKind.i64.wrap ((r2 : Int) + 2) = (r2 : Int) + 2 := by simp [IntKind.wrap, IntKind.bits, IntKind.signed]; omega
  have w2 : IntKind.i64.wrap ((s2 : Int) + 2) = (s2 : Int) + 2 := by simp [IntKind.wrap, IntKind.bits, IntKind.signed]; omega
  have w3 : IntKind.i64.wrap ((r2 : Int) + 1) = (r2 : Int) + 1 := by simp [IntKind.wrap, IntKind.bits, IntKind.signed]; omega
  have w4 : IntKind.i64.wrap ((s2 : Int) + 1) = (s2 : Int) + 1 := by simp [IntKind.wrap, IntKind.bits, IntKind.signed]; omega
  have j1 : (r2 : Int) + 2 ≤ (r3 : Int) := by omega
  have j2 : (s2 : Int) + 2 ≤ (s3 : Int) := by omega
  have j3 : (r2 : Int) < (r2 : Int) + 2 := by omega
  have j4 : (r2 : Int) + 1 < (r2 : Int) + 2 := by omega
  have j5 : (s2 : Int) < (s2 : Int) + 2 := by omega
  have j6 : (s2 : Int) + 1 < (s2 : Int) + 2 := by omega
  have HIH := hid IH
  have HWW := hid hww
  have HLO := hid hlow
  have HCH := hid hchild
  have HL := hid e2
  have HOK := hid ok
  clear ok hRk e1 e2 rr sr hk d1 d2 d3 ih IH hrr hsr hww hlow hchild hcr hcs hna hw hrm hsm hm
  go_enter Try.func14, Try.ntmps14
  go_wp2_with fail
  obtain ⟨W, hW⟩ : ∃ W, W = w.alloc (.cells #[.int .i64 k, .slice (some ⟨br, 0, none⟩) r2 r3, .int .i64 a2, .slice (some ⟨bs, 0, none⟩) s2 s3, .int .i64 a4, .int .i64 a5, .bool a6, .int .i64 a7, .string a8] 25) := ⟨_, rfl⟩
  rw [← hW]
  have HX : Hid (BxN W w.heap.size ⟨k, some ⟨br, 0, none⟩, r2, r3, a2, some ⟨bs, 0, none⟩, s2, s3, a4, a5, a6, a7, a8⟩) := by rw [hW]; exact heap_alloc_new w _
  have HB : Hid (Below w.heap.size w W) := by rw [hW]; exact Joins.below_alloc1 w _
  have hxl : w.heap.size < W.heap.size := by rw [hW]; simp
  clear hW m1 m2 m3 m4
  go_loopw [7] (fun y wq => ∃ i : Nat, y = .int .i64 (i : Int) ∧ i ≤ s2 ∧ Hid (Below W.heap.size W wq)) (fun y _ => s2 - (intOf y).toNat)
  case atStart => exact ⟨0, rfl, by omega, Below.refl _ _⟩
  case round =>
    obtain ⟨i, rfl, hi, BK⟩ := hrel
    obtain ⟨o0, o1, o2, o3, o4, o5, o6, o7, o8⟩ := nine' ((BK.out.block w.heap.size hxl).trans HX.out)
    have hbw : Below w.heap.size w wr := HB.out.trans (Joins.below_le BK.out HB.out.size)
    by_cases hil : i < s2
    · have b1 : decide ((i : Int) < (s2 : Int)) = true := by simp; omega
      have b2 : (i : Int) < (s2 : Int) := by omega
      have hlt : i < ts.length := by rw [← HL.out]; exact hil
      obtain ⟨n0, n1, n2, n3, n4, n5, n6, n7, n8⟩ := (HCH.out i hlt).kept (hbw.block bs hls)
      simp only [Nat.zero_add] at n0 n1 n2 n3 n4 n5 n6 n7 n8
      have HC := HIH.out i hlt wr (fun b hb => (hbw.block b (HLO.out i b hlt hb)).trans (HWW.out i b hlt hb))
      have ad1 : IntKind.i64.wrap ((i : Int) + 1) = (i : Int) + 1 := by simp [IntKind.wrap, IntKind.bits, IntKind.signed]; omega
      obtain ⟨P, hP⟩ : ∃ P, P = ND i := ⟨_, rfl⟩
      rw [← hP] at HC n0 n1 n2 n3 n4 n5 n6 n7 n8
      clear hP hbw
      go_wp2_with (first | (go_at_call 14; (with_reducible refine HC.mono ?_); rintro e w2 ⟨rfl, hb2⟩; have HB2 := hid hb2; clear hb2 HC))
      exact ⟨⟨i + 1, by push_cast; rfl, by omega, BK.out.trans (Joins.below_le HB2.out BK.out.size)⟩, by simp [intOf]; omega⟩
    · have b1 : decide ((i : Int) < (s2 : Int)) = false := by simp; omega
      have HBW := hid hbw
      clear hbw
      go_wp2
      go_ret
      exact ⟨rfl, HBW.out⟩
end Go.Proofs.Ytilpkeipjlnogaa
