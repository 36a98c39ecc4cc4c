/- HELPERS: the document's Back; rows of numbers that are the same. -/
import Derived.Test.YtilpkeipjlnogaaAw
import Derived.Test.YtilpkeipjlnogaaNm
import Derived.Deep.DrawnRows
namespace Go.Proofs.Ytilpkeipjlnogaa
open Go.RowKit
set_option linter.unusedVariables false
set_option linter.unusedSimpArgs false
attribute [local go_sem ↓] Go.wp_at_zero Go.wp_at_succ
theorem row_src {w : World} {base n : Nat} {a : Option Addr} {c : Nat} {l : List Int} (h : w.ownsRow base 3 1 (.slice a n c) n (I64 l)) : SrcI w a l := fun hp => by
  have hl := h.1
  simp only [List.length_map, Nat.mul_one] at hl
  rcases h.2 with ⟨e, h0⟩ | ⟨g, cap, cur, e, _⟩
  · omega
  · have hrow := h
    rw [e] at hrow
    simp only [Value.slice.injEq] at e
    refine ⟨g, 0, e.1, (h.lt g (by rw [e.1]; rfl)).2, fun k hk => ?_⟩
    rw [Nat.zero_add, hrow.cellAt k (by omega)]
    simp [List.getElem?_eq_getElem hk]
theorem SrcI.at {w w' : World} {ad : Option Addr} {l : List Int} (h : SrcI w ad l) (hs : w.heap.size ≤ w'.heap.size) (hk : ∀ b, b < w.heap.size → w'.heap[b]? = w.heap[b]?) : SrcI w' ad l := fun hp => by
  obtain ⟨b, o, h1, h2, h3⟩ := h hp
  exact ⟨b, o, h1, by omega, fun k hk' => (cell_eq (hk b h2) _).trans (h3 k hk')⟩
set_option maxRecDepth 100000 in
set_option maxHeartbeats 4000000 in
theorem same21 (l : List Int) (n : Nat) (a1 a2 : Option Addr) (c1 c2 : Nat) (w : World) (hl : n = l.length) (hn : n * 8 ≤ 140737488351232) (h1 : SrcI w a1 l) (h2 : SrcI w a2 l) :
    Calls Try.prog 21 #[.slice a1 n c1, .slice a2 n c2] w fun e w' => e = .returned (.bool true) ∧ Below w.heap.size w w' := by
  have H1 := hid h1
  have H2 := hid h2
  have HL := hid hl
  clear h1 h2 hl
  go_enter Try.func21, Try.ntmps21
  go_wp2_with fail
  go_loopw [5] (fun y wq => ∃ i : Nat, y = .int .i64 (i : Int) ∧ i ≤ n ∧ Hid (Below w.heap.size w wq)) (fun y _ => n - (intOf y).toNat)
  case atStart => exact ⟨0, rfl, by omega, Below.refl _ _⟩
  case round =>
    obtain ⟨i, rfl, hi, BK⟩ := hrel
    by_cases hil : i < n
    · have b1 : decide ((i : Int) < (n : Int)) = true := by simp; omega
      have b2 : (i : Int) < (n : Int) := by omega
      have hlt : i < l.length := by have := HL.out; omega
      obtain ⟨b, o, rfl, hb, hc⟩ := H1.out (by omega)
      obtain ⟨b', o', rfl, hb', hc'⟩ := H2.out (by omega)
      have n0 := (cell_eq (BK.out.block b hb) _).trans (hc i hlt)
      have m0 := (cell_eq (BK.out.block b' hb') _).trans (hc' i hlt)
      have ad1 : IntKind.i64.wrap ((i : Int) + 1) = (i : Int) + 1 := by simp [IntKind.wrap, IntKind.bits, IntKind.signed]; omega
      obtain ⟨z, hz⟩ : ∃ z, z = l[i] := ⟨_, rfl⟩
      rw [← hz] at n0 m0
      clear hc hc' hz
      go_wp2_with fail
      go_quiet (fail)
      go_wp2
      exact ⟨⟨i + 1, by push_cast; rfl, by omega, BK.out.trans ⟨rfl, rfl, rfl, Nat.le_refl _, fun _ _ => rfl⟩⟩, by simp [intOf]; omega⟩
    · have b1 : decide ((i : Int) < (n : Int)) = false := by simp; omega
      go_wp2
      go_ret
      exact ⟨rfl, BK.out⟩
set_option maxRecDepth 100000 in
set_option maxHeartbeats 4000000 in
theorem rback19 (l : List Int) (n : Nat) (ad : Option Addr) (cap : Nat) (w : World) (hl : n = l.length) (hn : n * 8 ≤ 140737488351232) (hs : SrcI w ad l) :
    Calls Try.prog 19 #[.slice ad n cap] w fun e w' => ∃ a c, e = .returned (.slice a n c) ∧ w'.ownsRow w.heap.size 3 1 (.slice a n c) n (I64 l.reverse) ∧ Below w.heap.size w w' := by
  obtain ⟨i3, hi3, hz30, hz31, hz32⟩ := info_parts info3
  have HS := hid hs
  have HL := hid hl
  clear hs hl
  go_enter Try.func19, Try.ntmps19
  go_wp2_with fail
  go_loopw [3, 4] (fun u y wq => ∃ (k : Nat) (a : Option Addr) (c : Nat), u = .slice a k c ∧ y = .int .i64 ((n : Int) - 1 - (k : Int)) ∧ k ≤ n ∧ Hid (wq.ownsRow w.heap.size 3 1 (.slice a k c) k (I64 (l.reverse.take k))) ∧ Hid (Below w.heap.size w wq)) (fun _ y _ => (intOf y + 1).toNat)
  case atStart =>
    refine ⟨0, none, 0, rfl, ?_, by omega, World.ownsRow_nil _ _ _ _, Below.refl _ _⟩
    simp [IntKind.wrap, IntKind.bits, IntKind.signed]
  case round =>
    obtain ⟨k, a, c, rfl, rfl, hk, HR, BK⟩ := hrel
    by_cases hkl : k < n
    · have b1 : decide ((n : Int) - 1 - (k : Int) ≥ 0) = true := by simp; omega
      have b1' : decide (0 ≤ (n : Int) - 1 - (k : Int)) = true := by simp; omega
      obtain ⟨q, hq⟩ : ∃ q : Nat, (n : Int) - 1 - (k : Int) = (q : Int) := ⟨n - 1 - k, by omega⟩
      rw [hq] at b1 b1' ⊢
      have b2 : (q : Int) < (n : Int) := by omega
      have hql : q < l.length := by have := HL.out; omega
      have ad1 : IntKind.i64.wrap ((q : Int) - 1) = (q : Int) - 1 := by simp [IntKind.wrap, IntKind.bits, IntKind.signed]; omega
      obtain ⟨b, o, rfl, hb, hc⟩ := HS.out (by omega)
      have n0 := (cell_eq (BK.out.block b hb) _).trans (hc q hql)
      have hrev : l.reverse.take (k + 1) = l.reverse.take k ++ [l[q]] := by
        have hkr : k < l.reverse.length := by simp; have := HL.out; omega
        rw [List.take_succ_eq_append_getElem hkr, List.getElem_reverse]
        have : l.length - 1 - k = q := by have := HL.out; omega
        simp only [this]
      obtain ⟨z, hz⟩ : ∃ z, z = l[q] := ⟨_, rfl⟩
      rw [← hz] at n0 hrev
      have HREV := hid hrev
      have HQ := hid hq
      have HSRC : Hid ((wr.alloc (.cells #[.int .i64 z] 3)).ownsRow 0 3 1 (.slice (some ⟨wr.heap.size, 0, none⟩) 1 1) 1 [.int .i64 z]) :=
        World.ownsRow_lit (base := 0) (e := 3) (size := 1) wr #[.int .i64 z] 1 (by omega) (by unfold maxLen; omega) rfl
      have hws := BK.out.size
      clear hc hz hrev hq
      go_wp2_with (first | (at_builtin; refine wpList_append_row rfl (.tmp 12) (.tmp 17) 39 rfl w.heap.size 3 i3 (.int .i64 0) 1 8 Try.underlying39 hi3 hz30 hz31 hz32 rfl (by decide) (.slice a k c) k (I64 (l.reverse.take k)) rfl (HR.out.alloc _) (.slice (some ⟨wr.heap.size, 0, none⟩) 1 1) 1 0 [.int .i64 z] rfl HSRC.out (by omega) (by simp [Value.oneCell']) (by unfold maxLen; omega) (by omega) (by simp; omega) ?_; intro v4 w4 ho4 hf4 _; obtain ⟨p3, p4, rfl, _⟩ := row_shape ho4.out))
      have hold : ∀ b, b < w.heap.size → w4.heap[b]? = w.heap[b]? := fun b hb => (hf4.out.block b (by simp; omega) (fun h => by have := (HR.out.lt b h).1; omega)).trans ((heap_alloc_old _ _ (by omega)).trans (BK.out.block b hb))
      refine ⟨⟨k + 1, _, _, rfl, ?_, by omega, ?_, ⟨hf4.out.os.trans BK.out.os, hf4.out.tape.trans BK.out.tape, hf4.out.output.trans BK.out.output, by have := hf4.out.size; simp at this; omega, hold⟩⟩, ?_⟩
      · have := HQ.out; congr 1; push_cast; omega
      · show w4.ownsRow _ 3 1 _ (k + 1) (I64 (l.reverse.take (k + 1)))
        rw [HREV.out]
        have := ho4.out
        simpa [I64] using this
      · simp [intOf]
    · have b1 : decide ((n : Int) - 1 - (k : Int) ≥ 0) = false := by simp; omega
      have b1' : decide (0 ≤ (n : Int) - 1 - (k : Int)) = false := by simp; omega
      obtain rfl : k = n := by omega
      go_wp2
      go_ret
      refine ⟨_, _, rfl, ?_, BK.out⟩
      have := HR.out
      rwa [List.take_of_length_le (by simp; have := HL.out; omega)] at this
end Go.Proofs.Ytilpkeipjlnogaa
