/- HELPERS: awake. -/
import Derived.Test.YtnecakampgdhcaaMA
import Derived.Test.YtnecakampgdhcaaCe
namespace Go.Proofs.Ytnecakampgdhcaa
open Go.RowKit
set_option linter.unusedVariables false
set_option linter.unusedSimpArgs false
abbrev L4 : List In := [⟨3, 1, 0, 0, []⟩, ⟨1, 2, 0, 0, [(97, 97)]⟩, ⟨3, 3, 0, 1, []⟩, ⟨5, 0, 0, 0, []⟩]
theorem may4 : mayB L4 0 2 = true := by kernel_rfl
theorem may0 : mayB [] 0 0 = false := by kernel_rfl
abbrev N4 (q1 : Option Addr) (q3 : Nat) : List Iv := [⟨3, 1, 0, 0, none, 0, 0⟩, ⟨1, 2, 0, 0, q1, 1, q3⟩, ⟨3, 3, 0, 1, none, 0, 0⟩, ⟨5, 0, 0, 0, none, 0, 0⟩]
theorem pi4 {w : World} {base : Nat} {z1 q1 : Option Addr} {c q3 : Nat} (h : w.ownsRow base 51 5 (.slice z1 4 c) 4 (F4 q1 q3)) (hq : RowAt w.heap.size w (.slice q1 1 q3) [(97, 97)]) : PI w w.heap.size z1 4 L4 := by
  refine ⟨rfl, fun _ => ?_⟩
  rcases h.2 with ⟨_, h0⟩ | ⟨b, cap, cur, e, _⟩
  · omega
  · simp only [Value.slice.injEq] at e
    have hb := (h.lt b (by rw [e.1]; rfl)).2
    rw [e.1] at h
    have hF : F4 q1 q3 = (N4 q1 q3).flatMap Iv.cs := by simp [F4, N4]
    refine ⟨b, 0, fun i => (N4 q1 q3).getD i default, e.1, hb, fun i hi => ⟨?_, ?_⟩⟩
    · have hi4 : i < (N4 q1 q3).length := by simpa using hi
      have f : ∀ k, k < 5 → w.cell? ⟨b, i * 5 + k, none⟩ = (Iv.cs (N4 q1 q3)[i])[k]? := fun k hk => by
        rw [h.cellAt (i * 5 + k) (by simp at hi; omega), hF, flat5 (N4 q1 q3) i k hi4 hk]
      have f0 := f 0 (by omega)
      rw [Nat.add_zero] at f0
      show I5 w b 0 i ((N4 q1 q3).getD i default)
      rw [show (N4 q1 q3).getD i default = (N4 q1 q3)[i] by simp only [List.getD_eq_getElem?_getD, List.getElem?_eq_getElem hi4, Option.getD_some]]
      unfold I5
      rw [Nat.zero_add]
      exact ⟨f0, f 1 (by omega), f 2 (by omega), f 3 (by omega), f 4 (by omega)⟩
    · have nil : ∀ a b c d : Int, IM w w.heap.size ⟨a, b, c, d, none, 0, 0⟩ ⟨a, b, c, d, []⟩ := fun a b c d => ⟨rfl, rfl, rfl, rfl, rfl, by show 0 * 16 ≤ _; omega, ⟨none, 0, rfl, .inl rfl⟩⟩
      match i, hi with
      | 0, _ => exact nil _ _ _ _
      | 1, _ => exact ⟨rfl, rfl, rfl, rfl, rfl, by show 1 * 16 ≤ _; omega, hq⟩
      | 2, _ => exact nil _ _ _ _
      | 3, _ => exact nil _ _ _ _
abbrev A4 (g : Nat) : Array Value := #[.int .i64 3, .int .i64 1, .int .i64 0, .int .i64 0, .slice none 0 0, .int .i64 1, .int .i64 2, .int .i64 0, .int .i64 0, .slice (some ⟨g, 0, none⟩) 1 1, .int .i64 3, .int .i64 3, .int .i64 0, .int .i64 1, .slice none 0 0, .int .i64 5, .int .i64 0, .int .i64 0, .int .i64 0, .slice none 0 0]
set_option maxRecDepth 100000 in
set_option maxHeartbeats 8000000 in
theorem awake7 (w : World) : Calls Try.prog 7 #[] w fun e w' => e = .returned (.bool true) ∧ Below w.heap.size w w' := by
  go_enter Try.func7, Try.ntmps7
  go_upto_region 2 with fail
  obtain ⟨U, hU⟩ : ∃ U, U = w.alloc (.cells #[.int .i64 97, .int .i64 97] 49) := ⟨_, rfl⟩
  rw [← hU]
  have hbU : Below w.heap.size w U := by rw [hU]; exact Joins.below_alloc1 w _
  have hG : U.heap[w.heap.size]? = some (.cells #[.int .i64 97, .int .i64 97] 49 (0, 0)) := by rw [hU]; exact heap_alloc_new w _
  have hgU : w.heap.size < U.heap.size := (Array.getElem?_eq_some_iff.1 hG).1
  obtain ⟨g, hg⟩ : ∃ g, g = w.heap.size := ⟨_, rfl⟩
  rw [← hg] at hbU hG hgU ⊢
  have HG := hid hG
  have HB := hid hbU
  have HGE := hid hg
  have rowG : ∀ W : World, W.heap[g]? = some (.cells #[.int .i64 97, .int .i64 97] 49 (0, 0)) → RowAt W.heap.size W (.slice (some ⟨g, 0, none⟩) 1 1) [(97, 97)] := fun W hW =>
    ⟨some ⟨g, 0, none⟩, 1, rfl, .inr ⟨g, 0, rfl, (Array.getElem?_eq_some_iff.1 hW).1, fun k hk => by have : k = 0 := (by simpa using hk); subst this; exact Joins.cell_of_block hW 0, fun k hk => by have : k = 0 := (by simpa using hk); subst this; exact Joins.cell_of_block hW 1⟩⟩
  have HRG := hid rowG
  have HC := compile20 (rowG U hG) ⟨Nat.le_refl _, by unfold maxLen; omega⟩
  clear hU hbU hG hg rowG
  go_upto_region 3 with (go_at_call 20; (with_reducible refine HC.mono ?_); rintro e W1 ⟨z1, c, q1, q3, rfl, hrow, hq, hb⟩; have HR1 := hid hrow; have HQ1 := hid hq; have HB1 := hid hb; clear hrow hq hb HC)
  obtain ⟨U1, hU1⟩ : ∃ U1, U1 = W1.alloc (.cells #[.slice z1 4 c, .int .i64 0, .int .i64 2] 24) := ⟨_, rfl⟩
  rw [← hU1]
  have HB01 : Hid (Below U.heap.size U U1) := by rw [hU1]; exact HB1.out.alloc HB1.out.size _
  have hX1 : U1.heap[W1.heap.size]? = some (.cells #[.slice z1 4 c, .int .i64 0, .int .i64 2] 24 (0, 0)) := by rw [hU1]; exact heap_alloc_new W1 _
  have HR2 : Hid (U1.ownsRow U.heap.size 51 5 (.slice z1 4 c) 4 (F4 q1 q3)) := by rw [hU1]; exact HR1.out.alloc _
  have HQ2 : Hid (U1.ownsRow U.heap.size 49 2 (.slice q1 1 q3) 1 (O2 [(97, 97)])) := by rw [hU1]; exact HQ1.out.alloc _
  have HP1 : Hid (PI U1 U1.heap.size z1 4 L4) := pi4 HR2.out (rowAt_own HQ2.out rfl)
  have hx1 : W1.heap.size < U1.heap.size := (Array.getElem?_eq_some_iff.1 hX1).1
  obtain ⟨x, hx⟩ : ∃ x, x = W1.heap.size := ⟨_, rfl⟩
  rw [← hx] at hX1 hx1 ⊢
  have HX1 := hid hX1
  clear hU1 hx hX1 HR1 HQ1 HB1 HR2 HQ2
  go_upto_region 4 with fail
  obtain ⟨U2, hU2⟩ : ∃ U2, U2 = (U1.alloc (.cells (A4 g) 51)).alloc (.cells #[.slice (some ⟨U1.heap.size, 0, none⟩) 4 4, .int .i64 0, .int .i64 2] 24) := ⟨_, rfl⟩
  rw [← hU2]
  have hb2 : Below U1.heap.size U1 U2 := by rw [hU2]; exact below_two' U1 _ _
  have hY2 : U2.heap[U1.heap.size + 1]? = some (.cells #[.slice (some ⟨U1.heap.size, 0, none⟩) 4 4, .int .i64 0, .int .i64 2] 24 (0, 0)) := by rw [hU2]; exact two_new U1 _ _ _
  have HR3 : Hid (U2.ownsRow 0 51 5 (.slice (some ⟨U1.heap.size, 0, none⟩) 4 4) 4 (F4 (some ⟨g, 0, none⟩) 1)) := by rw [hU2]; exact (World.ownsRow_lit (base := 0) (e := 51) (size := 5) U1 (A4 g) 4 (Nat.zero_le _) (by unfold maxLen; omega) rfl).alloc _
  have hG2 : U2.heap[g]? = some (.cells #[.int .i64 97, .int .i64 97] 49 (0, 0)) := (hb2.block g (by have := HB01.out.size; omega)).trans ((HB01.out.block g hgU).trans HG.out)
  have HQ : Hid (PI U2 U2.heap.size (some ⟨U1.heap.size, 0, none⟩) 4 L4) := pi4 HR3.out (HRG.out U2 hG2)
  have HP2 : Hid (PI U2 U2.heap.size z1 4 L4) := HP1.out.kept hb2 hb2.size
  have HX2 : Hid (U2.heap[x]? = some (.cells #[.slice z1 4 c, .int .i64 0, .int .i64 2] 24 (0, 0))) := (hb2.block x hx1).trans HX1.out
  have HB2 : Hid (Below g w U2) := (HB.out.trans (Joins.below_le HB01.out (by omega))).trans (Joins.below_le hb2 (by have := HB01.out.size; omega))
  have hgU2 : g < U2.heap.size := (Array.getElem?_eq_some_iff.1 hG2).1
  obtain ⟨y, hy⟩ : ∃ y, y = U1.heap.size + 1 := ⟨_, rfl⟩
  rw [← hy] at hY2 ⊢
  obtain ⟨q, hq⟩ : ∃ q, q = U1.heap.size := ⟨_, rfl⟩
  rw [← hq] at hY2 HQ ⊢
  have HY2 := hid hY2
  clear hU2 hb2 hY2 hG2 hy hq HR3 HP1 HX1 HB01 HB HRG HG hx1 hgU
  have HC := same11 (c := c) (c' := 4) (s := 0) (k := 2) HP2.out HQ.out (by omega)
  obtain ⟨a0, a1, a2⟩ := three_cells HX2.out
  obtain ⟨b0, b1, b2⟩ := three_cells HY2.out
  go_upto_region 5 with (go_at_call 11; (with_reducible refine HC.mono ?_); rintro e U3 ⟨rfl, hb⟩; have HB3 := hid hb; clear hb HC)
  clear a0 a1 a2 b0 b1 b2
  have HY3 : Hid (U3.heap[y]? = some (.cells #[.slice (some ⟨q, 0, none⟩) 4 4, .int .i64 0, .int .i64 2] 24 (0, 0))) := (HB3.out.block y (Array.getElem?_eq_some_iff.1 HY2.out).1).trans HY2.out
  have HQ3 : Hid (PI U3 U3.heap.size (some ⟨q, 0, none⟩) 4 L4) := HQ.out.kept HB3.out HB3.out.size
  have HBx3 : Hid (Below g w U3) := HB2.out.trans (Joins.below_le HB3.out (by omega))
  have hgU3 : g < U3.heap.size := Nat.lt_of_lt_of_le hgU2 HB3.out.size
  have HC := check10 (c := 4) (s := 0) (k := 2) HQ3.out
  rw [may4, if_pos rfl] at HC
  obtain ⟨b0, b1, b2⟩ := three_cells HY3.out
  go_upto_region 6 with (go_at_call 10; (with_reducible refine HC.mono ?_); rintro e U4 ⟨rfl, hb⟩; have HB4 := hid hb; clear hb HC)
  clear b0 b1 b2
  have HBx4 : Hid (Below g w U4) := HBx3.out.trans (Joins.below_le HB4.out (by omega))
  have hgU4 : g < U4.heap.size := Nat.lt_of_lt_of_le hgU3 HB4.out.size
  have hn0 : PI U4 U4.heap.size none 0 [] := ⟨rfl, fun h => absurd h (by simp)⟩
  have HC := check10 (c := 0) (s := 0) (k := 0) hn0
  rw [may0, if_neg (by simp)] at HC
  clear hn0
  go_wp2_with (first | (go_at_call 10; (with_reducible refine HC.mono ?_); rintro e U5 ⟨rfl, hb⟩; have HB5 := hid hb; clear hb HC))
  go_ret
  refine ⟨rfl, ?_⟩
  rw [← HGE.out]
  exact HBx4.out.trans (Joins.below_le HB5.out (by omega))
end Go.Proofs.Ytnecakampgdhcaa
