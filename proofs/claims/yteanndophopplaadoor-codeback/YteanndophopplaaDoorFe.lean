/- HELPERS: Bytes. -/
import Derived.Test.YteanndophopplaaDoorFd
namespace Go.Proofs.YteanndophopplaaDoor
open Go.RowKit
set_option linter.unusedVariables false
set_option linter.unusedSimpArgs false
/-- what Bytes answers -/
def BytesAns (l : List In) (s k : Int) (w : World) (e : Ending) (w' : World) : Prop := Below w.heap.size w w' ∧
  ((mayB l s k = false ∧ e = .returned (.tuple #[.slice none 0 0, .int .i64 90])) ∨ (mayB l s k = true ∧ 8388608 < (fullB l s k).length ∧ e = .returned (.tuple #[.slice none 0 0, .int .i64 3])) ∨
   (mayB l s k = true ∧ (fullB l s k).length ≤ 8388608 ∧ ∃ v, e = .returned (.tuple #[v, .int .i64 0]) ∧ w'.ownsRow w.heap.size 5 1 v (fullB l s k).length (U8 (fullB l s k))))
theorem own_wide {w : World} {base base' e size n : Nat} {v : Value} {xs : List Value} (h : w.ownsRow base e size v n xs) (hb : base' ≤ base) : w.ownsRow base' e size v n xs := by
  refine ⟨h.1, ?_⟩
  rcases h.2 with hn | ⟨g, cap, cur, rfl, hb', rest⟩
  · exact .inl hn
  · exact .inr ⟨g, cap, cur, rfl, by omega, rest⟩
set_option maxRecDepth 100000 in
set_option maxHeartbeats 4000000 in
theorem bytes22 {w : World} {ad : Option Addr} {n c : Nat} {l : List In} {s k : Int} (h : PI w w.heap.size ad n l) : Calls Tryd.prog 22 #[pv ad n c s k] w (BytesAns l s k w) := by
  have hb0 := Joins.below_alloc1 w (.cells #[.slice ad n c, .int .i64 s, .int .i64 k] 24)
  obtain ⟨U, hU⟩ : ∃ U, U = w.alloc (.cells #[.slice ad n c, .int .i64 s, .int .i64 k] 24) := ⟨_, rfl⟩
  have g0 := heap_alloc_new w (.cells #[.slice ad n c, .int .i64 s, .int .i64 k] 24)
  rw [← hU] at hb0 g0
  have hP : PI U U.heap.size ad n l := h.kept hb0 hb0.size
  have C37 := check10 (c := c) (s := s) (k := k) hP
  have HG0 := hid g0
  have HP := hid hP
  have HB0 := hid hb0
  have hlt : w.heap.size < U.heap.size := (Array.getElem?_eq_some_iff.1 g0).1
  have HU := hid hU
  obtain ⟨c0, c1, c2⟩ := three_cells g0
  cases hm : mayB l s k with
  | false =>
    rw [hm] at C37
    clear g0 hP hb0 h hU
    go_enter Tryd.func22, Tryd.ntmps22
    go_upto_region 1 with fail
    rw [← HU.out]
    go_wp2_with (go_at_call 37; (with_reducible refine C37.mono ?_); rintro e w2 ⟨rfl, hb2⟩; have HB2 := hid hb2; clear hb2 C37)
    all_goals go_ret2
    all_goals exact ⟨HB0.out.trans (Joins.below_le HB2.out HB0.out.size), .inl ⟨hm, rfl⟩⟩
  | true =>
    rw [hm] at C37
    have HM := hid hm
    have C39 : ∀ w2, Below U.heap.size U w2 → _ := fun w2 hb => bytesOf39 (c := c) (HP.out.kept hb hb.size) hm
    clear g0 hP hb0 h hU hm
    go_enter Tryd.func22, Tryd.ntmps22
    go_upto_region 1 with fail
    rw [← HU.out]
    go_wp2_with (first | (go_at_call 37; (with_reducible refine C37.mono ?_); rintro e w2 ⟨rfl, hb2⟩; have HB2 := hid hb2; obtain ⟨d0, d1, d2⟩ := three_cells ((hb2.block _ hlt).trans HG0.out); have D39 := C39 w2 hb2; clear hb2 C37) | (go_at_call 39; (with_reducible refine D39.mono ?_); rintro e w3 ⟨v, zs, rfl, ho3, hb3, hz⟩; obtain ⟨va, vc, rfl, -, -⟩ := row_shape ho3; have HO3 := hid ho3; have HB3 := hid hb3; have HZ := hid hz; clear ho3 hb3 hz D39))
    all_goals go_ret2
    all_goals
      have hB : Below w.heap.size w w3 := HB0.out.trans (Joins.below_le (HB2.out.trans (Joins.below_le HB3.out HB2.out.size)) HB0.out.size)
      have hsz : w.heap.size ≤ w2.heap.size := by have := HB2.out.size; omega
      refine ⟨hB, .inr ?_⟩
      rcases HZ.out with hz | hz
      · first
        | exact .inl ⟨HM.out, by rw [← hz]; omega, rfl⟩
        | exact .inr ⟨HM.out, by rw [← hz]; omega, _, rfl, by rw [← hz]; exact own_wide HO3.out hsz⟩
      · first
        | exact .inl ⟨HM.out, hz.2, rfl⟩
        | (exfalso; omega)
end Go.Proofs.YteanndophopplaaDoor
