/- HELPERS: the document's side of classes: class. -/
import Derived.Test.YtjglehklfdhgaaaDoorDcD
namespace Go.Proofs.YtjglehklfdhgaaaDoor
open Go.RowKit Go.Mx
set_option linter.unusedVariables false
set_option linter.unusedSimpArgs false
theorem low_in (L : List (Int × Int)) : inB (lowOf L) := by
  have h := cfold 0 55295 L [] trivial (fun g hg => by cases hg)
  intro g hg
  have h1 := rise_mem h.1 g hg
  have h2 := h.2.1 g hg
  omega
theorem high_in (L : List (Int × Int)) : inB (highOf L) := by
  have h := cfold 57344 1114111 L [] trivial (fun g hg => by cases hg)
  intro g hg
  have h1 := rise_mem h.1 g hg
  have h2 := h.2.1 g hg
  omega
theorem in_one {a b : Int} (h1 : 0 ≤ a ∧ a ≤ 1114111) (h2 : 0 ≤ b ∧ b ≤ 1114111) : inB [(a, b)] := by
  intro g hg
  simp at hg
  rw [hg]; exact ⟨h1, h2⟩
/-- what class leaves -/
def ClsEnd (w w' : World) (e : Ending) (L : List (Int × Int)) : Prop := Below w.heap.size w w' ∧
  if (lowOf L ++ highOf L).length ≤ 5000 then ∃ v, e = .returned (.tuple #[v, .int .i64 0]) ∧ w'.ownsRow w.heap.size 57 2 v (lowOf L ++ highOf L).length (fl (lowOf L ++ highOf L)) else e = .returned (.tuple #[.slice none 0 0, .int .i64 3])
set_option maxHeartbeats 8000000 in
set_option maxRecDepth 1000000 in
theorem class53 (L : List (Int × Int)) (ad : Option Addr) (n cap : Nat) (w : World) (hn : Hid (L.length = n)) (hS : n ≤ 10000000) (hl : Hid (RowAt w.heap.size w (.slice ad n cap) L)) :
    Calls Tryd.prog 53 #[.slice ad n cap] w fun e w' => ClsEnd w w' e L := by
  go_enter Tryd.func53, Tryd.ntmps53
  go_wp2
  go_loopw [4, 5, 6] (fun lo hi i wr => ∃ (k ml mh : Nat) (x y : Value), k ≤ n ∧ i = .int .i64 k ∧ x = lo ∧ y = hi ∧ wr.ownsRow w.heap.size 57 2 x ml (fl (lowOf (L.take k))) ∧ wr.ownsRow w.heap.size 57 2 y mh (fl (highOf (L.take k))) ∧ Below w.heap.size w wr ∧ Hid (ml = (lowOf (L.take k)).length ∧ mh = (highOf (L.take k)).length)) (fun _ _ i _ => n - (intOf i).toNat)
  case atStart => exact ⟨0, 0, 0, _, _, by omega, rfl, rfl, rfl, World.ownsRow_nil _ _ _ _, World.ownsRow_nil _ _ _ _, Below.refl _ _, by exact ⟨rfl, rfl⟩⟩
  case round =>
    obtain ⟨k, ml, mh, lo, hi, hk, rfl, rfl, rfl, ol, oh, hbw, HL⟩ := hrel
    have hsz := hbw.size
    have hml : ml ≤ k := by
      have := cfold_len 0 55295 (L.take k) []
      have h3 : (L.take k).length ≤ k := by rw [List.length_take]; omega
      rw [HL.out.1]; unfold lowOf; simp at this h3; omega
    have hmh : mh ≤ k := by
      have := cfold_len 57344 1114111 (L.take k) []
      have h3 : (L.take k).length ≤ k := by rw [List.length_take]; omega
      rw [HL.out.2]; unfold highOf; simp at this h3; omega
    by_cases hlt : k < n
    · obtain ⟨ad', cap', he, h | ⟨b, off, rfl, hbN, hc0, hc1⟩⟩ := hl.out
      · exact absurd h (by rw [hn.out]; omega)
      · simp only [Value.slice.injEq] at he
        obtain ⟨rfl, -, rfl⟩ := he
        have hn' := hn.out
        have d0 := (hbw.cell (p := ⟨b, off + k * 2, none⟩) hbN).trans (hc0 k (by omega))
        have d1 := (hbw.cell (p := ⟨b, off + k * 2 + 1, none⟩) hbN).trans (hc1 k (by omega))
        have HTK : Hid (L.take (k + 1) = L.take k ++ [L.getD k (0, 0)]) := take_at L k (by omega)
        generalize L.getD k (0, 0) = g at d0 d1 HTK
        obtain ⟨gl, gh⟩ := g
        simp only at d0 d1
        clear hc0 hc1 hn'
        by_cases h1 : max gl 0 ≤ min gh 55295
        · by_cases h2 : max gl 57344 ≤ min gh 1114111
          · have hg1 : decide (max gl 0 ≤ min gh 55295) = true := decide_eq_true h1
            have hg2 : decide (max gl 57344 ≤ min gh 1114111) = true := decide_eq_true h2
            have hp1 := part61 gl gh 0 55295 wr
            rw [hg1] at hp1
            have HQ1 : Hid (lowOf (L.take (k + 1)) = layL (lowOf (L.take k)) (max gl 0, min gh 55295)) := by show _ = _; rw [HTK.out]; unfold lowOf; rw [List.foldl_append]; exact if_pos h1
            have HQ2 : Hid (highOf (L.take (k + 1)) = layL (highOf (L.take k)) (max gl 57344, min gh 1114111)) := by show _ = _; rw [HTK.out]; unfold highOf; rw [List.foldl_append]; exact if_pos h2
            go_wp2_with fail
            refine hp1.mono ?_
            rintro e w1 ⟨rfl, hb1⟩
            have hz1 := hb1.size
            have o1 := own_kept2 ol (fun b hb => hb1.block b (ol.lt b hb).2)
            have o2 := own_kept2 oh (fun b hb => hb1.block b (oh.lt b hb).2)
            have hB1 : Below w.heap.size w w1 := hbw.trans (hb1.mono hsz)
            have hs1 := hB1.size
            have a1 := o1.alloc (.cells #[.int .i64 (max gl 0), .int .i64 (min gh 55295)] 57)
            have a2 := o2.alloc (.cells #[.int .i64 (max gl 0), .int .i64 (min gh 55295)] 57)
            have aB := hB1.alloc hs1 (.cells #[.int .i64 (max gl 0), .int .i64 (min gh 55295)] 57)
            have aZ : Below wr.heap.size wr (w1.alloc (.cells #[.int .i64 (max gl 0), .int .i64 (min gh 55295)] 57)) := hb1.alloc hz1 _
            have aS : (w1.alloc (.cells #[.int .i64 (max gl 0), .int .i64 (min gh 55295)] 57)).heap.size = w1.heap.size + 1 := by simp
            go_wp2_with fail
            refine (lay_own (lowOf (L.take k)) (max gl 0, min gh 55295) w.heap.size ml lo (w1.alloc (.cells #[.int .i64 (max gl 0), .int .i64 (min gh 55295)] 57)) HL.out.1 a1 (low_in _) (in_one ⟨by omega, by omega⟩ ⟨by omega, by omega⟩) (by omega)).mono ?_
            rintro e w2 ⟨lo2, rfl, o3, hb2⟩
            have hB2 : Below w.heap.size w w2 := aB.trans (hb2.mono (by omega))
            have o4 := own_kept2 a2 (fun b hb => hb2.block b (a2.lt b hb).2)
            have o5 := own_low o3 (show w.heap.size ≤ _ by omega)
            have hbz : Below wr.heap.size wr w2 := aZ.trans (hb2.mono (by omega))
            have hs2 := hB2.size
            have hz2' := hbz.size
            have d2 := (hbz.cell (p := ⟨b, off + k * 2, none⟩) (by show b < _; omega)).trans d0
            have d3 := (hbz.cell (p := ⟨b, off + k * 2 + 1, none⟩) (by show b < _; omega)).trans d1
            have hp2 := part61 gl gh 57344 1114111 w2
            rw [hg2] at hp2
            go_wp2_with fail
            refine hp2.mono ?_
            rintro e w3 ⟨rfl, hb3⟩
            have hz3 := hb3.size
            have p1 := own_kept2 o5 (fun b hb => hb3.block b (o5.lt b hb).2)
            have p2 := own_kept2 o4 (fun b hb => hb3.block b (o4.lt b hb).2)
            have hB3 : Below w.heap.size w w3 := hB2.trans (hb3.mono hs2)
            have hs3 := hB3.size
            have q1 := p1.alloc (.cells #[.int .i64 (max gl 57344), .int .i64 (min gh 1114111)] 57)
            have q2 := p2.alloc (.cells #[.int .i64 (max gl 57344), .int .i64 (min gh 1114111)] 57)
            have qB := hB3.alloc hs3 (.cells #[.int .i64 (max gl 57344), .int .i64 (min gh 1114111)] 57)
            have qS : (w3.alloc (.cells #[.int .i64 (max gl 57344), .int .i64 (min gh 1114111)] 57)).heap.size = w3.heap.size + 1 := by simp
            go_wp2_with fail
            refine (lay_own (highOf (L.take k)) (max gl 57344, min gh 1114111) w.heap.size mh hi (w3.alloc (.cells #[.int .i64 (max gl 57344), .int .i64 (min gh 1114111)] 57)) HL.out.2 q2 (high_in _) (in_one ⟨by omega, by omega⟩ ⟨by omega, by omega⟩) (by omega)).mono ?_
            rintro e w4 ⟨hi2, rfl, o6, hb4⟩
            have hB4 : Below w.heap.size w w4 := qB.trans (hb4.mono (by omega))
            have o7 := own_kept2 q1 (fun b hb => hb4.block b (q1.lt b hb).2)
            have o8 := own_low o6 (show w.heap.size ≤ _ by omega)
            go_wp2
            go_roundw
            case rel => exact ⟨k + 1, _, _, _, _, by omega, by go_num, rfl, rfl, by rw [HQ1.out]; exact o7, by rw [HQ2.out]; exact o8, hB4, by exact ⟨by rw [HQ1.out], by rw [HQ2.out]⟩⟩
            case measure => simp [intOf]; omega
          · have hg1 : decide (max gl 0 ≤ min gh 55295) = true := decide_eq_true h1
            have hg2 : decide (max gl 57344 ≤ min gh 1114111) = false := decide_eq_false h2
            have hp1 := part61 gl gh 0 55295 wr
            rw [hg1] at hp1
            have HQ1 : Hid (lowOf (L.take (k + 1)) = layL (lowOf (L.take k)) (max gl 0, min gh 55295)) := by show _ = _; rw [HTK.out]; unfold lowOf; rw [List.foldl_append]; exact if_pos h1
            have HQ2 : Hid (highOf (L.take (k + 1)) = highOf (L.take k)) := by show _ = _; rw [HTK.out]; unfold highOf; rw [List.foldl_append]; exact if_neg h2
            go_wp2_with fail
            refine hp1.mono ?_
            rintro e w1 ⟨rfl, hb1⟩
            have hz1 := hb1.size
            have o1 := own_kept2 ol (fun b hb => hb1.block b (ol.lt b hb).2)
            have o2 := own_kept2 oh (fun b hb => hb1.block b (oh.lt b hb).2)
            have hB1 : Below w.heap.size w w1 := hbw.trans (hb1.mono hsz)
            have hs1 := hB1.size
            have a1 := o1.alloc (.cells #[.int .i64 (max gl 0), .int .i64 (min gh 55295)] 57)
            have a2 := o2.alloc (.cells #[.int .i64 (max gl 0), .int .i64 (min gh 55295)] 57)
            have aB := hB1.alloc hs1 (.cells #[.int .i64 (max gl 0), .int .i64 (min gh 55295)] 57)
            have aZ : Below wr.heap.size wr (w1.alloc (.cells #[.int .i64 (max gl 0), .int .i64 (min gh 55295)] 57)) := hb1.alloc hz1 _
            have aS : (w1.alloc (.cells #[.int .i64 (max gl 0), .int .i64 (min gh 55295)] 57)).heap.size = w1.heap.size + 1 := by simp
            go_wp2_with fail
            refine (lay_own (lowOf (L.take k)) (max gl 0, min gh 55295) w.heap.size ml lo (w1.alloc (.cells #[.int .i64 (max gl 0), .int .i64 (min gh 55295)] 57)) HL.out.1 a1 (low_in _) (in_one ⟨by omega, by omega⟩ ⟨by omega, by omega⟩) (by omega)).mono ?_
            rintro e w2 ⟨lo2, rfl, o3, hb2⟩
            have hB2 : Below w.heap.size w w2 := aB.trans (hb2.mono (by omega))
            have o4 := own_kept2 a2 (fun b hb => hb2.block b (a2.lt b hb).2)
            have o5 := own_low o3 (show w.heap.size ≤ _ by omega)
            have hbz : Below wr.heap.size wr w2 := aZ.trans (hb2.mono (by omega))
            have hs2 := hB2.size
            have hz2' := hbz.size
            have d2 := (hbz.cell (p := ⟨b, off + k * 2, none⟩) (by show b < _; omega)).trans d0
            have d3 := (hbz.cell (p := ⟨b, off + k * 2 + 1, none⟩) (by show b < _; omega)).trans d1
            have hp2 := part61 gl gh 57344 1114111 w2
            rw [hg2] at hp2
            go_wp2_with fail
            refine hp2.mono ?_
            rintro e w3 ⟨rfl, hb3⟩
            have hz3 := hb3.size
            have p1 := own_kept2 o5 (fun b hb => hb3.block b (o5.lt b hb).2)
            have p2 := own_kept2 o4 (fun b hb => hb3.block b (o4.lt b hb).2)
            have hB3 : Below w.heap.size w w3 := hB2.trans (hb3.mono hs2)
            have hs3 := hB3.size
            have q1 := p1.alloc (.cells #[.int .i64 (max gl 57344), .int .i64 (min gh 1114111)] 57)
            have q2 := p2.alloc (.cells #[.int .i64 (max gl 57344), .int .i64 (min gh 1114111)] 57)
            have qB := hB3.alloc hs3 (.cells #[.int .i64 (max gl 57344), .int .i64 (min gh 1114111)] 57)
            have qS : (w3.alloc (.cells #[.int .i64 (max gl 57344), .int .i64 (min gh 1114111)] 57)).heap.size = w3.heap.size + 1 := by simp
            have hB4 := qB
            have o7 := q1
            have o8 := q2
            go_wp2
            go_roundw
            case rel => exact ⟨k + 1, _, _, _, _, by omega, by go_num, rfl, rfl, by rw [HQ1.out]; exact o7, by rw [HQ2.out]; exact o8, hB4, by exact ⟨by rw [HQ1.out], by rw [HQ2.out]; exact HL.out.2⟩⟩
            case measure => simp [intOf]; omega
        · by_cases h2 : max gl 57344 ≤ min gh 1114111
          · have hg1 : decide (max gl 0 ≤ min gh 55295) = false := decide_eq_false h1
            have hg2 : decide (max gl 57344 ≤ min gh 1114111) = true := decide_eq_true h2
            have hp1 := part61 gl gh 0 55295 wr
            rw [hg1] at hp1
            have HQ1 : Hid (lowOf (L.take (k + 1)) = lowOf (L.take k)) := by show _ = _; rw [HTK.out]; unfold lowOf; rw [List.foldl_append]; exact if_neg h1
            have HQ2 : Hid (highOf (L.take (k + 1)) = layL (highOf (L.take k)) (max gl 57344, min gh 1114111)) := by show _ = _; rw [HTK.out]; unfold highOf; rw [List.foldl_append]; exact if_pos h2
            go_wp2_with fail
            refine hp1.mono ?_
            rintro e w1 ⟨rfl, hb1⟩
            have hz1 := hb1.size
            have o1 := own_kept2 ol (fun b hb => hb1.block b (ol.lt b hb).2)
            have o2 := own_kept2 oh (fun b hb => hb1.block b (oh.lt b hb).2)
            have hB1 : Below w.heap.size w w1 := hbw.trans (hb1.mono hsz)
            have hs1 := hB1.size
            have a1 := o1.alloc (.cells #[.int .i64 (max gl 0), .int .i64 (min gh 55295)] 57)
            have a2 := o2.alloc (.cells #[.int .i64 (max gl 0), .int .i64 (min gh 55295)] 57)
            have aB := hB1.alloc hs1 (.cells #[.int .i64 (max gl 0), .int .i64 (min gh 55295)] 57)
            have aZ : Below wr.heap.size wr (w1.alloc (.cells #[.int .i64 (max gl 0), .int .i64 (min gh 55295)] 57)) := hb1.alloc hz1 _
            have aS : (w1.alloc (.cells #[.int .i64 (max gl 0), .int .i64 (min gh 55295)] 57)).heap.size = w1.heap.size + 1 := by simp
            have hB2 := aB
            have o4 := a2
            have o5 := a1
            have hbz := aZ
            have hs2 := hB2.size
            have hz2' := hbz.size
            have d2 := (hbz.cell (p := ⟨b, off + k * 2, none⟩) (by show b < _; omega)).trans d0
            have d3 := (hbz.cell (p := ⟨b, off + k * 2 + 1, none⟩) (by show b < _; omega)).trans d1
            have hp2 := part61 gl gh 57344 1114111 (w1.alloc (.cells #[.int .i64 (max gl 0), .int .i64 (min gh 55295)] 57))
            rw [hg2] at hp2
            go_wp2_with fail
            refine hp2.mono ?_
            rintro e w3 ⟨rfl, hb3⟩
            have hz3 := hb3.size
            have p1 := own_kept2 o5 (fun b hb => hb3.block b (o5.lt b hb).2)
            have p2 := own_kept2 o4 (fun b hb => hb3.block b (o4.lt b hb).2)
            have hB3 : Below w.heap.size w w3 := hB2.trans (hb3.mono hs2)
            have hs3 := hB3.size
            have q1 := p1.alloc (.cells #[.int .i64 (max gl 57344), .int .i64 (min gh 1114111)] 57)
            have q2 := p2.alloc (.cells #[.int .i64 (max gl 57344), .int .i64 (min gh 1114111)] 57)
            have qB := hB3.alloc hs3 (.cells #[.int .i64 (max gl 57344), .int .i64 (min gh 1114111)] 57)
            have qS : (w3.alloc (.cells #[.int .i64 (max gl 57344), .int .i64 (min gh 1114111)] 57)).heap.size = w3.heap.size + 1 := by simp
            go_wp2_with fail
            refine (lay_own (highOf (L.take k)) (max gl 57344, min gh 1114111) w.heap.size mh hi (w3.alloc (.cells #[.int .i64 (max gl 57344), .int .i64 (min gh 1114111)] 57)) HL.out.2 q2 (high_in _) (in_one ⟨by omega, by omega⟩ ⟨by omega, by omega⟩) (by omega)).mono ?_
            rintro e w4 ⟨hi2, rfl, o6, hb4⟩
            have hB4 : Below w.heap.size w w4 := qB.trans (hb4.mono (by omega))
            have o7 := own_kept2 q1 (fun b hb => hb4.block b (q1.lt b hb).2)
            have o8 := own_low o6 (show w.heap.size ≤ _ by omega)
            go_wp2
            go_roundw
            case rel => exact ⟨k + 1, _, _, _, _, by omega, by go_num, rfl, rfl, by rw [HQ1.out]; exact o7, by rw [HQ2.out]; exact o8, hB4, by exact ⟨by rw [HQ1.out]; exact HL.out.1, by rw [HQ2.out]⟩⟩
            case measure => simp [intOf]; omega
          · have hg1 : decide (max gl 0 ≤ min gh 55295) = false := decide_eq_false h1
            have hg2 : decide (max gl 57344 ≤ min gh 1114111) = false := decide_eq_false h2
            have hp1 := part61 gl gh 0 55295 wr
            rw [hg1] at hp1
            have HQ1 : Hid (lowOf (L.take (k + 1)) = lowOf (L.take k)) := by show _ = _; rw [HTK.out]; unfold lowOf; rw [List.foldl_append]; exact if_neg h1
            have HQ2 : Hid (highOf (L.take (k + 1)) = highOf (L.take k)) := by show _ = _; rw [HTK.out]; unfold highOf; rw [List.foldl_append]; exact if_neg h2
            go_wp2_with fail
            refine hp1.mono ?_
            rintro e w1 ⟨rfl, hb1⟩
            have hz1 := hb1.size
            have o1 := own_kept2 ol (fun b hb => hb1.block b (ol.lt b hb).2)
            have o2 := own_kept2 oh (fun b hb => hb1.block b (oh.lt b hb).2)
            have hB1 : Below w.heap.size w w1 := hbw.trans (hb1.mono hsz)
            have hs1 := hB1.size
            have a1 := o1.alloc (.cells #[.int .i64 (max gl 0), .int .i64 (min gh 55295)] 57)
            have a2 := o2.alloc (.cells #[.int .i64 (max gl 0), .int .i64 (min gh 55295)] 57)
            have aB := hB1.alloc hs1 (.cells #[.int .i64 (max gl 0), .int .i64 (min gh 55295)] 57)
            have aZ : Below wr.heap.size wr (w1.alloc (.cells #[.int .i64 (max gl 0), .int .i64 (min gh 55295)] 57)) := hb1.alloc hz1 _
            have aS : (w1.alloc (.cells #[.int .i64 (max gl 0), .int .i64 (min gh 55295)] 57)).heap.size = w1.heap.size + 1 := by simp
            have hB2 := aB
            have o4 := a2
            have o5 := a1
            have hbz := aZ
            have hs2 := hB2.size
            have hz2' := hbz.size
            have d2 := (hbz.cell (p := ⟨b, off + k * 2, none⟩) (by show b < _; omega)).trans d0
            have d3 := (hbz.cell (p := ⟨b, off + k * 2 + 1, none⟩) (by show b < _; omega)).trans d1
            have hp2 := part61 gl gh 57344 1114111 (w1.alloc (.cells #[.int .i64 (max gl 0), .int .i64 (min gh 55295)] 57))
            rw [hg2] at hp2
            go_wp2_with fail
            refine hp2.mono ?_
            rintro e w3 ⟨rfl, hb3⟩
            have hz3 := hb3.size
            have p1 := own_kept2 o5 (fun b hb => hb3.block b (o5.lt b hb).2)
            have p2 := own_kept2 o4 (fun b hb => hb3.block b (o4.lt b hb).2)
            have hB3 : Below w.heap.size w w3 := hB2.trans (hb3.mono hs2)
            have hs3 := hB3.size
            have q1 := p1.alloc (.cells #[.int .i64 (max gl 57344), .int .i64 (min gh 1114111)] 57)
            have q2 := p2.alloc (.cells #[.int .i64 (max gl 57344), .int .i64 (min gh 1114111)] 57)
            have qB := hB3.alloc hs3 (.cells #[.int .i64 (max gl 57344), .int .i64 (min gh 1114111)] 57)
            have qS : (w3.alloc (.cells #[.int .i64 (max gl 57344), .int .i64 (min gh 1114111)] 57)).heap.size = w3.heap.size + 1 := by simp
            have hB4 := qB
            have o7 := q1
            have o8 := q2
            go_wp2
            go_roundw
            case rel => exact ⟨k + 1, _, _, _, _, by omega, by go_num, rfl, rfl, by rw [HQ1.out]; exact o7, by rw [HQ2.out]; exact o8, hB4, by exact ⟨by rw [HQ1.out]; exact HL.out.1, by rw [HQ2.out]; exact HL.out.2⟩⟩
            case measure => simp [intOf]; omega
    · have htk : L.take k = L := List.take_of_length_le (by rw [hn.out]; omega)
      rw [htk] at ol oh HL
      obtain ⟨i0, hi0, hz0, hz1, hz2⟩ := info_parts info57
      have HLN : Hid ((lowOf L ++ highOf L).length = ml + mh) := by show _ = _; rw [List.length_append, HL.out.1, HL.out.2]
      have hfl : Hid (fl (lowOf L) ++ fl (highOf L) = fl (lowOf L ++ highOf L)) := (fl_append _ _).symm
      have HH0 : Hid (mh = 0 → fl (highOf L) = []) := fun h0 => by rw [List.eq_nil_of_length_eq_zero (show (highOf L).length = 0 by rw [← HL.out.2]; exact h0)]; rfl
      have hfh : (fl (highOf L)).length = mh * 2 := by rw [fl_len, ← HL.out.2]
      have h1c := two_of_fl (highOf L)
      generalize fl (highOf L) = FH at *
      generalize fl (lowOf L) = FL at *
      clear htk HL
      obtain ⟨al, cl, rfl⟩ : ∃ al cl, lo = .slice al ml cl := by
        rcases Joins.ownsRow_forms ol with ⟨rfl, h0⟩ | ⟨gg, cc, rfl⟩
        · exact ⟨none, 0, by rw [h0]⟩
        · exact ⟨_, cc, rfl⟩
      by_cases hbig : 5000 < ml + mh
      · obtain ⟨ah, ch, rfl⟩ : ∃ ah ch, hi = .slice ah mh ch := by
          rcases Joins.ownsRow_forms oh with ⟨rfl, h0⟩ | ⟨gg, cc, rfl⟩
          · exact ⟨none, 0, by rw [h0]⟩
          · exact ⟨_, cc, rfl⟩
        go_wp2
        go_ret2
        exact ⟨hbw, by rw [if_neg (by rw [HLN.out]; omega)]; rfl⟩
      · rcases Joins.ownsRow_forms oh with ⟨rfl, h0⟩ | ⟨gg, ch, rfl⟩
        · subst h0
          go_wp2_with (at_builtin; refine wpList_append_own_none rfl (.tmp 47) (.tmp 48) 42 rfl w.heap.size 57 i0 2 Tryd.underlying42 hi0 _ ml _ rfl ol rfl ?_)
          go_ret2
          refine ⟨hbw, ?_⟩
          rw [if_pos (by rw [HLN.out]; omega), HLN.out, ← hfl.out, HH0.out (by trivial), List.append_nil]
          exact ⟨_, rfl, ol⟩
        · go_wp2_with (at_builtin; refine wpList_append_own _ rfl (.tmp 47) (.tmp 48) 42 rfl w.heap.size 57 i0 (.agg #[.int .i64 0, .int .i64 0]) 2 16 Tryd.underlying42 hi0 hz0 hz1 hz2 rfl (by decide) _ ml _ rfl ol ⟨gg, 0, none⟩ mh ch FH rfl hfh (oh.cells (g := gg) rfl) h1c (by unfold maxLen; omega) (by omega) hsz ?_; intro v5 w5 ho5 hg5 _; have hb5 : Below w.heap.size w w5 := hbw.grown hg5 hsz (fun q hq => (ol.lt q hq).1))
          go_ret2
          refine ⟨hb5, ?_⟩
          rw [if_pos (by rw [HLN.out]; omega), HLN.out, ← hfl.out]
          exact ⟨_, rfl, ho5⟩
end Go.Proofs.YtjglehklfdhgaaaDoor
