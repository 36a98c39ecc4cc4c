/- HELPERS: the document's put. -/
import Derived.Test.YteanndophopplaaDoorSe
namespace Go.Proofs.YteanndophopplaaDoor
open Go.RowKit
set_option linter.unusedVariables false
set_option linter.unusedSimpArgs false
/-- a row of the call's own has grown: nothing else has turned -/
structure GB (w w' : World) (v v' : Value) : Prop where
  os : w'.os = w.os
  tape : w'.tape = w.tape
  output : w'.output = w.output
  size : w.heap.size ≤ w'.heap.size
  block : ∀ k, k < w.heap.size → v.ownBlock ≠ some k → w'.heap[k]? = w.heap[k]?
  own : ∀ k, v'.ownBlock = some k → v.ownBlock = some k ∨ w.heap.size ≤ k
theorem GB.refl (w : World) (v : Value) : GB w w v v := ⟨rfl, rfl, rfl, Nat.le_refl _, fun _ _ _ => rfl, fun k hk => .inl hk⟩
theorem GB.trans {w w1 w2 : World} {v v1 v2 : Value} (h : GB w w1 v v1) (h2 : GB w1 w2 v1 v2) : GB w w2 v v2 :=
  ⟨h2.os.trans h.os, h2.tape.trans h.tape, h2.output.trans h.output, Nat.le_trans h.size h2.size,
   fun k hk hn => (h2.block k (Nat.lt_of_lt_of_le hk h.size) (fun e => by
     rcases h.own k e with e1 | e1
     · exact hn e1
     · omega)).trans (h.block k hk hn),
   fun k hk => by
     rcases h2.own k hk with e | e
     · exact h.own k e
     · exact .inr (Nat.le_trans h.size e)⟩
theorem GB.of_moved {w w' : World} {o : Obj} {v v' : Value} (h : Moved (w.alloc o) w' v v') : GB w w' v v' := by
  have f := h.frm
  have e : (w.alloc o).heap.size = w.heap.size + 1 := by simp
  exact ⟨f.os, f.tape, f.output, by have := f.size; omega, fun k hk hn => (f.block k (by omega) hn).trans (heap_alloc_old w o hk),
    fun k hk => by
      rcases f.own k hk with h1 | h1
      · exact .inl h1
      · exact .inr (by omega)⟩
set_option maxRecDepth 100000 in
set_option maxHeartbeats 4000000 in
theorem put43 {w : World} {base : Nat} {v : Value} {xs : List Nat} (k : Nat) (ho : w.ownsRow base 5 1 v xs.length (U8 xs)) (hb : base ≤ w.heap.size) (hS : xs.length + k + 1 ≤ 1099511627776) :
    Calls Tryd.prog 43 #[v, .int .i64 (k : Int)] w fun e w' => ∃ v', e = .returned v' ∧ w'.ownsRow base 5 1 v' (xs ++ put7 k).length (U8 (xs ++ put7 k)) ∧ GB w w' v v' := by
  have HO := hid ho
  clear ho
  go_enter Tryd.func43, Tryd.ntmps43
  go_wp2_with fail
  go_loopw [0, 1] (fun z y wq => ∃ (ys : List Nat) (q : Nat), y = .int .i64 (q : Int) ∧ ys.length + q ≤ xs.length + k ∧ Hid (wq.ownsRow base 5 1 z ys.length (U8 ys)) ∧ Hid (ys ++ put7 q = xs ++ put7 k) ∧ Hid (GB w wq v z)) (fun _ y _ => (intOf y).toNat)
  case atStart => exact ⟨xs, k, rfl, by omega, HO.out, rfl, GB.refl _ _⟩
  case round =>
    clear HO
    obtain ⟨ys, q, rfl, hq, HO, HE, HG⟩ := hrel
    have hbw : base ≤ wr.heap.size := Nat.le_trans hb HG.out.size
    by_cases h8 : 128 ≤ q
    · have b1 : decide ((q : Int) ≥ 128) = true := by simp; omega
      have b2 : decide ((128 : Int) ≤ (q : Int)) = true := by simp; omega
      have b3 : 128 ≤ q := h8
      have b4 : (128 : Int) ≤ (q : Int) := by omega
      have HB8 := hid h8
      clear h8 b3 b4
      go_wp2_with (at_builtin; refine wpList_append_one rfl (.tmp 7) (.tmp 12) 36 rfl base 5 (.int .u8 0) 1 Tryd.underlying36 info5 rfl _ (.int .u8 (128 + (q : Int) % 128)) ys.length 1 (U8 ys) rfl HO.out _ rfl rfl rfl (by unfold maxLen; omega) (by omega) hbw ?_)
      intro v' w1 ho1 hm1
      have HG1 : Hid (GB w w1 v v') := HG.out.trans (GB.of_moved hm1.out)
      have HO1 : Hid (w1.ownsRow base 5 1 v' (ys ++ [128 + q % 128]).length (U8 (ys ++ [128 + q % 128]))) := by
        rw [List.length_append, U8_snoc]; push_cast; exact ho1.out
      have HE1 : Hid ((ys ++ [128 + q % 128]) ++ put7 (q / 128) = xs ++ put7 k) := by
        show _ = _
        rw [← HE.out, put7_big HB8.out, List.append_assoc]; rfl
      clear ho1 hm1
      go_wp2
      exact ⟨⟨ys ++ [128 + q % 128], q / 128, by push_cast; rfl, by have := HB8.out; simp; omega, HO1.out, HE1.out, HG1.out⟩, by have := HB8.out; simp [intOf]; omega⟩
    · have b1 : decide ((q : Int) ≥ 128) = false := by simp; omega
      have b2 : decide ((128 : Int) ≤ (q : Int)) = false := by simp; omega
      have b3 : ¬ (128 ≤ q) := h8
      have b4 : ¬ ((128 : Int) ≤ (q : Int)) := by omega
      have HB8 := hid h8
      go_wp2_with (at_builtin; refine wpList_append_one rfl (.tmp 16) (.tmp 19) 36 rfl base 5 (.int .u8 0) 1 Tryd.underlying36 info5 rfl _ (.int .u8 (q : Int)) ys.length 1 (U8 ys) rfl HO.out _ rfl rfl rfl (by unfold maxLen; omega) (by omega) hbw ?_)
      intro v' w1 ho1 hm1
      have HG1 : Hid (GB w w1 v v') := HG.out.trans (GB.of_moved hm1.out)
      have HO1 : Hid (w1.ownsRow base 5 1 v' (xs ++ put7 k).length (U8 (xs ++ put7 k))) := by
        rw [← HE.out, put7_small HB8.out, List.length_append, U8_snoc]; exact ho1.out
      clear ho1 hm1
      go_wp2
      all_goals go_ret
      all_goals exact ⟨v', rfl, HO1.out, HG1.out⟩
end Go.Proofs.YteanndophopplaaDoor
