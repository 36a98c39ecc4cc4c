/- HELPERS: the sum. -/
import Derived.Test.YteanndophopplaaDoorSc
namespace Go.Proofs.YteanndophopplaaDoor
open Go.RowKit
set_option linter.unusedVariables false
set_option linter.unusedSimpArgs false
theorem bit_eq (q : Nat) (h : q < 4294967296) : bits .xor .u32 ((q : Int) / 2) (3988292384 * bits .and .u32 (q : Int) 1 % 4294967296) = (crcBit q : Int) := by
  have y1 : bits .and .u32 (q : Int) 1 = ((q % 2 : Nat) : Int) := by
    have := u32_and_nat q 1 h (by decide)
    rw [Nat.and_one_is_mod] at this
    exact this
  rw [y1]
  rcases Nat.mod_two_eq_zero_or_one q with e | e
  · rw [e]; unfold crcBit; rw [if_neg (by omega)]
    have := u32_xor_nat (q / 2) 0 (by omega) (by decide)
    simpa using this
  · rw [e]; unfold crcBit; rw [if_pos e]
    have := u32_xor_nat (q / 2) 3988292384 (by omega) (by decide)
    simpa using this
set_option maxRecDepth 100000 in
set_option maxHeartbeats 4000000 in
theorem sum63 {w : World} {ad : Option Addr} {n c : Nat} {l : List Nat} (h : BA w w.heap.size ad l) (hn : n = l.length) (hS : n ≤ 9223372036854775807) (hb : ∀ x ∈ l, x < 256) :
    Calls Tryd.prog 63 #[.slice ad n c] w fun e w' => e = .returned (.agg #[.int .u8 ((crcSum l % 256 : Nat) : Int), .int .u8 ((crcSum l / 256 % 256 : Nat) : Int), .int .u8 ((crcSum l / 65536 % 256 : Nat) : Int), .int .u8 ((crcSum l / 16777216 % 256 : Nat) : Int)]) ∧ Below w.heap.size w w' := by
  have HN := hid hn
  have HR := hid h
  have HB := hid hb
  clear hn h hb
  go_enter Tryd.func63, Tryd.ntmps63
  go_wp2_with fail
  obtain ⟨U, hU⟩ : ∃ U, U = w.alloc (.cells #[.int .u8 0, .int .u8 0, .int .u8 0, .int .u8 0] 96) := ⟨_, rfl⟩
  obtain ⟨p, hp⟩ : ∃ p, p = w.heap.size := ⟨_, rfl⟩
  rw [← hU, ← hp]
  have HU : Hid (U.heap[p]? = some (.cells #[.int .u8 0, .int .u8 0, .int .u8 0, .int .u8 0] 96 (0, 0))) := by rw [hU, hp]; exact heap_alloc_new w _
  have HBU : Hid (Below p w U) := by rw [hU, hp]; exact Joins.below_alloc1 w _
  have HR' : Hid (BA U p ad l) := by rw [hp]; exact HR.out.kept (fun b hb => HBU.out.block b (by rw [hp]; exact hb)) (Nat.le_refl _)
  have HP := hid hp
  clear HR hU hp
  go_loopw [3, 5, 8] (fun z v y wq => ∃ i q : Nat, z = .int .u32 (q : Int) ∧ y = .int .i64 (i : Int) ∧ i ≤ n ∧ wq = U ∧ Hid (q = crcRow (l.take i)) ∧ q < 4294967296) (fun _ _ y _ => n - (intOf y).toNat)
  case atStart => exact ⟨0, 4294967295, rfl, rfl, by omega, rfl, rfl, by omega⟩
  case round =>
    obtain ⟨i, q, rfl, rfl, hi, rfl, HQ, hq⟩ := hrel
    by_cases hil : i < n
    · have b1 : decide ((i : Int) < (n : Int)) = true := by simp; omega
      have b2 : (i : Int) < (n : Int) := by omega
      have ad1 : IntKind.i64.wrap ((i : Int) + 1) = (i : Int) + 1 := by simp [IntKind.wrap, IntKind.bits, IntKind.signed]; omega
      have hil1 : i < l.length := by have := HN.out; omega
      rcases HR'.out with h0 | ⟨b, o, rfl, hb, h3⟩
      · rw [h0] at hil1; simp at hil1
      have m0 : wr.cell? ⟨b, o + i, none⟩ = some (.int .u8 (l[i] : Int)) := h3 i hil1
      have hx := HB.out _ (List.getElem_mem hil1)
      have HQ' := hid (crcRow_snoc l i hil1)
      generalize l[i] = x at m0 hx HQ'
      clear h3 hil1
      have x1 := u32_xor_nat q x hq (by omega)
      have hqx : q ^^^ x < 4294967296 := Nat.xor_lt_two_pow (n := 32) hq (by omega)
      have HE : Hid (crcByte q x = crcBits 8 (q ^^^ x)) := rfl
      go_wp2_with fail
      generalize q ^^^ x = q0 at hqx HE
      clear x1 m0
      go_loopw [3, 16] (fun z y wq => ∃ j q1 : Nat, z = .int .u32 (q1 : Int) ∧ y = .int .i64 (j : Int) ∧ j ≤ 8 ∧ wq = wr ∧ Hid (q1 = crcBits j q0) ∧ q1 < 4294967296) (fun _ y _ => 8 - (intOf y).toNat)
      case atStart => exact ⟨0, q0, rfl, rfl, by omega, rfl, rfl, hqx⟩
      case round =>
        obtain ⟨j, q1, rfl, rfl, hj, rfl, HQ1, hq1⟩ := hrel
        by_cases hj8 : j < 8
        · have b3 : decide ((j : Int) < 8) = true := by simp; omega
          have b4 : (j : Int) < 8 := by omega
          have ad2 : IntKind.i64.wrap ((j : Int) + 1) = (j : Int) + 1 := by simp [IntKind.wrap, IntKind.bits, IntKind.signed]; omega
          go_wp2
          refine ⟨⟨j + 1, crcBit q1, congrArg (Value.int .u32) (bit_eq q1 hq1), by push_cast; rfl, by omega, trivial, ?_, crcBit_lt hq1⟩, by simp [intOf]; omega⟩
          show crcBit q1 = crcBit (crcBits j q0)
          rw [← HQ1.out]
        · have b3 : decide ((j : Int) < 8) = false := by simp; omega
          obtain rfl : j = 8 := by omega
          go_wp2
          exact ⟨⟨i + 1, q1, rfl, by push_cast; rfl, by omega, trivial, by show q1 = _; rw [HQ1.out, HQ'.out, ← HQ.out, HE.out], hq1⟩, by simp [intOf]; omega⟩
    · have b1 : decide ((i : Int) < (n : Int)) = false := by simp; omega
      have f0 := Joins.cell_of_block HU.out 0
      have f1 := Joins.cell_of_block HU.out 1
      have f2 := Joins.cell_of_block HU.out 2
      have f3 := Joins.cell_of_block HU.out 3
      have x2 : bits .xor .u32 4294967295 (q : Int) = ((q ^^^ 4294967295 : Nat) : Int) := by
        rw [Nat.xor_comm]; exact u32_xor_nat 4294967295 q (by decide) hq
      have mx : IntKind.u32.max = 4294967295 := rfl
      have g0 := Joins.unfrozen_of_block HU.out 0
      have g1 := Joins.unfrozen_of_block HU.out 1
      have g2 := Joins.unfrozen_of_block HU.out 2
      have g3 := Joins.unfrozen_of_block HU.out 3
      generalize hz : q ^^^ 4294967295 = z at x2
      have HZ := hid hz
      clear hz
      have HF : Hid (∀ (v0 v1 v2 v3 : Value), ((((wr.setCell ⟨p, 0, none⟩ v0).setCell ⟨p, 1, none⟩ v1).setCell ⟨p, 2, none⟩ v2).setCell ⟨p, 3, none⟩ v3).heap[p]? = some (.cells #[v0, v1, v2, v3] 96 (0, 0)) ∧ Below p w ((((wr.setCell ⟨p, 0, none⟩ v0).setCell ⟨p, 1, none⟩ v1).setCell ⟨p, 2, none⟩ v2).setCell ⟨p, 3, none⟩ v3)) := fun v0 v1 v2 v3 =>
        ⟨Joins.block_setCell (Joins.block_setCell (Joins.block_setCell (Joins.block_setCell HU.out v0) v1) v2) v3,
         (((HBU.out.setCell (by simp) _).setCell (by simp) _).setCell (by simp) _).setCell (by simp) _⟩
      have HI : Hid (i = n) := by show i = n; omega
      go_wp2
      obtain ⟨hQE, hbl⟩ := HF.out (.int .u8 ((z : Int) % 256)) (.int .u8 ((z : Int) / 256 % 256)) (.int .u8 ((z : Int) / 65536 % 256)) (.int .u8 ((z : Int) / 16777216 % 256))
      refine bodyPost_ret (results_cell_row rfl _ _ p 96 _ (0, 0) _ rfl hQE Tryd.underlying96 rfl (by kernel_rfl)) rfl ?_
      have hz : crcSum l = z := by unfold crcSum; rw [← HZ.out, HQ.out, HI.out, HN.out, List.take_length]
      refine ⟨by rw [hz], ?_⟩
      rw [← HP.out]; exact hbl
end Go.Proofs.YteanndophopplaaDoor
