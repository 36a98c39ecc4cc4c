/- HELPERS: the document's sum. -/
import Derived.Test.YteanndophopplaaDoorSb
import Derived.Laws.BitsAllLaws
namespace Go.Proofs.YteanndophopplaaDoor
open Go.RowKit
set_option linter.unusedVariables false
set_option linter.unusedSimpArgs false
set_option maxRecDepth 100000 in
set_option maxHeartbeats 4000000 in
theorem sum33 {w : World} {ad : Option Addr} {n c : Nat} {l : List Nat} (h : BA w w.heap.size ad l) (hn : n = l.length) (hS : n ≤ 9223372036854775807) (hb : ∀ x ∈ l, x < 256) :
    Calls Tryd.prog 33 #[.slice ad n c] w fun e w' => e = .returned (.int .u32 (crcSum l : Int)) ∧ w' = w := by
  have HN := hid hn
  have HR := hid h
  have HB := hid hb
  clear hn h hb
  go_enter Tryd.func33, Tryd.ntmps33
  go_wp2_with fail
  go_loopw [3, 4] (fun z y wq => ∃ i q : Nat, z = .int .u32 (q : Int) ∧ y = .int .i64 (i : Int) ∧ i ≤ n ∧ wq = w ∧ Hid (q = crcRow (l.take i)) ∧ q < 4294967296) (fun _ y _ => n - (intOf y).toNat)
  case atStart => exact ⟨0, 4294967295, rfl, rfl, by omega, rfl, rfl, by omega⟩
  case round =>
    obtain ⟨i, q, rfl, rfl, hi, rfl, HQ, hq⟩ := hrel
    by_cases hil : i < n
    · have b1 : decide ((i : Int) < (n : Int)) = true := by simp; omega
      have b2 : (i : Int) < (n : Int) := by omega
      have ad1 : IntKind.i64.wrap ((i : Int) + 1) = (i : Int) + 1 := by simp [IntKind.wrap, IntKind.bits, IntKind.signed]; omega
      have hil1 : i < l.length := by have := HN.out; omega
      rcases HR.out with h0 | ⟨b, o, rfl, hb, h3⟩
      · rw [h0] at hil1; simp at hil1
      have m0 : wr.cell? ⟨b, o + i, none⟩ = some (.int .u8 (l[i] : Int)) := h3 i hil1
      have hx := HB.out _ (List.getElem_mem hil1)
      have HQ' := hid (crcRow_snoc l i hil1)
      generalize l[i] = x at m0 hx HQ'
      clear h3 hil1
      have x1 := u32_xor_nat q x hq (by omega)
      have hqx : q ^^^ x < 4294967296 := Nat.xor_lt_two_pow (n := 32) hq (by omega)
      have HE : Hid (crcByte q x = crcBits 8 (q ^^^ x)) := rfl
      go_wp2_with fail
      generalize q ^^^ x = q0 at hqx HE
      clear x1 m0
      go_loopw [3, 5] (fun z y wq => ∃ j q1 : Nat, z = .int .u32 (q1 : Int) ∧ y = .int .i64 (j : Int) ∧ j ≤ 8 ∧ wq = wr ∧ Hid (q1 = crcBits j q0) ∧ q1 < 4294967296) (fun _ y _ => 8 - (intOf y).toNat)
      case atStart => exact ⟨0, q0, rfl, rfl, by omega, rfl, rfl, hqx⟩
      case round =>
        obtain ⟨j, q1, rfl, rfl, hj, rfl, HQ1, hq1⟩ := hrel
        by_cases hj8 : j < 8
        · have b3 : decide ((j : Int) < 8) = true := by simp; omega
          have b4 : (j : Int) < 8 := by omega
          have ad2 : IntKind.i64.wrap ((j : Int) + 1) = (j : Int) + 1 := by simp [IntKind.wrap, IntKind.bits, IntKind.signed]; omega
          by_cases ho : q1 % 2 = 1
          · have d1 : ((q1 : Int) % 2 == 1) = true := by simp; omega
            have x3 : bits .xor .u32 ((q1 : Int) / 2) 3988292384 = ((q1 / 2 ^^^ 3988292384 : Nat) : Int) := by
              have := u32_xor_nat (q1 / 2) 3988292384 (by omega) (by decide)
              simpa using this
            have HS : Hid (q1 / 2 ^^^ 3988292384 = crcBits (j + 1) q0) := by
              show _ = crcBit (crcBits j q0)
              rw [← HQ1.out]; unfold crcBit; rw [if_pos ho]
            have hs : q1 / 2 ^^^ 3988292384 < 4294967296 := Nat.xor_lt_two_pow (n := 32) (by omega) (by decide)
            go_wp2
            exact ⟨⟨j + 1, _, rfl, by push_cast; rfl, by omega, trivial, HS.out, hs⟩, by simp [intOf]; omega⟩
          · have d1 : ((q1 : Int) % 2 == 1) = false := by simp; omega
            have HS : Hid (q1 / 2 = crcBits (j + 1) q0) := by
              show _ = crcBit (crcBits j q0)
              rw [← HQ1.out]; unfold crcBit; rw [if_neg ho]
            have hs : q1 / 2 < 4294967296 := by omega
            go_wp2
            exact ⟨⟨j + 1, q1 / 2, by push_cast; rfl, by push_cast; rfl, by omega, trivial, HS.out, hs⟩, by simp [intOf]; omega⟩
        · have b3 : decide ((j : Int) < 8) = false := by simp; omega
          obtain rfl : j = 8 := by omega
          go_wp2
          exact ⟨⟨i + 1, q1, rfl, by push_cast; rfl, by omega, trivial, by show q1 = _; rw [HQ1.out, HQ'.out, ← HQ.out, HE.out], hq1⟩, by simp [intOf]; omega⟩
    · have b1 : decide ((i : Int) < (n : Int)) = false := by simp; omega
      have x2 : bits .xor .u32 (q : Int) 4294967295 = ((q ^^^ 4294967295 : Nat) : Int) := u32_xor_nat q 4294967295 hq (by decide)
      go_wp2
      go_ret
      refine ⟨?_, rfl⟩
      obtain rfl : i = n := by omega
      show Ending.returned (.int .u32 ((q ^^^ 4294967295 : Nat) : Int)) = _
      unfold crcSum
      rw [HQ.out, HN.out, List.take_length]
end Go.Proofs.YteanndophopplaaDoor
