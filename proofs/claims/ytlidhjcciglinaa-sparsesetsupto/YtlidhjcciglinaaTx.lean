/- HELPERS: the text of a number: an own one for each. -/
import Derived.Test.YtlidhjcciglinaaPb
import Derived.Laws.BytesArg
namespace Go.Proofs.Ytlidhjcciglinaa
open Go.RowKit
set_option linter.unusedVariables false
set_option linter.unusedSimpArgs false
def byteAt (n : Int) (i : Nat) : Int := IntKind.u8.wrap (n / 2 ^ (8 * i))
def textNums (n : Int) : List Int := (List.range 8).map (byteAt n)
def textOf (n : Int) : ByteArray := strOfNums (textNums n)
abbrev U8 (l : List Int) : List Value := l.map (Value.int .u8)
theorem info5 : (Try.prog.info? 5).map (fun i => (i.zero, i.size, i.bytes)) = some (some (.int .u8 0), 1, 1) := by kernel_rfl
def half (n : Int) (i : Nat) : List Int := (List.range i).map (byteAt n) ++ List.replicate (8 - i) 0
theorem half_step (n : Int) (i : Nat) (h : i < 8) : (U8 (half n i)).set i (.int .u8 (byteAt n i)) = U8 (half n (i + 1)) := by
  unfold half
  rw [show 8 - i = (8 - (i + 1)) + 1 by omega, List.replicate_succ, List.range_succ]
  simp [U8]
set_option maxHeartbeats 2000000 in
theorem text25 (n : Int) (w : World) : Calls Try.prog 25 #[.int .i64 n] w fun e w' => e = .returned (.string (textOf n)) ∧ Below w.heap.size w w' := by
  have hmk : ∀ w, (Instr.makeSlice 74 (.int .i64 8) (.int .i64 8)).run Try.prog w = .ok (.slice (some ⟨w.heap.size, 0, none⟩) 8 8) (w.alloc (.cells (madeCells #[.int .u8 0] 8) 5)) := by
    intro w
    have := run_make_row' (P := Try.prog) 74 5 (.int .u8 0) 1 Try.underlying74 info5 rfl .i64 .i64 8 (by omega) (by omega) w
    simpa using this
  have HI : Hid ((w.alloc (.cells (madeCells #[.int .u8 0] 8) 5)).ownsRow w.heap.size 5 1 (.slice (some ⟨w.heap.size, 0, none⟩) 8 8) 8 (U8 (half n 0))) := by
    have := World.ownsRow_lit (base := w.heap.size) (e := 5) (size := 1) w (madeCells #[.int .u8 0] 8) 8 (Nat.le_refl _) (by unfold maxLen; omega) (by rw [size_madeCells])
    rw [toList_madeCells_one] at this
    exact this
  have HB : Hid (Below w.heap.size w (w.alloc (.cells (madeCells #[.int .u8 0] 8) 5))) := (Below.refl _ _).alloc (Nat.le_refl _) _
  go_enter Try.func25, Try.ntmps25
  go_wp2
  generalize hg : w.heap.size = g at HI HB ⊢
  have HG : Hid (w.heap.size = g) := hg
  clear hg
  go_loopw [4] (fun ix wr => ∃ i : Nat, i ≤ 8 ∧ ix = .int .i64 i ∧ Hid (wr.ownsRow g 5 1 (.slice (some ⟨g, 0, none⟩) 8 8) 8 (U8 (half n i))) ∧ Hid (Below g w wr))
    (fun ix _ => 8 - (intOf ix).toNat)
  case atStart => exact ⟨0, by omega, rfl, HI, HB⟩
  case round =>
    obtain ⟨i, hi, rfl, HR, HB2⟩ := hrel
    clear HI HB
    by_cases hin : i < 8
    · have d0 : (wr.cell? ⟨g, i, none⟩).isSome = true := by
        rw [HR.out.cellAt i (by omega)]
        have := HR.out.1
        rw [List.getElem?_eq_getElem (by omega)]
        rfl
      obtain ⟨u, d0⟩ := Option.isSome_iff_exists.1 d0
      have f0 : wr.frozen? ⟨g, i, none⟩ = false := HR.out.frozenAt i
      have hm : (8 * (i : Int)).toNat = 8 * i := by omega
      have hst := (HR.out.stored i (.int .u8 (byteAt n i))).1
      rw [half_step n i hin] at hst
      have HST : Hid ((wr.setCell ⟨g, i, none⟩ (.int .u8 (byteAt n i))).ownsRow g 5 1 (.slice (some ⟨g, 0, none⟩) 8 8) 8 (U8 (half n (i + 1)))) := hst
      have hby : IntKind.u8.wrap (n / 2 ^ (8 * i)) = byteAt n i := rfl
      clear hst
      generalize byteAt n i = y at hby HST
      go_wp2
      go_roundw
      case rel => exact ⟨i + 1, by omega, by go_num, HST, HB2.out.setCell (Nat.le_refl _) _⟩
      case measure => simp [intOf]; omega
    · obtain rfl : i = 8 := by omega
      have hh : half n 8 = textNums n := by unfold half textNums; simp
      have hcv := run_convert_bytes_arg (P := Try.prog) wr 74 5 Try.underlying74 Try.underlying5 g 0 8 8 (textNums n) (by simp [textNums]) (fun k hk => by
        rw [show 0 + k = k by omega, HR.out.cellAt k (by omega), hh]
        simp [textNums, hk]) 9 Try.underlying9
      have hT : strOfNums (textNums n) = textOf n := rfl
      rw [hT] at hcv
      clear HR
      generalize hs : textOf n = s at hcv
      have HS : Hid (textOf n = s) := hs
      clear hs
      go_wp2
      go_ret
      exact ⟨by rw [HS.out]; rfl, by rw [HG.out]; exact HB2.out⟩
end Go.Proofs.Ytlidhjcciglinaa
