/- HELPERS: the numbers that the programs' first instructions will have. -/
import Derived.Test.YtnecakampgdhcaaJb
import Derived.Test.YtnecakampgdhcaaBh
namespace Go.Proofs.Ytnecakampgdhcaa
open Go.RowKit
set_option linter.unusedVariables false
set_option linter.unusedSimpArgs false
def EN (w : World) (g n : Nat) (L : List Pg) : Prop := ∃ cs : Array Value, w.heap[g]? = some (.cells cs 3 (0, 0)) ∧ cs.size = n ∧ ∀ i, i < n → cs[i]? = some (.int .i64 (entry L i))
theorem EN.at0 {w : World} {g n : Nat} {L : List Pg} (h : EN w g n L) (i : Nat) (hi : i < n) : w.cell? ⟨g, i, none⟩ = some (.int .i64 (entry L i)) := by
  obtain ⟨cs, h1, h2, h3⟩ := h
  rw [Joins.cell_of_block h1]
  exact h3 i hi
theorem wrap_ok (x : Int) (h : -9223372036854775808 ≤ x) (h2 : x < 9223372036854775808) : IntKind.i64.wrap x = x := by simp [IntKind.wrap, IntKind.bits, IntKind.signed]; omega
theorem info3j : (Try.prog.info? 3).map (fun i => (i.zero, i.size, i.bytes)) = some (some (.int .i64 0), 1, 8) := by kernel_rfl
theorem make3 (c : Nat) (hc : c ≤ 1000000) (w : World) : (Instr.makeSlice 43 (.int .i64 (c : Int)) (.int .i64 (c : Int))).run Try.prog w = .ok (.slice (some ⟨w.heap.size, 0, none⟩) c c) (w.alloc (.cells (madeCells #[.int .i64 0] c) 3)) := by
  obtain ⟨i0, hi0, hz0, hz1, hz2⟩ := info_parts info3j
  have h := run_make (P := Try.prog) w 43 3 i0 (.int .i64 0) Try.underlying43 hi0 hz0 .i64 .i64 c c (by omega) (by omega) (by rw [hz2]; omega) (by omega)
  simp only [Int.toNat_natCast, hz1, Nat.mul_one] at h
  exact h
set_option maxRecDepth 100000 in
set_option maxHeartbeats 4000000 in
theorem entries41 {w : World} {ad : Option Addr} {n c : Nat} {L : List Pg} (h : LP w w.heap.size ad n L) (h1 : 1 ≤ n) (h2 : n ≤ 100) (hall : mayTo L L.length) :
    Calls Try.prog 41 #[.slice ad n c] w fun e w' => ∃ g, e = .returned (.slice (some ⟨g, 0, none⟩) n n) ∧ w.heap.size ≤ g ∧ EN w' g n L ∧ Below w.heap.size w w' := by
  have hl := h.len
  have hmk := make3 n (by omega) w
  obtain ⟨U, hU⟩ : ∃ U, U = w.alloc (.cells (madeCells #[.int .i64 0] n) 3) := ⟨_, rfl⟩
  have hb : Below w.heap.size w U := by rw [hU]; exact Joins.below_alloc1 w _
  have hG : U.heap[w.heap.size]? = some (.cells (madeCells #[.int .i64 0] n) 3 (0, 0)) := by rw [hU]; exact heap_alloc_new w _
  have hgs := size_madeCells #[.int .i64 0] n
  rw [← hU] at hmk
  obtain ⟨b, o, PA, PN, PC, rfl, hbl, hcs⟩ := h.mem (by omega)
  have HCS := hid hcs
  have HL := hid hl
  have HM := hid hall
  have HB := hid hb
  obtain ⟨g, hg⟩ : ∃ g, g = w.heap.size := ⟨_, rfl⟩
  rw [← hg] at hG hmk
  have hE : ∃ cs : Array Value, U.heap[g]? = some (.cells cs 3 (0, 0)) ∧ cs.size = n ∧ ∀ i, i < 0 → cs[i]? = some (.int .i64 (entry L i)) := ⟨_, hG, hgs, fun i hi => by omega⟩
  have HE := hid hE
  have HGE := hid hg
  have a0 : ahead L 0 = n - 1 := by rw [ahead_zero]; omega
  have ad0 : IntKind.i64.wrap ((n : Int) - 1) = (ahead L 0 : Int) := by rw [a0]; simp [IntKind.wrap, IntKind.bits, IntKind.signed]; omega
  clear hcs hl hall hb hG hgs hE hU h hg a0
  go_enter Try.func41, Try.ntmps41
  go_wp2_with fail
  clear hmk ad0
  go_loopw [4, 15] (fun u y wq => ∃ i : Nat, u = .int .i64 (ahead L i : Int) ∧ y = .int .i64 (i : Int) ∧ i ≤ n ∧ Hid (∃ cs : Array Value, wq.heap[g]? = some (.cells cs 3 (0, 0)) ∧ cs.size = n ∧ ∀ j, j < i → cs[j]? = some (.int .i64 (entry L j))) ∧ Hid (Below w.heap.size w wq)) (fun _ y _ => n - (intOf y).toNat)
  case atStart => exact ⟨0, rfl, rfl, by omega, HE.out, HB.out⟩
  case round =>
    clear HE HB
    obtain ⟨i, rfl, rfl, hi, HE, HB⟩ := hrel
    by_cases hil : i < n
    · have b1 : decide ((i : Int) < (n : Int)) = true := by simp; omega
      have b2 : (i : Int) < (n : Int) := by omega
      have ad1 : IntKind.i64.wrap ((i : Int) + 1) = (i : Int) + 1 := by simp [IntKind.wrap, IntKind.bits, IntKind.signed]; omega
      obtain ⟨hP3, hPI, hPN⟩ := HCS.out i hil
      obtain ⟨m0, m1, m2⟩ := hP3.kept (HB.out.block b hbl)
      have hlen := hPI.len
      have hle := ahead_le (L := L) i (by have := HL.out; omega) (by have := HL.out; omega) (fun j hj => HM.out j (by have := HL.out; omega))
      have hmay := may_ok (HM.out i (by have := HL.out; omega))
      have hsu := ahead_succ L i (by have := HL.out; omega)
      have ad2 : IntKind.i64.wrap ((ahead L i : Int) + (L.getD i default).s) = entry L i := by unfold entry; exact wrap_ok _ (by omega) (by omega)
      have ad3 : IntKind.i64.wrap ((ahead L i : Int) + (PN i : Int)) = (ahead L (i + 1) : Int) := by rw [hsu, ← hlen, wrap_ok _ (by omega) (by omega)]; push_cast; rfl
      obtain ⟨cs, hg, hs, hc⟩ := HE.out
      have hgl : g < wr.heap.size := (Array.getElem?_eq_some_iff.1 hg).1
      have f0 := Joins.unfrozen_of_block hg i
      have k0 : wr.cell? ⟨g, i, none⟩ = some (cs[i]'(by omega)) := by rw [Joins.cell_of_block hg, Array.getElem?_eq_getElem (by omega)]
      have HG := hid hg
      have HC := hid hc
      clear hg hc hP3 hPI hlen hmay hsu hle HE hPN
      generalize PA i = pa at *
      generalize PN i = pn at *
      generalize PC i = pc at *
      generalize (L.getD i default).s = ss at *
      generalize (L.getD i default).k = kk at *
      go_wp2_with fail
      have hX : (wr.setCell ⟨g, i, none⟩ (.int .i64 (entry L i))).heap[g]? = some (.cells (cs.setIfInBounds i (.int .i64 (entry L i))) 3 (0, 0)) := Joins.block_setCell (i := i) HG.out _
      refine ⟨⟨i + 1, rfl, by push_cast; rfl, by omega, ⟨_, (heap_alloc_old _ _ (by simpa [World.setCell] using hgl)).trans hX, by simpa using hs, fun j hj => ?_⟩, ?_⟩, by simp [intOf]; omega⟩
      · by_cases e : j = i
        · subst e; simp [hs, hil]
        · rw [Array.getElem?_setIfInBounds_ne (fun e' => e e'.symm)]; exact HC.out j (by omega)
      · have hb2 := HB.out.setCell (p := ⟨g, i, none⟩) (by show w.heap.size ≤ g; rw [HGE.out]; exact Nat.le_refl _) (.int .i64 (entry L i))
        exact hb2.alloc hb2.size _
    · have b1 : decide ((i : Int) < (n : Int)) = false := by simp; omega
      obtain rfl : n = i := by omega
      go_wp2
      all_goals go_ret
      all_goals exact ⟨g, rfl, by rw [HGE.out]; exact Nat.le_refl _, HE.out, HB.out⟩
end Go.Proofs.Ytnecakampgdhcaa
