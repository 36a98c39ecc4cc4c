/- HELPERS: the document's reader of bytes is a reader. -/
import Derived.Test.YteanndophopplaaDoorGA
import Derived.Deep.QuietTactic
import Derived.BigQuiet
import Derived.Test.YteanndophopplaaDoorHA
import Derived.Test.YteanndophopplaaDoorGB
/- HELPERS: the document's reader of bytes: a number. -/
namespace Go.Proofs.YteanndophopplaaDoor
open Go.RowKit
set_option linter.unusedVariables false
set_option linter.unusedSimpArgs false
theorem w64_in (n : Int) (h : -9223372036854775808 ≤ n ∧ n ≤ 9223372036854775807) : wrap64 n = n := by unfold wrap64; omega
theorem ew_mul (x S y : Nat) (h : x % 128 * S = y) (hy : y ≤ 34359738240) : wrap64 ((x : Int) % 128 * (S : Int)) = (y : Int) := by
  have e : (x : Int) % 128 * (S : Int) = (y : Int) := by rw [← h]; simp
  rw [e]
  exact w64_in _ (by constructor <;> omega)
theorem ew_add (acc y : Nat) (h : acc ≤ 268435456) (hy : y ≤ 34359738240) : wrap64 ((acc : Int) + (y : Int)) = ((acc + y : Nat) : Int) := by
  rw [w64_in _ (by constructor <;> omega)]
  push_cast
  rfl
/-- the document's reader: all its bytes, where it stands, whether it has given up -/
structure DR (B rb : Nat) (w : World) (l : List Nat) (a : Option Addr) (c p : Nat) (bd : Bool) : Prop where
  box : w.heap[rb]? = some (.cells #[.slice none 0 0, .slice a l.length c, .int .i64 (p : Int), .bool bd] 56 (0, 0))
  ba : BA w B a l
  low : B ≤ rb
  cap : l.length ≤ c
  at' : p ≤ l.length
  lt : ∀ x ∈ l, x < 256
  sm : l.length ≤ 8388608
theorem four_cells {w : World} {b : Nat} {v0 v1 v2 v3 : Value} {t : TypeId} {fr : Nat × Nat} (h : w.heap[b]? = some (.cells #[v0, v1, v2, v3] t fr)) : w.cell? ⟨b, 0, none⟩ = some v0 ∧ w.cell? ⟨b, 1, none⟩ = some v1 ∧ w.cell? ⟨b, 2, none⟩ = some v2 ∧ w.cell? ⟨b, 3, none⟩ = some v3 :=
  ⟨Joins.cell_of_block h 0, Joins.cell_of_block h 1, Joins.cell_of_block h 2, Joins.cell_of_block h 3⟩
theorem DR.setP {B rb : Nat} {w : World} {l : List Nat} {a : Option Addr} {c p : Nat} {bd : Bool} (h : DR B rb w l a c p bd) {q : Nat} (hq : q ≤ l.length) : DR B rb (w.setCell ⟨rb, 2, none⟩ (.int .i64 (q : Int))) l a c q bd :=
  ⟨Joins.block_setCell h.box _, h.ba.kept (fun k hk => Below.heap_setCell _ _ _ _ (by have := h.low; simp; omega)) (Nat.le_refl _), h.low, h.cap, hq, h.lt, h.sm⟩
theorem DR.setB {B rb : Nat} {w : World} {l : List Nat} {a : Option Addr} {c p : Nat} {bd : Bool} (h : DR B rb w l a c p bd) (b : Bool) : DR B rb (w.setCell ⟨rb, 3, none⟩ (.bool b)) l a c p b :=
  ⟨Joins.block_setCell h.box _, h.ba.kept (fun k hk => Below.heap_setCell _ _ _ _ (by have := h.low; simp; omega)) (Nat.le_refl _), h.low, h.cap, h.at', h.lt, h.sm⟩
theorem DR.setP1 {B rb : Nat} {w : World} {l : List Nat} {a : Option Addr} {c p : Nat} {bd : Bool} (h : DR B rb w l a c p bd) {q : Nat} (hq : q < l.length) : DR B rb (w.setCell ⟨rb, 2, none⟩ (.int .i64 ((q : Int) + 1))) l a c (q + 1) bd := by
  have := h.setP (q := q + 1) hq
  push_cast at this
  exact this
theorem DR.drewN {B rb : Nat} {w : World} {l : List Nat} {a : Option Addr} {c p : Nat} {bd : Bool} (h : DR B rb w l a c p bd) (n : Nat) : DR B rb (w.drewN n) l a c p bd :=
  ⟨h.box, h.ba.kept (fun _ _ => rfl) (Nat.le_refl _), h.low, h.cap, h.at', h.lt, h.sm⟩
/-- what is read so far, and what is to come -/
def More5 (j acc : Nat) (l0 l : List Nat) : Prop := get7 5 true l0 = (match get7 (5 - j) (decide (j = 0)) l with | none => none | some (n, u) => some (acc + 128 ^ j * n, u))
theorem More5.step {j acc x : Nat} {l0 r : List Nat} (h : More5 j acc l0 (x :: r)) (hj : j < 5) (hx : x < 256) (h8 : 128 ≤ x) : More5 (j + 1) (acc + x % 128 * 128 ^ j) l0 r := by
  unfold More5 at h ⊢
  rw [h, show 5 - j = (5 - (j + 1)) + 1 by omega, get7_more hx h8, show decide (j + 1 = 0) = false by simp]
  cases get7 (5 - (j + 1)) false r with
  | none => rfl
  | some p =>
    simp only
    congr 2
    rw [Nat.pow_succ, Nat.mul_add, Nat.mul_comm (128 ^ j) (x % 128), Nat.mul_assoc]
    omega
theorem More5.last {j acc x : Nat} {l0 r : List Nat} (h : More5 j acc l0 (x :: r)) (hj : j < 5) (h8 : ¬ 128 ≤ x) : get7 5 true l0 = if x = 0 ∧ 0 < j then none else some (acc + x % 128 * 128 ^ j, r) := by
  unfold More5 at h
  rw [h, show 5 - j = (5 - (j + 1)) + 1 by omega]
  by_cases h0 : x = 0 ∧ 0 < j
  · rw [if_pos h0]
    obtain ⟨rfl, h1⟩ := h0
    rw [show decide (j = 0) = false by simp; omega, get7_zero]
  · rw [if_neg h0, get7_last h8 (by
      intro h1
      apply h0
      refine ⟨h1.1, ?_⟩
      have := h1.2
      simp at this
      omega)]
    simp only
    congr 2
    rw [show x % 128 = x by omega, Nat.mul_comm]
theorem More5.nil {j acc : Nat} {l0 : List Nat} (h : More5 j acc l0 []) : get7 5 true l0 = none := by
  unfold More5 at h
  rw [h]
  cases 5 - j <;> simp [get7]
theorem More5.done {acc : Nat} {l0 l : List Nat} (h : More5 5 acc l0 l) : get7 5 true l0 = none := by
  unfold More5 at h
  rw [h]
  rfl
/-- what a reader's number answers -/
def DN (B rb : Nat) (w : World) (l : List Nat) (a : Option Addr) (c p : Nat) (e : Ending) (w' : World) : Prop :=
  Mo w w' rb ∧ ∃ (v : Nat) (q : Nat) (b : Bool), e = .returned (.int .i64 (v : Int)) ∧ v ≤ 1099511627776 ∧ DR B rb w' l a c q b ∧ ((get7 5 true (l.drop p) = none ∧ b = true) ∨ (∃ n u, get7 5 true (l.drop p) = some (n, u) ∧ v = n ∧ b = false ∧ l.drop q = u))
set_option maxRecDepth 100000 in
set_option maxHeartbeats 4000000 in
theorem varied54 {B rb : Nat} {w : World} {l : List Nat} {a : Option Addr} {c p : Nat} {bd : Bool} (h : DR B rb w l a c p bd) :
    Calls Tryd.prog 54 #[pt rb] w (DN B rb w l a c p) := by
  have HR := hid h
  clear h
  go_enter Tryd.func54, Tryd.ntmps54
  go_wp2_with fail
  go_loopw [3, 4, 5] (fun y z t wq => ∃ (j acc q : Nat), y = .int .i64 (acc : Int) ∧ z = .int .i64 ((128 ^ j : Nat) : Int) ∧ t = .int .i64 (j : Int) ∧ j ≤ 5 ∧ Hid (DR B rb wq l a c q bd) ∧ Hid (More5 j acc (l.drop p) (l.drop q)) ∧ acc < 128 ^ j ∧ Hid (Mo w wq rb)) (fun _ _ y _ => 5 - (intOf y).toNat)
  case atStart =>
    refine ⟨0, 0, p, rfl, rfl, rfl, by omega, HR.out, ?_, by simp, Mo.refl _ _⟩
    show get7 5 true _ = (match get7 5 true _ with | none => none | some (n, u) => some (0 + 128 ^ 0 * n, u))
    cases get7 5 true (l.drop p) with
    | none => rfl
    | some p => simp
  case round =>
    clear HR
    obtain ⟨j, acc, q, rfl, rfl, rfl, hj, HR, HM, hacc, HO⟩ := hrel
    obtain ⟨c0, c1, c2, c3⟩ := four_cells HR.out.box
    have f2 := Joins.unfrozen_of_block HR.out.box 2
    have f3 := Joins.unfrozen_of_block HR.out.box 3
    have hq := HR.out.at'
    have hsm := HR.out.sm
    obtain ⟨N, hN⟩ : ∃ N, l.length = N := ⟨_, rfl⟩
    have HN := hid hN
    rw [hN] at c1 hq hsm
    clear hN
    by_cases hj5 : j = 5
    · subst hj5
      have HF := hid (HM.out.done)
      have b1 : decide (((5 : Nat) : Int) < 5) = false := by simp
      go_wp2
      all_goals go_ret
      all_goals exact ⟨HO.out.trans (Mo.set _ _ _ _), 0, q, true, rfl, by omega, HR.out.setB true, .inl ⟨HF.out, rfl⟩⟩
    · have b1 : decide ((j : Int) < 5) = true := by simp; omega
      have b1' : (j : Int) < 5 := by omega
      by_cases hend : N ≤ q
      · have b2 : decide ((q : Int) ≥ (N : Int)) = true := by simp; omega
        have b2' : (N : Int) ≤ (q : Int) := by omega
        have HF := hid (More5.nil (j := j) (acc := acc) (l0 := l.drop p) (by have e := HM.out; rw [show l.drop q = [] from List.drop_eq_nil_of_le (by rw [HN.out]; exact hend)] at e; exact e))
        go_wp2
        go_quiet (fail)
        go_wp2
        all_goals go_ret
        all_goals exact ⟨(HO.out.trans (Mo.drewN _ _ _)).trans (Mo.set _ _ _ _), 0, q, true, rfl, by omega, (HR.out.drewN _).setB true, .inl ⟨HF.out, rfl⟩⟩
      · have b2 : decide ((q : Int) ≥ (N : Int)) = false := by simp; omega
        have b2' : ¬ (N : Int) ≤ (q : Int) := by omega
        have hql : q < l.length := by rw [HN.out]; omega
        obtain ⟨x, hx⟩ : ∃ x, x = l[q] := ⟨_, rfl⟩
        have hdr : l.drop q = x :: l.drop (q + 1) := by rw [hx]; exact List.drop_eq_getElem_cons hql
        have hx8 : x < 256 := by rw [hx]; exact HR.out.lt _ (List.getElem_mem hql)
        obtain ⟨b, o, rfl, hb, hc⟩ : ∃ b o, a = some ⟨b, o, none⟩ ∧ b < B ∧ ∀ k (h : k < l.length), wr.cell? ⟨b, o + k, none⟩ = some (.int .u8 (l[k] : Int)) := by
          rcases HR.out.ba with e | e
          · subst e; simp at hql
          · exact e
        have k0 := hc q hql
        rw [← hx] at k0
        have hM := HM.out
        rw [hdr] at hM
        have HM2 := hid hM
        have HD := hid (HR.out.setP (q := q + 1) hql)
        have hj4 : j ≤ 4 := by omega
        have hS : 128 ^ j ≤ 268435456 := Nat.le_trans (Nat.pow_le_pow_right (by omega) hj4) (by decide)
        obtain ⟨S, hSS⟩ : ∃ S, 128 ^ j = S := ⟨_, rfl⟩
        have HSS := hid hSS
        rw [hSS] at hacc hS ⊢
        clear hx hdr hM hSS HM hc
        have hy : x % 128 * S ≤ 127 * S := Nat.mul_le_mul_right _ (by omega)
        obtain ⟨y, hyy⟩ : ∃ y, x % 128 * S = y := ⟨_, rfl⟩
        rw [hyy] at hy
        have HY := hid hyy
        have hyb : y ≤ 34359738240 := by omega
        have hab : acc ≤ 268435456 := by omega
        have EW := hid (ew_mul x S y hyy hyb)
        have EW2 := hid (ew_add acc y hab hyb)
        clear hyy
        by_cases h8 : 128 ≤ x
        · have b3 : ¬ (x : Int) < 128 := by omega
          have HST := hid (HM2.out.step (by omega) hx8 h8)
          go_wp2
          go_quiet (fail)
          go_wp2
          go_quiet (fail)
          go_wp2
          refine ⟨⟨j + 1, acc + y, q + 1, ?_, ?_, by push_cast; rfl, by omega, ?_, ?_, ?_, ?_⟩, by simp [intOf]; omega⟩
          · rw [EW.out, EW2.out]
          · rw [Nat.pow_succ, HSS.out]; push_cast; rfl
          · exact (HR.out.drewN _).setP1 (by have := HN.out; omega)
          · have := HST.out; rw [HSS.out, HY.out] at this; exact this
          · rw [Nat.pow_succ, HSS.out]; omega
          · exact (HO.out.trans (Mo.drewN _ _ _)).trans (Mo.set _ _ _ _)
        · have b3 : (x : Int) < 128 := by omega
          have HLA := hid (HM2.out.last (by omega) h8)
          clear HM2
          by_cases h0 : x = 0 ∧ 0 < j
          · obtain ⟨h0x, hj0⟩ := h0
            have HL : Hid (get7 5 true (l.drop p) = none) := by
              show _ = _
              rw [HLA.out, if_pos ⟨h0x, hj0⟩]
            subst h0x
            have b4 : decide ((j : Int) > 0) = true := by simp; omega
            have b4' : (0 : Int) < (j : Int) := by omega
            go_wp2
            go_quiet (fail)
            go_wp2
            go_quiet (fail)
            go_wp2
            all_goals go_ret
            all_goals exact ⟨((HO.out.trans (Mo.drewN _ _ _)).trans (Mo.set _ _ _ _)).trans (Mo.set _ _ _ _), acc, q + 1, true, rfl, by omega, ((HR.out.drewN _).setP1 (by have := HN.out; omega)).setB _, .inl ⟨HL.out, rfl⟩⟩
          · have HL : Hid (get7 5 true (l.drop p) = some (acc + y, l.drop (q + 1))) := by
              show _ = _
              rw [HLA.out, if_neg h0, HSS.out, HY.out]
            by_cases hx0 : x = 0
            · subst hx0
              obtain rfl : j = 0 := by omega
              have hy0 : y = 0 := by have := HY.out; simpa using this.symm
              subst hy0
              have b4 : decide (((0 : Nat) : Int) > 0) = false := by simp
              have b4' : ¬ (0 : Int) < ((0 : Nat) : Int) := by simp
              go_wp2
              go_quiet (fail)
              go_wp2
              go_quiet (fail)
              go_wp2
              all_goals go_ret
              all_goals exact ⟨((HO.out.trans (Mo.drewN _ _ _)).trans (Mo.set _ _ _ _)).trans (Mo.set _ _ _ _), acc + 0, q + 1, false, ret_int (by simp), by omega, ((HR.out.drewN _).setP1 (by have := HN.out; omega)).setB _, .inr ⟨acc + 0, _, HL.out, rfl, rfl, rfl⟩⟩
            · have b4 : ¬ ((x : Int) = 0) := by omega
              have b4' : decide ((x : Int) = 0) = false := by simp; omega
              have b5 : ((x : Int) == 0) = false := by simp; omega
              go_wp2
              go_quiet (fail)
              go_wp2
              go_quiet (fail)
              go_wp2
              all_goals go_ret
              all_goals exact ⟨((HO.out.trans (Mo.drewN _ _ _)).trans (Mo.set _ _ _ _)).trans (Mo.set _ _ _ _), acc + y, q + 1, false, ret_int (by rw [EW.out, EW2.out]), by omega, ((HR.out.drewN _).setP1 (by have := HN.out; omega)).setB _, .inr ⟨acc + y, _, HL.out, rfl, rfl, rfl⟩⟩
end Go.Proofs.YteanndophopplaaDoor
/- HELPERS: the document's reader of bytes: the next number, the next operation. -/
namespace Go.Proofs.YteanndophopplaaDoor
open Go.RowKit
set_option linter.unusedVariables false
set_option linter.unusedSimpArgs false
abbrev C5 : Codec Nat := byteC 5 (by omega)
/-- the document's reader of bytes l -/
def SB (B rb : Nat) (l : List Nat) (a : Option Addr) (c : Nat) (w : World) (m : Option (List Nat)) : Prop :=
  ∃ p bd, DR B rb w l a c p bd ∧ ((m = none ∧ bd = true) ∨ (m = some (l.drop p) ∧ bd = false))
set_option maxRecDepth 100000 in
set_option maxHeartbeats 4000000 in
theorem next34_bad {B rb : Nat} {w : World} {l : List Nat} {a : Option Addr} {c p : Nat} (h : DR B rb w l a c p true) : Calls Tryd.prog 34 #[pt rb, .bool false] w fun e w' => e = .returned (.int .i64 0) ∧ w' = w := by
  obtain ⟨c0, c1, c2, c3⟩ := four_cells h.box
  clear h
  go_enter Tryd.func34, Tryd.ntmps34
  go_wp2
  all_goals go_ret
  all_goals exact ⟨rfl, rfl⟩
set_option maxRecDepth 100000 in
set_option maxHeartbeats 4000000 in
theorem next34_ok {B rb : Nat} {w : World} {l : List Nat} {a : Option Addr} {c p : Nat} (h : DR B rb w l a c p false) : Calls Tryd.prog 34 #[pt rb, .bool false] w (DN B rb w l a c p) := by
  obtain ⟨c0, c1, c2, c3⟩ := four_cells h.box
  have C54 := varied54 h
  clear h
  go_enter Tryd.func34, Tryd.ntmps34
  go_wp2_with (go_at_call 54; (with_reducible refine C54.mono ?_); rintro e w1 ⟨hM, v, q, b, rfl, hv, hD, hx⟩)
  all_goals go_ret
  all_goals exact ⟨hM, v, q, b, rfl, hv, hD, hx⟩
set_option maxRecDepth 100000 in
set_option maxHeartbeats 4000000 in
theorem op44_bad {B rb : Nat} {w : World} {l : List Nat} {a : Option Addr} {c p : Nat} (h : DR B rb w l a c p true) : Calls Tryd.prog 44 #[pt rb, .bool false] w fun e w' => e = .returned (.int .i64 0) ∧ w' = w := by
  obtain ⟨c0, c1, c2, c3⟩ := four_cells h.box
  clear h
  go_enter Tryd.func44, Tryd.ntmps44
  go_wp2
  all_goals go_ret
  all_goals exact ⟨rfl, rfl⟩
set_option maxRecDepth 100000 in
set_option maxHeartbeats 4000000 in
theorem op44_end {B rb : Nat} {w : World} {l : List Nat} {a : Option Addr} {c p : Nat} (h : DR B rb w l a c p false) (hp : l.length ≤ p) : Calls Tryd.prog 44 #[pt rb, .bool false] w fun e w' => e = .returned (.int .i64 0) ∧ Mo w w' rb ∧ DR B rb w' l a c p false := by
  obtain ⟨c0, c1, c2, c3⟩ := four_cells h.box
  have b1 : decide ((p : Int) ≥ (l.length : Int)) = true := by simp; omega
  have b2 : (l.length : Int) ≤ (p : Int) := by omega
  have H := hid h
  clear h
  go_enter Tryd.func44, Tryd.ntmps44
  go_wp2
  go_quiet (fail)
  go_wp2
  all_goals go_ret
  all_goals exact ⟨rfl, Mo.drewN _ _ _, H.out.drewN _⟩
set_option maxRecDepth 100000 in
set_option maxHeartbeats 4000000 in
theorem op44_ok {B rb : Nat} {w : World} {l : List Nat} {a : Option Addr} {c p : Nat} (h : DR B rb w l a c p false) (hp : p < l.length) : Calls Tryd.prog 44 #[pt rb, .bool false] w fun e w' => e = .returned (.int .i64 (l[p] : Int)) ∧ Mo w w' rb ∧ DR B rb w' l a c (p + 1) false := by
  obtain ⟨c0, c1, c2, c3⟩ := four_cells h.box
  have f2 := Joins.unfrozen_of_block h.box 2
  obtain ⟨b, o, rfl, hb, hc⟩ : ∃ b o, a = some ⟨b, o, none⟩ ∧ b < B ∧ ∀ k (h : k < l.length), w.cell? ⟨b, o + k, none⟩ = some (.int .u8 (l[k] : Int)) := by
    rcases h.ba with e | e
    · subst e; simp at hp
    · exact e
  have k0 := hc p hp
  have hx8 := h.lt _ (List.getElem_mem hp)
  have hsm := h.sm
  obtain ⟨x, hx⟩ : ∃ x, x = l[p] := ⟨_, rfl⟩
  rw [← hx] at k0 hx8 ⊢
  obtain ⟨N, hN⟩ : ∃ N, N = l.length := ⟨_, rfl⟩
  rw [← hN] at c1 hp hsm
  have b1 : decide ((p : Int) ≥ (N : Int)) = false := by simp; omega
  have b2 : ¬ (N : Int) ≤ (p : Int) := by omega
  have hbr : b < rb := by have := h.low; omega
  have k1 := (cell_eq (Below.heap_setCell w ⟨rb, 2, none⟩ (.int .i64 ((p : Int) + 1)) b (show b ≠ rb by omega)) (o + p)).trans k0
  have e2 := Joins.block_setCell (i := 2) h.box (.int .i64 ((p : Int) + 1))
  have e1 := Joins.cell_of_block e2 1
  have e3 := Joins.cell_of_block e2 2
  simp at e1 e3
  rw [← hN] at e1
  have H := hid h
  have HN := hid hN
  have HX := hid hx
  clear h hc hx hN e2
  go_enter Tryd.func44, Tryd.ntmps44
  go_wp2
  go_quiet (fail)
  go_wp2
  go_quiet (fail)
  go_wp2
  all_goals go_ret
  all_goals exact ⟨rfl, (((Mo.drewN _ _ _).trans (Mo.set _ _ _ _)).trans (Mo.drewN _ _ _)), ((H.out.drewN _).setP1 (by have := HN.out; omega)).drewN _⟩
end Go.Proofs.YteanndophopplaaDoor
namespace Go.Proofs.YteanndophopplaaDoor
open Go.RowKit
set_option linter.unusedVariables false
set_option linter.unusedSimpArgs false
theorem put7_pos (n : Nat) : 0 < (put7 n).length := by
  by_cases h : 128 ≤ n
  · rw [put7_big h]; simp
  · rw [put7_small h]; simp
theorem SB.cases {B rb : Nat} {l : List Nat} {a : Option Addr} {c : Nat} {w : World} {m : Option (List Nat)} (h : SB B rb l a c w m) : (m = none ∧ ∃ p, DR B rb w l a c p true) ∨ (∃ p, m = some (l.drop p) ∧ DR B rb w l a c p false) := by
  obtain ⟨p, bd, hD, ⟨h1, rfl⟩ | ⟨h1, rfl⟩⟩ := h
  · exact .inl ⟨h1, p, hD⟩
  · exact .inr ⟨p, h1, hD⟩
theorem SB.no {B rb : Nat} {l : List Nat} {a : Option Addr} {c : Nat} {w : World} {p : Nat} (h : DR B rb w l a c p true) : SB B rb l a c w none := ⟨p, true, h, .inl ⟨rfl, rfl⟩⟩
theorem SB.yes {B rb : Nat} {l : List Nat} {a : Option Addr} {c : Nat} {w : World} {p : Nat} (h : DR B rb w l a c p false) : SB B rb l a c w (some (l.drop p)) := ⟨p, false, h, .inr ⟨rfl, rfl⟩⟩
theorem drd_b {B rb : Nat} {l : List Nat} {a : Option Addr} {c : Nat} (hB : B ≤ rb) : DRd C5 false B rb (SB B rb l a c) where
  low := hB
  box := fun w m h => by
    obtain ⟨p, bd, hD, hm⟩ := h
    refine ⟨?_, Joins.unfrozen_of_block hD.box 3, (Array.getElem?_eq_some_iff.1 hD.box).1⟩
    rw [(four_cells hD.box).2.2.2]
    rcases hm with ⟨rfl, rfl⟩ | ⟨rfl, rfl⟩ <;> rfl
  kept := fun w w' m h h1 h2 => by
    obtain ⟨p, bd, hD, hm⟩ := h
    exact ⟨p, bd, ⟨h1.trans hD.box, hD.ba.kept h2 (Nat.le_refl _), hD.low, hD.cap, hD.at', hD.lt, hD.sm⟩, hm⟩
  stop := fun w m h => by
    obtain ⟨p, bd, hD, hm⟩ := h
    exact SB.no (hD.setB true)
  small := fun w m h => by
    rcases h.cases with ⟨h1, _⟩ | ⟨p, h1, hD⟩
    · cases h1
    · have h2 := Option.some.inj h1
      have := hD.sm
      rw [h2, List.length_drop]; omega
  next := fun w m h => by
    rcases h.cases with ⟨rfl, p, hD⟩ | ⟨p, rfl, hD⟩
    · refine (next34_bad hD).mono ?_
      rintro e w' ⟨rfl, rfl⟩
      exact ⟨0, none, rfl, by omega, Mo.refl _ _, SB.no hD, .inl ⟨rfl, rfl⟩⟩
    · refine (next34_ok hD).mono ?_
      rintro e w' ⟨hM, v, q, b, rfl, hv, hD', hx⟩
      rcases hx with ⟨h1, rfl⟩ | ⟨n, u, h1, rfl, rfl, h2⟩
      · exact ⟨v, none, rfl, hv, hM, SB.no hD', .inl ⟨h1, rfl⟩⟩
      · exact ⟨v, some (l.drop q), rfl, hv, hM, SB.yes hD', .inr ⟨l.drop q, by rw [h2]; exact h1, rfl⟩⟩
  op := fun w m h => by
    rcases h.cases with ⟨rfl, p, hD⟩ | ⟨p, rfl, hD⟩
    · refine (op44_bad hD).mono ?_
      rintro e w' ⟨rfl, rfl⟩
      exact ⟨0, none, rfl, by omega, Mo.refl _ _, SB.no hD, .inl ⟨rfl, rfl, rfl⟩⟩
    · by_cases hp : p < l.length
      · refine (op44_ok hD hp).mono ?_
        rintro e w' ⟨rfl, hM, hD'⟩
        refine ⟨l[p], some (l.drop (p + 1)), rfl, by have := hD.lt _ (List.getElem_mem hp); omega, hM, SB.yes hD', .inr ⟨l.drop (p + 1), ?_, rfl⟩⟩
        rw [List.drop_eq_getElem_cons hp]
        rfl
      · refine (op44_end hD (by omega)).mono ?_
        rintro e w' ⟨rfl, hM, hD'⟩
        refine ⟨0, some (l.drop p), rfl, by omega, hM, SB.yes hD', .inl ⟨?_, rfl, rfl⟩⟩
        rw [List.drop_eq_nil_of_le (by omega)]
        rfl
  eats := fun m n u h => by
    have e := (get7_sound 5 true m u n h).1
    have := put7_pos n
    rw [e, List.length_append]; omega
  eatsop := fun m n u h => by
    cases m with
    | nil => cases h
    | cons b r =>
      have h2 := Option.some.inj h
      simp only [Prod.mk.injEq] at h2
      rw [← h2.2]; simp
abbrev L5 : Nat := 34359738368
theorem getI_D {l : List Nat} : getI C5 L5 l = getD' C5 l := getI_doc C5 (show 128 ^ 5 - 1 ≤ L5 by decide) l
/-- instructions that were read so far -/
def InsO (k : Nat) (m0 : Option (List Nat)) (i : Nat) (J : List In) (m : Option (List Nat)) : Prop :=
  (m = none ∧ m0.bind (getN C5 L5 k) = none) ∨ ∃ l, m = some l ∧ m0.bind (getN C5 L5 k) = (match getN C5 L5 (k - i) l with | none => none | some (A, u) => some (J ++ A, u))
theorem InsO.start (k : Nat) (l : List Nat) : InsO k (some l) 0 [] (some l) := by
  refine .inr ⟨l, rfl, ?_⟩
  show getN C5 L5 k l = _
  rw [Nat.sub_zero]
  cases getN C5 L5 k l <;> rfl
theorem InsO.step {k i : Nat} {m0 : Option (List Nat)} {J : List In} {l : List Nat} {I : In} {m' : Option (List Nat)} (h : InsO k m0 i J (some l)) (hi : i < k) (hx : IX C5 (some l) I m') : InsO k m0 (i + 1) (J ++ [I]) m' := by
  rcases h with ⟨h1, _⟩ | ⟨l', h1, h2⟩
  · cases h1
  · cases h1
    rw [show k - i = (k - (i + 1)) + 1 by omega] at h2
    rcases hx with ⟨hx, rfl⟩ | ⟨u, hx, rfl⟩
    · have hx' : getI C5 L5 l = none := getI_D.trans hx
      refine .inl ⟨rfl, ?_⟩
      rw [h2]
      simp only [getN, hx']
    · have hx' : getI C5 L5 l = some (I, u) := getI_D.trans hx
      refine .inr ⟨u, rfl, ?_⟩
      rw [h2]
      simp only [getN, hx']
      cases getN C5 L5 (k - (i + 1)) u with
      | none => rfl
      | some p => simp
theorem InsO.done {k : Nat} {m0 : Option (List Nat)} {J : List In} {l : List Nat} (h : InsO k m0 k J (some l)) : m0.bind (getN C5 L5 k) = some (J, l) := by
  rcases h with ⟨h1, _⟩ | ⟨l', h1, h2⟩
  · cases h1
  · cases h1
    rw [h2, Nat.sub_self]
    simp [getN]
theorem InsO.none {k i : Nat} {m0 : Option (List Nat)} {J : List In} (h : InsO k m0 i J Option.none) : m0.bind (getN C5 L5 k) = Option.none := by
  rcases h with ⟨_, h⟩ | ⟨_, h, _⟩
  · exact h
  · cases h
theorem bodyD {m : List Nat} {v1 v2 v3 : Nat} {m1 m2 m3 : Option (List Nat)} (h1 : NX C5 (some m) v1 m1) (h2 : NX C5 m1 v2 m2) (h3 : NX C5 m2 v3 m3) : restP C5 L5 L5 m = (m3.bind (getN C5 L5 v3)).map fun p => ((p.1, (v2 : Int), (v1 : Int)), p.2) := by
  unfold restP
  rcases h1 with ⟨h1, rfl⟩ | ⟨u1, h1, rfl⟩
  · have h1' : C5.get m = none := h1
    rw [h1']
    rcases h2 with ⟨_, rfl⟩ | ⟨_, h2, _⟩
    · rcases h3 with ⟨_, rfl⟩ | ⟨_, h3, _⟩
      · rfl
      · cases h3
    · cases h2
  · have h1' : C5.get m = some (v1, u1) := h1
    rw [h1']
    simp only
    rcases h2 with ⟨h2, rfl⟩ | ⟨u2, h2, rfl⟩
    · have h2' : C5.get u1 = none := h2
      rw [h2']
      rcases h3 with ⟨_, rfl⟩ | ⟨_, h3, _⟩
      · rfl
      · cases h3
    · have h2' : C5.get u1 = some (v2, u2) := h2
      rw [h2']
      simp only
      rcases h3 with ⟨h3, rfl⟩ | ⟨u3, h3, rfl⟩
      · have h3' : C5.get u2 = none := h3
        rw [h3']
        rfl
      · have h3' : C5.get u2 = some (v3, u3) := h3
        rw [h3']
        simp only
        have hn := (C5.num_get _ _ _ h3').2
        rw [if_neg (show ¬ 34359738368 < v3 by have : C5.top = 34359738367 := by decide
                                               omega)]
        show _ = (getN C5 L5 v3 u3).map _
        cases getN C5 L5 v3 u3 <;> rfl
/-- a row of instructions of the call's own that grows -/
structure PG (V : World) (base : Nat) (v : Value) (MS : List Iv) (J : List In) : Prop where
  len : MS.length = J.length
  row : V.ownsRow base 49 5 v J.length (MS.flatMap Iv.cs)
  io : ∀ j (h : j < MS.length) (h' : j < J.length), IOw V base v MS[j] J[j]
theorem PG.nil (V : World) (base : Nat) : PG V base nilS [] [] := ⟨rfl, World.ownsRow_nil _ _ _ _, fun j h => by simp at h⟩
theorem PG.kept {V V' : World} {base : Nat} {v : Value} {MS : List Iv} {J : List In} (h : PG V base v MS J) (hk : ∀ b, base ≤ b → b < V.heap.size → V'.heap[b]? = V.heap[b]?) : PG V' base v MS J :=
  ⟨h.len, row_kept h.row (fun b e => hk b (h.row.lt b e).1 (h.row.lt b e).2), fun j hj hj' => (h.io j hj hj').kept (fun b e => hk b ((h.io j hj hj').rr.lt b e).1 ((h.io j hj hj').rr.lt b e).2)⟩
theorem rows_ap {w : World} {base base' n n' : Nat} {v v' : Value} {xs xs' : List Value} (h : w.ownsRow base 49 5 v n xs) (h' : w.ownsRow base' 51 2 v' n' xs') : ∀ b, v'.ownBlock = some b → v.ownBlock ≠ some b := by
  intro b hb
  rcases h'.2 with ⟨rfl, _⟩ | ⟨g, cap, cur, rfl, hg, hc, _⟩
  · cases hb
  · simp only [Value.ownBlock, Option.some.injEq] at hb
    subst hb
    exact own_ne h hc (by decide)
theorem PG.push {V V2 V3 : World} {base : Nat} {v v3 : Value} {MS : List Iv} {J : List In} {N : Iv} {I : In} (h : PG V base v MS J) (hV2 : Below V.heap.size V V2) (hf : Frm V2 V3 v v3) (ho : V3.ownsRow base 49 5 v3 (J.length + 1) (MS.flatMap Iv.cs ++ Iv.cs N)) (hI : IFr base V N I) : PG V3 base v3 (MS ++ [N]) (J ++ [I]) := by
  have hs := hV2.size
  have key : ∀ (z : Value) (n : Nat) (xs : List Value), V.ownsRow base 51 2 z n xs → V3.ownsRow base 51 2 z n xs := fun z n xs hz => row_kept hz (fun b e => (hf.block b (by have := (hz.lt b e).2; omega) (rows_ap h.row hz b e)).trans (hV2.block b (hz.lt b e).2))
  refine ⟨by simp [h.len], by rw [List.length_append, List.flatMap_append]; simpa using ho, fun j hj hj' => ?_⟩
  by_cases e : j < MS.length
  · rw [List.getElem_append_left e, List.getElem_append_left (by rw [← h.len]; exact e)]
    have a := h.io j e (by rw [← h.len]; exact e)
    have rr := key _ _ _ a.rr
    exact ⟨a.op, a.x, a.y, a.a, a.len, a.sm, rr, rows_ap ho rr⟩
  · have ej : j = MS.length := by simp at hj; omega
    subst ej
    have e1 : (MS ++ [N])[MS.length] = N := by simp
    have e2 : (J ++ [I])[MS.length]'hj' = I := by
      have : MS.length = J.length := h.len
      simp [this]
    rw [e1, e2]
    have rr := key _ _ _ hI.rr
    exact ⟨hI.op, hI.x, hI.y, hI.a, hI.len, by have := hI.sm; have := hI.len; omega, rr, rows_ap ho rr⟩
theorem PG.pi {w : World} {base n c : Nat} {a : Option Addr} {J : List In} {MS : List Iv} (h : PG w base (.slice a n c) MS J) (hn : n = J.length) : PI w w.heap.size a n J := by
  subst hn
  refine ⟨rfl, fun hp => ?_⟩
  obtain ⟨g, rfl⟩ : ∃ g, a = some ⟨g, 0, none⟩ := by
    rcases h.row.2 with ⟨e, h0⟩ | ⟨g, cap, cur, e, _⟩
    · omega
    · simp only [Value.slice.injEq] at e; exact ⟨g, e.1⟩
  refine ⟨g, 0, fun j => MS.getD j default, rfl, (h.row.lt g rfl).2, fun i hi => ?_⟩
  have hi' : i < MS.length := by rw [h.len]; exact hi
  have e : MS.getD i default = MS[i] := by simp [List.getD_eq_getElem?_getD, List.getElem?_eq_getElem hi']
  show I5 w g 0 i (MS.getD i default) ∧ IM w w.heap.size (MS.getD i default) J[i]
  rw [e]
  exact ⟨flat_at hi' rfl h.row h.len, (h.io i hi' hi).im⟩
end Go.Proofs.YteanndophopplaaDoor
