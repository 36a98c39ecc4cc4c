/- HELPERS: the document's reader of words: an operation; it is a reader. -/
import Derived.Test.YteanndophopplaaDoorJB
import Derived.Test.YteanndophopplaaDoorHB
import Derived.Deep.QuietTactic
import Derived.BigQuiet
/- HELPERS: the document's reader of words. -/
namespace Go.Proofs.YteanndophopplaaDoor
open Go.RowKit
set_option linter.unusedVariables false
set_option linter.unusedSimpArgs false
/-- words as the document takes them: what is no operation stays where it is -/
def wordD : Codec (List Nat) where
  num := fun n => [dec n]
  op := fun n => [opW n]
  get := wordC.get
  getop := fun l => match l with | [] => none | w :: r => if opOfW w = 0 then none else some (opOfW w, r)
  top := 999999999
  big := by omega
  get_num := wordC.get_num
  num_get := wordC.num_get
  get_op := fun n u h1 h7 => by
    have e := op_opW h1 h7
    simp [e]; omega
  op_get := fun l n u h h1 h7 => by
    cases l with
    | nil => simp at h
    | cons w r =>
      simp at h
      obtain ⟨_, h2, h3⟩ := h
      rw [opW_op h2 h1, h3]; rfl
theorem getNs_D : ∀ (n : Nat) (l : List (List Nat)), getNs wordD n l = getNs wordC n l := by
  intro n
  induction n with
  | zero => intro l; rfl
  | succ n ih =>
    intro l
    simp only [getNs]
    rw [show wordD.get l = wordC.get l from rfl]
    cases wordC.get l with
    | none => rfl
    | some p =>
      obtain ⟨x, l1⟩ := p
      simp only [ih l1]
theorem getD_D (l : List (List Nat)) : getD' wordD l = getD' wordC l := by
  unfold getD'
  cases l with
  | nil => rfl
  | cons w r =>
    rw [show wordD.getop (w :: r) = (if opOfW w = 0 then none else some (opOfW w, r)) from rfl, show wordC.getop (w :: r) = some (opOfW w, r) from rfl]
    by_cases h : opOfW w = 0
    · rw [if_pos h]
      simp only
      rw [if_pos (by omega)]
    · rw [if_neg h]
      simp only [getNs_D]
/-- the document's reader of words -/
structure DW (B rb : Nat) (w : World) (L : List ByteArray) (a : Option Addr) (c p : Nat) (bd : Bool) : Prop where
  box : w.heap[rb]? = some (.cells #[.slice a L.length c, .slice none 0 0, .int .i64 (p : Int), .bool bd] 56 (0, 0))
  bw : L = [] ∨ ∃ g o, a = some ⟨g, o, none⟩ ∧ g < B ∧ ∀ k (h : k < L.length), w.cell? ⟨g, o + k, none⟩ = some (.string L[k])
  low : B ≤ rb
  at' : p ≤ L.length
  sm : L.length ≤ 8388608
  sz : ∀ x ∈ L, x.size ≤ 8388608
theorem DW.kept {B rb : Nat} {w w' : World} {L : List ByteArray} {a : Option Addr} {c p : Nat} {bd : Bool} (h : DW B rb w L a c p bd) (h1 : w'.heap[rb]? = w.heap[rb]?) (h2 : ∀ b, b < B → w'.heap[b]? = w.heap[b]?) : DW B rb w' L a c p bd :=
  ⟨h1.trans h.box, h.bw.imp id (fun ⟨g, o, e, hg, hc⟩ => ⟨g, o, e, hg, fun k hk => (cell_eq (h2 g hg) _).trans (hc k hk)⟩), h.low, h.at', h.sm, h.sz⟩
theorem DW.setP {B rb : Nat} {w : World} {L : List ByteArray} {a : Option Addr} {c p : Nat} {bd : Bool} (h : DW B rb w L a c p bd) {q : Nat} (hq : q < L.length) : DW B rb (w.setCell ⟨rb, 2, none⟩ (.int .i64 ((q : Int) + 1))) L a c (q + 1) bd := by
  have hl := h.low
  refine ⟨?_, h.bw.imp id (fun ⟨g, o, e, hg, hc⟩ => ⟨g, o, e, hg, fun k hk => (cell_eq (Below.heap_setCell _ _ _ _ (show g ≠ rb by omega)) _).trans (hc k hk)⟩), h.low, hq, h.sm, h.sz⟩
  have := Joins.block_setCell (i := 2) h.box (.int .i64 ((q : Int) + 1))
  push_cast
  exact this
theorem DW.setB {B rb : Nat} {w : World} {L : List ByteArray} {a : Option Addr} {c p : Nat} {bd : Bool} (h : DW B rb w L a c p bd) (b : Bool) : DW B rb (w.setCell ⟨rb, 3, none⟩ (.bool b)) L a c p b := by
  have hl := h.low
  exact ⟨Joins.block_setCell h.box _, h.bw.imp id (fun ⟨g, o, e, hg, hc⟩ => ⟨g, o, e, hg, fun k hk => (cell_eq (Below.heap_setCell _ _ _ _ (show g ≠ rb by omega)) _).trans (hc k hk)⟩), h.low, h.at', h.sm, h.sz⟩
theorem DW.drewN {B rb : Nat} {w : World} {L : List ByteArray} {a : Option Addr} {c p : Nat} {bd : Bool} (h : DW B rb w L a c p bd) (n : Nat) : DW B rb (w.drewN n) L a c p bd := ⟨h.box, h.bw, h.low, h.at', h.sm, h.sz⟩
theorem DW.cell {B rb : Nat} {w : World} {L : List ByteArray} {a : Option Addr} {c p : Nat} {bd : Bool} (h : DW B rb w L a c p bd) (hp : p < L.length) : ∃ g o, a = some ⟨g, o, none⟩ ∧ g < B ∧ w.cell? ⟨g, o + p, none⟩ = some (.string L[p]) := by
  rcases h.bw with e | ⟨g, o, e, hg, hc⟩
  · subst e; simp at hp
  · exact ⟨g, o, e, hg, hc p hp⟩
theorem quiet_same2 {P : Program} {f : FuncId} {args : Array Value} {w : World} {k n : Nat} {v : Value} (h : Calls P f args (w.drewN (k + n)) fun e w' => e = .returned v ∧ w' = w.drewN (k + n)) : Calls P f args (w.drewN (k + n)) fun e w'' => e = .returned v ∧ ∃ m, w'' = w.drewN (k + m) :=
  h.mono fun _ _ ⟨he, hm⟩ => ⟨he, n, hm⟩
set_option maxRecDepth 100000 in
set_option maxHeartbeats 4000000 in
theorem next34w_bad {B rb : Nat} {w : World} {L : List ByteArray} {a : Option Addr} {c p : Nat} (h : DW B rb w L a c p true) : Calls Tryd.prog 34 #[pt rb, .bool true] w fun e w' => e = .returned (.int .i64 0) ∧ w' = w := by
  obtain ⟨c0, c1, c2, c3⟩ := four_cells h.box
  clear h
  go_enter Tryd.func34, Tryd.ntmps34
  go_wp2
  all_goals go_ret
  all_goals exact ⟨rfl, rfl⟩
set_option maxRecDepth 100000 in
set_option maxHeartbeats 4000000 in
theorem next34w_end {B rb : Nat} {w : World} {L : List ByteArray} {a : Option Addr} {c p : Nat} (h : DW B rb w L a c p false) (hp : L.length ≤ p) : Calls Tryd.prog 34 #[pt rb, .bool true] w fun e w' => e = .returned (.int .i64 0) ∧ Mo w w' rb ∧ DW B rb w' L a c p true := by
  obtain ⟨c0, c1, c2, c3⟩ := four_cells h.box
  have f3 := Joins.unfrozen_of_block h.box 3
  have b1 : decide ((p : Int) ≥ (L.length : Int)) = true := by simp; omega
  have b2 : (L.length : Int) ≤ (p : Int) := by omega
  have H := hid h
  clear h
  go_enter Tryd.func34, Tryd.ntmps34
  go_wp2
  go_quiet (fail)
  go_wp2
  all_goals go_ret
  all_goals exact ⟨rfl, (Mo.drewN _ _ _).trans (Mo.set _ _ _ _), (H.out.drewN _).setB true⟩
set_option maxRecDepth 100000 in
set_option maxHeartbeats 4000000 in
theorem next34w_ok {B rb : Nat} {w : World} {L : List ByteArray} {a : Option Addr} {c p : Nat} (h : DW B rb w L a c p false) (hp : p < L.length) : Calls Tryd.prog 34 #[pt rb, .bool true] w fun e w' => e = .returned (.int .i64 (max (numI (bs L[p])) 0)) ∧ Mo w w' rb ∧ DW B rb w' L a c (p + 1) (decide (numI (bs L[p]) < 0)) := by
  obtain ⟨c0, c1, c2, c3⟩ := four_cells h.box
  have f2 := Joins.unfrozen_of_block h.box 2
  have f3 := Joins.unfrozen_of_block h.box 3
  obtain ⟨g, o, rfl, hg, k0⟩ := h.cell hp
  have C27 := fun W => number27 L[p] W (h.sz _ (List.getElem_mem hp))
  obtain ⟨x, hx⟩ : ∃ x, x = L[p] := ⟨_, rfl⟩
  rw [← hx] at k0 C27 ⊢
  obtain ⟨v, hv⟩ : ∃ v, v = numI (bs x) := ⟨_, rfl⟩
  rw [← hv] at C27 ⊢
  have hsm := h.sm
  obtain ⟨N, hN⟩ : ∃ N, N = L.length := ⟨_, rfl⟩
  rw [← hN] at c0 hp hsm
  have b1 : decide ((p : Int) ≥ (N : Int)) = false := by simp; omega
  have b2 : ¬ (N : Int) ≤ (p : Int) := by omega
  have b3 : (p : Int) < (N : Int) := by omega
  have hgr : g < rb := by have := h.low; omega
  have H := hid h
  have HN := hid hN
  clear h hx hv hN
  go_enter Tryd.func34, Tryd.ntmps34
  go_wp2
  go_quiet (fail)
  go_wp2
  go_quiet (first | (go_at_call 27; with_reducible refine quiet_same2 (C27 _)) | fail)
  go_wp2
  all_goals go_ret
  all_goals exact ⟨rfl, ((Mo.drewN _ _ _).trans (Mo.set _ _ _ _)).trans (Mo.set _ _ _ _), ((H.out.drewN _).setP (by have := HN.out; omega)).setB _⟩
end Go.Proofs.YteanndophopplaaDoor
namespace Go.Proofs.YteanndophopplaaDoor
open Go.RowKit
set_option linter.unusedVariables false
set_option linter.unusedSimpArgs false
theorem word41 (i : Nat) (w : World) (h1 : 1 ≤ i) (h7 : i ≤ 7) : Calls Tryd.prog 41 #[.int .i64 (i : Int)] w fun e w' => e = .returned (.string (wS i)) ∧ w' = w := by
  obtain rfl | rfl | rfl | rfl | rfl | rfl | rfl : i = 1 ∨ i = 2 ∨ i = 3 ∨ i = 4 ∨ i = 5 ∨ i = 6 ∨ i = 7 := by omega
  all_goals
    go_enter Tryd.func41, Tryd.ntmps41
    go_wp2
    all_goals go_ret
    all_goals exact ⟨rfl, rfl⟩
set_option maxRecDepth 100000 in
set_option maxHeartbeats 4000000 in
theorem op44w_bad {B rb : Nat} {w : World} {L : List ByteArray} {a : Option Addr} {c p : Nat} (h : DW B rb w L a c p true) : Calls Tryd.prog 44 #[pt rb, .bool true] w fun e w' => e = .returned (.int .i64 0) ∧ w' = w := by
  obtain ⟨c0, c1, c2, c3⟩ := four_cells h.box
  clear h
  go_enter Tryd.func44, Tryd.ntmps44
  go_wp2
  all_goals go_ret
  all_goals exact ⟨rfl, rfl⟩
set_option maxRecDepth 100000 in
set_option maxHeartbeats 4000000 in
theorem op44w_end {B rb : Nat} {w : World} {L : List ByteArray} {a : Option Addr} {c p : Nat} (h : DW B rb w L a c p false) (hp : L.length ≤ p) : Calls Tryd.prog 44 #[pt rb, .bool true] w fun e w' => e = .returned (.int .i64 0) ∧ Mo w w' rb ∧ DW B rb w' L a c p false := by
  obtain ⟨c0, c1, c2, c3⟩ := four_cells h.box
  have b1 : decide ((p : Int) ≥ (L.length : Int)) = true := by simp; omega
  have b2 : (L.length : Int) ≤ (p : Int) := by omega
  have H := hid h
  clear h
  go_enter Tryd.func44, Tryd.ntmps44
  go_wp2
  go_quiet (fail)
  go_wp2
  all_goals go_ret
  all_goals exact ⟨rfl, Mo.drewN _ _ _, H.out.drewN _⟩
theorem opOf_is {w : List Nat} {n : Nat} (h : w = opW n) (h1 : 1 ≤ n) (h7 : n ≤ 7) : opOfW w = n := by rw [h, op_opW h1 h7]
theorem opOf_none {w : List Nat} (h : ∀ j, 1 ≤ j → j < 8 → w ≠ opW j) : opOfW w = 0 := by
  unfold opOfW
  rw [if_neg (h 1 (by omega) (by omega)), if_neg (h 2 (by omega) (by omega)), if_neg (h 3 (by omega) (by omega)), if_neg (h 4 (by omega) (by omega)), if_neg (h 5 (by omega) (by omega)), if_neg (h 6 (by omega) (by omega)), if_neg (h 7 (by omega) (by omega))]
set_option maxRecDepth 100000 in
set_option maxHeartbeats 8000000 in
theorem op44w_ok {B rb : Nat} {w : World} {L : List ByteArray} {a : Option Addr} {c p : Nat} (h : DW B rb w L a c p false) (hp : p < L.length) : Calls Tryd.prog 44 #[pt rb, .bool true] w fun e w' => e = .returned (.int .i64 ((opOfW (bs L[p]) : Nat) : Int)) ∧ Mo w w' rb ∧ ((opOfW (bs L[p]) = 0 ∧ DW B rb w' L a c p false) ∨ (opOfW (bs L[p]) ≠ 0 ∧ DW B rb w' L a c (p + 1) false)) := by
  obtain ⟨c0, c1, c2, c3⟩ := four_cells h.box
  obtain ⟨g, o, rfl, hg, k0⟩ := h.cell hp
  obtain ⟨x, hx⟩ : ∃ x, x = L[p] := ⟨_, rfl⟩
  rw [← hx] at k0 ⊢
  have hsm := h.sm
  have hrl := (Array.getElem?_eq_some_iff.1 h.box).1
  obtain ⟨N, hN⟩ : ∃ N, N = L.length := ⟨_, rfl⟩
  rw [← hN] at c0 hp hsm
  have b1 : decide ((p : Int) ≥ (N : Int)) = false := by simp; omega
  have b2 : ¬ (N : Int) ≤ (p : Int) := by omega
  have b3 : (p : Int) < (N : Int) := by omega
  have hgr : g < rb := by have := h.low; omega
  have H := hid h
  have HN := hid hN
  have HP := hid hp
  have HC0 := hid c0
  have HC2 := hid c2
  have HC3 := hid c3
  have HK0 := hid k0
  obtain ⟨r, hr⟩ : ∃ r, r = opOfW (bs x) := ⟨_, rfl⟩
  rw [← hr]
  have HR := hid hr
  clear h hx hN hr
  go_enter Tryd.func44, Tryd.ntmps44
  go_wp2
  go_quiet (fail)
  go_wp2_with fail
  rw [show decide (N ≤ p) = false by simp; have := HP.out; omega]
  clear c0 c1 c2 c3 k0
  go_loopw [5] (fun y wq => ∃ (i : Nat), y = .int .i64 (i : Int) ∧ 1 ≤ i ∧ i ≤ 8 ∧ Hid (∃ n, wq = w.drewN n) ∧ Hid (∀ j, 1 ≤ j → j < i → bs x ≠ opW j)) (fun y _ => 8 - (intOf y).toNat)
  case atStart => exact ⟨1, rfl, by omega, by omega, ⟨_, rfl⟩, fun j h1 h2 => by omega⟩
  case round =>
    obtain ⟨i, rfl, hi1, hi8, HWN, HJ⟩ := hrel
    obtain ⟨n, hn⟩ := HWN.out
    clear HWN
    subst hn
    by_cases h8 : i = 8
    · subst h8
      have HR0 : Hid (r = 0) := by show _ = _; rw [HR.out]; exact opOf_none HJ.out
      have e1 : decide (((8 : Nat) : Int) ≤ 7) = false := by simp
      go_wp2
      all_goals go_ret
      all_goals exact ⟨ret_int (by rw [HR0.out]; rfl), Mo.drewN _ _ _, .inl ⟨HR0.out, H.out.drewN _⟩⟩
    · have e1 : decide ((i : Int) ≤ 7) = true := by simp; omega
      have e2 : (i : Int) ≤ 7 := by omega
      have ad1 : IntKind.i64.wrap ((i : Int) + 1) = (i : Int) + 1 := by simp [IntKind.wrap, IntKind.bits, IntKind.signed]; omega
      have ad2 : IntKind.i64.wrap ((p : Int) + 1) = (p : Int) + 1 := by simp [IntKind.wrap, IntKind.bits, IntKind.signed]; omega
      have C41 := fun W => word41 i W hi1 (by omega)
      have c0 := HC0.out
      have c2 := HC2.out
      have c3 := HC3.out
      have k0 := HK0.out
      have f2 := Joins.unfrozen_of_block H.out.box 2
      cases hq : ((wS i).toList == x.toList) with
      | true =>
        have he := (bs_eq (wS i) x).1 hq
        have HRI : Hid (r = i) := by show _ = _; rw [HR.out]; exact opOf_is (he.symm.trans (wS_bs i hi1 (by omega))) hi1 (by omega)
        clear he
        go_wp2_with (go_at_call 41; (with_reducible refine (C41 _).mono ?_); rintro e w2 ⟨rfl, hw⟩; obtain rfl := hw.symm)
        go_quiet (fail)
        go_wp2
        all_goals go_ret
        all_goals exact ⟨ret_int (by rw [HRI.out]), (Mo.drewN _ _ _).trans (Mo.set _ _ _ _), .inr ⟨by rw [HRI.out]; omega, (H.out.drewN _).setP (by have := HN.out; have := HP.out; omega)⟩⟩
      | false =>
        have HN2 : Hid (∀ j, 1 ≤ j → j < i + 1 → bs x ≠ opW j) := fun j h1 h2 => by
          by_cases e : j = i
          · subst e
            intro e2
            rw [← wS_bs j h1 (by omega)] at e2
            rw [(bs_eq (wS j) x).2 e2.symm] at hq; cases hq
          · exact HJ.out j h1 (by omega)
        go_wp2_with (go_at_call 41; (with_reducible refine (C41 _).mono ?_); rintro e w2 ⟨rfl, hw⟩; obtain rfl := hw.symm)
        go_quiet (fail)
        go_wp2
        exact ⟨⟨i + 1, by push_cast; rfl, by omega, by omega, hid ⟨_, rfl⟩, HN2.out⟩, by simp [intOf]; omega⟩
end Go.Proofs.YteanndophopplaaDoor
