/- HELPERS: Ra, Rb, Rc, Rf, Shelf, Mx, Decode, Cut, Cls, Parts, Merge, SortB, Gather, Norm, Right, Union, Negate. -/
import Derived.Test.YtenanfkmmkmolaaGreatDoorProg
import Derived.WalkKit
import Derived.ProofKit
import Derived.BigQuiet
import Derived.WalkSmall
import Derived.WalkLawsBesides
import Derived.Deep.QuietTactic
import Derived.Deep.RegionWith
import Derived.Lib.SmallJoins
import Derived.Lib.IndexAny
import Derived.Lib.Bytealg
import Derived.Laws.Externs
import Derived.Shelf.SlSortCmp.WholeK
import Derived.Shelf.SlicesG.Cmp
import Derived.Shelf.SlGeneric
import Derived.Ground.SlsfProg
import Derived.Ground.SlgcProg
import Derived.Laws.BitsLemmas
import Derived.Lib.OwnBridge
/- HELPERS: the reader's smallest calls: what is the next byte, and taking it. -/
namespace Go.Proofs.YtenanfkmmkmolaaGreatDoor
open Go.RowKit
set_option linter.unusedVariables false
set_option linter.unusedSimpArgs false
theorem ret_bool {a b : Bool} (h : a = b) : Ending.returned (.bool a) = .returned (.bool b) := by rw [h]
theorem ret_int {a b : Int} (h : a = b) : Ending.returned (.int .i64 a) = .returned (.int .i64 b) := by rw [h]
/-- the next byte; none: -1 -/
def nx (t : List Int) (i : Nat) : Int := t.getD i (-1)
/-- the text of a reader -/
def TextAt (w : World) (g : Nat) (t : List Int) (tv : Value) : Prop :=
  ∃ ad cap, tv = .slice ad t.length cap ∧ t.length ≤ cap ∧ cap ≤ 9223372036854775807 ∧ ∀ j, j < t.length → ∃ b, ad = some ⟨b, 0, none⟩ ∧ b ≠ g ∧ w.cell? ⟨b, j, none⟩ = some (.int .u8 (t.getD j 0))
/-- a reader, seen from its block -/
structure Rd (w : World) (g : Nat) (t : List Int) (i : Nat) (tv ov gv mv xv : Value) : Prop where
  blk : w.heap[g]? = some (.cells #[tv, .int .i64 (i : Int), ov, gv, mv, xv] 76 (0, 0))
  txt : TextAt w g t tv
  le : i ≤ t.length
  bd : t.length ≤ 65536
  byt : ∀ x ∈ t, 0 ≤ x ∧ x < 256
theorem nx_end {t : List Int} {i : Nat} (h : t.length ≤ i) : nx t i = -1 := by simp [nx, List.getD, List.getElem?_eq_none h]
theorem nx_in {t : List Int} {i : Nat} (h : i < t.length) : nx t i = t[i] := by simp [nx, List.getD, h]
theorem nx_byte {t : List Int} {i : Nat} (hb : ∀ x ∈ t, 0 ≤ x ∧ x < 256) (h : i < t.length) : 0 ≤ nx t i ∧ nx t i < 256 := by rw [nx_in h]; exact hb _ (List.getElem_mem h)
theorem nx_lt {t : List Int} {i : Nat} (h : 0 ≤ nx t i) : i < t.length := by
  rcases Nat.lt_or_ge i t.length with h1 | h1
  · exact h1
  · rw [nx_end h1] at h; omega
theorem getD_nx {t : List Int} {i : Nat} (h : i < t.length) : t.getD i 0 = nx t i := by rw [nx_in h]; simp [List.getD, h]
/-- the reader moves on -/
abbrev mv1 (w : World) (g : Nat) (i : Nat) : World := w.setCell ⟨g, 1, none⟩ (.int .i64 (i : Int))
theorem Rd.drewN {w : World} {g : Nat} {t : List Int} {i : Nat} {tv ov gv mv xv : Value} (h : Rd w g t i tv ov gv mv xv) (q : Nat) : Rd (w.drewN q) g t i tv ov gv mv xv := ⟨h.blk, h.txt, h.le, h.bd, h.byt⟩
theorem Rd.moved {w : World} {g : Nat} {t : List Int} {i : Nat} {tv ov gv mv xv : Value} (h : Rd w g t i tv ov gv mv xv) (k : Nat) (hk : k ≤ t.length) : Rd (mv1 w g k) g t k tv ov gv mv xv := by
  refine ⟨Joins.block_setCell (i := 1) h.blk _, ?_, hk, h.bd, h.byt⟩
  obtain ⟨ad, cap, h1, h2, h3, h4⟩ := h.txt
  refine ⟨ad, cap, h1, h2, h3, fun j hj => ?_⟩
  obtain ⟨b, e1, e2, e3⟩ := h4 j hj
  exact ⟨b, e1, e2, by rw [World.cell?_setCell_other _ _ _ _ (by intro h; injection h with h _; exact e2 h.symm)]; exact e3⟩
set_option maxHeartbeats 1000000 in
theorem ended40 (g : Nat) (t : List Int) (i : Nat) (tv ov gv mv xv : Value) (w : World) (h : Hid (Rd w g t i tv ov gv mv xv)) :
    Calls Tryz.prog 40 #[.pointer (some ⟨g, 0, none⟩)] w fun e w' => e = .returned (.bool (decide (i = t.length))) ∧ ∃ q, w' = w.drewN q := by
  obtain ⟨ad, cap, rfl, h2, h3, h4⟩ := h.out.txt
  have c0 := Joins.cell_of_block h.out.blk 0
  have c1 := Joins.cell_of_block h.out.blk 1
  simp at c0 c1
  clear h4 h
  go_enter Tryz.func40, Tryz.ntmps40
  go_wp2_with fail
  go_quiet (fail)
  go_wp2
  go_ret
  exact ⟨ret_bool (by rw [Bool.eq_iff_iff]; simp; omega), _, rfl⟩
set_option maxHeartbeats 1000000 in
theorem giveUp47 (g : Nat) (t : List Int) (i : Nat) (tv ov gv mv xv : Value) (w : World) (h : Hid (Rd w g t i tv ov gv mv xv)) :
    Calls Tryz.prog 47 #[.pointer (some ⟨g, 0, none⟩)] w fun e w' => e = .panicked [{ v := .iface 29 (.agg #[.int .i64 40, .int .i64 (i : Int)]), recovered := false }] ∧ w' = w := by
  have c1 := Joins.cell_of_block h.out.blk 1
  simp at c1
  clear h
  go_enter Tryz.func47, Tryz.ntmps47
  go_wp2
  exact ⟨rfl, rfl, rfl⟩
set_option maxHeartbeats 1000000 in
theorem sees83 (g : Nat) (t : List Int) (i : Nat) (tv ov gv mv xv : Value) (a b : Int) (w : World) (h : Hid (Rd w g t i tv ov gv mv xv)) (ha : 0 ≤ a) :
    Calls Tryz.prog 83 #[.pointer (some ⟨g, 0, none⟩), .int .u8 a, .int .u8 b] w fun e w' => e = .returned (.bool (decide (a ≤ nx t i ∧ nx t i ≤ b))) ∧ ∃ q, w' = w.drewN q := by
  have hE : ∀ q : Nat, Calls Tryz.prog 40 #[.pointer (some ⟨g, 0, none⟩)] (w.drewN q) fun e w' => e = .returned (.bool (decide (i = t.length))) ∧ ∃ m, w' = (w.drewN q).drewN m := fun q => ended40 g t i tv ov gv mv xv _ (h.out.drewN q)
  have hle := h.out.le
  have hbd := h.out.bd
  have hby := h.out.byt
  obtain ⟨ad, cap, rfl, h2, h3, h4⟩ := h.out.txt
  have c0 := Joins.cell_of_block h.out.blk 0
  have c1 := Joins.cell_of_block h.out.blk 1
  simp at c0 c1
  by_cases hi : i < t.length
  · obtain ⟨tb, rfl, e2, e3⟩ := h4 i hi
    rw [getD_nx hi] at e3
    rw [show decide (i = t.length) = false by simp; omega] at hE
    have hx := nx_byte hby hi
    generalize nx t i = x at e3 hx
    generalize t.length = n at *
    clear h4 h hby
    by_cases hax : a ≤ x
    · have ha2 : decide (a ≤ x) = true := by simpa using hax
      by_cases hbx : x ≤ b
      · go_enter Tryz.func83, Tryz.ntmps83
        go_wp2_with fail
        go_quiet (first | (go_at_call 40; exact Calls.quiet_of (hE _)) | fail)
        go_wp2
        go_ret
        exact ⟨ret_bool (by simp; omega), _, rfl⟩
      · go_enter Tryz.func83, Tryz.ntmps83
        go_wp2_with fail
        go_quiet (first | (go_at_call 40; exact Calls.quiet_of (hE _)) | fail)
        go_wp2
        go_ret
        exact ⟨ret_bool (by simp; omega), _, rfl⟩
    · have ha2 : decide (a ≤ x) = false := by simpa using hax
      go_enter Tryz.func83, Tryz.ntmps83
      go_wp2_with fail
      go_quiet (first | (go_at_call 40; exact Calls.quiet_of (hE _)) | fail)
      go_wp2
      go_ret
      exact ⟨ret_bool (by simp; omega), _, rfl⟩
  · rw [nx_end (by omega)]
    rw [show decide (i = t.length) = true by simp; omega] at hE
    clear h4 h hby
    go_enter Tryz.func83, Tryz.ntmps83
    go_wp2_with fail
    go_quiet (first | (go_at_call 40; exact Calls.quiet_of (hE _)) | fail)
    go_wp2
    go_ret
    exact ⟨ret_bool (by simp; omega), _, rfl⟩
end Go.Proofs.YtenanfkmmkmolaaGreatDoor
/- HELPERS: the reader takes a byte. -/
namespace Go.Proofs.YtenanfkmmkmolaaGreatDoor
open Go.RowKit
set_option linter.unusedVariables false
set_option linter.unusedSimpArgs false
/-- the panic by which a reader gives up at a place -/
abbrev Gave (k : Nat) : Ending := .panicked [{ v := .iface 29 (.agg #[.int .i64 40, .int .i64 (k : Int)]), recovered := false }]
theorem mv_draw (w : World) (g i q r : Nat) : ((w.drewN q).setCell ⟨g, 1, none⟩ (.int .i64 ((i : Int) + 1))).drewN r = (mv1 w g (i + 1)).drewN (q + r) := by
  rw [← World.drewN_drewN]; rfl
theorem mv_draw0 (w : World) (g i q : Nat) : (w.drewN q).setCell ⟨g, 1, none⟩ (.int .i64 ((i : Int) + 1)) = (mv1 w g (i + 1)).drewN q := rfl
set_option maxHeartbeats 1000000 in
theorem take85 (g : Nat) (t : List Int) (i : Nat) (tv ov gv mv xv : Value) (a b : Int) (w : World) (h : Hid (Rd w g t i tv ov gv mv xv)) (ha : 0 ≤ a) (hx : a ≤ nx t i ∧ nx t i ≤ b) :
    Calls Tryz.prog 85 #[.pointer (some ⟨g, 0, none⟩), .int .u8 a, .int .u8 b] w fun e w' => e = .returned (.int .u8 (nx t i)) ∧ ∃ q, w' = (mv1 w g (i + 1)).drewN q := by
  have hS := sees83 g t i tv ov gv mv xv a b w h ha
  rw [decide_eq_true hx] at hS
  have hi : i < t.length := nx_lt (by omega)
  have hbd := h.out.bd
  obtain ⟨ad, cap, rfl, h2, h3, h4⟩ := h.out.txt
  have c0 := Joins.cell_of_block h.out.blk 0
  have c1 := Joins.cell_of_block h.out.blk 1
  have f1 := Joins.unfrozen_of_block h.out.blk 1
  obtain ⟨tb, rfl, e2, e3⟩ := h4 i hi
  rw [getD_nx hi] at e3
  simp at c0 c1
  generalize nx t i = x at *
  generalize t.length = n at *
  have hgt : ¬ g = tb := fun h => e2 h.symm
  have hn1 : IntKind.i64.wrap ((i : Int) + 1 - 1) = i := by simp [IntKind.wrap, IntKind.bits, IntKind.signed]; omega
  clear h4 h
  go_enter Tryz.func85, Tryz.ntmps85
  go_wp2_with (go_at_call 83; refine hS.mono ?_; rintro e w' ⟨rfl, q, rfl⟩)
  go_quiet (fail)
  go_wp2
  go_ret
  exact ⟨rfl, _, mv_draw _ _ _ _ _⟩
set_option maxHeartbeats 1000000 in
theorem take85_no (g : Nat) (t : List Int) (i : Nat) (tv ov gv mv xv : Value) (a b : Int) (w : World) (h : Hid (Rd w g t i tv ov gv mv xv)) (ha : 0 ≤ a) (hx : ¬ (a ≤ nx t i ∧ nx t i ≤ b)) :
    Calls Tryz.prog 85 #[.pointer (some ⟨g, 0, none⟩), .int .u8 a, .int .u8 b] w fun e w' => e = Gave i ∧ ∃ q, w' = w.drewN q := by
  have hS := sees83 g t i tv ov gv mv xv a b w h ha
  rw [decide_eq_false hx] at hS
  have hG := fun q => giveUp47 g t i tv ov gv mv xv (w.drewN q) (h.out.drewN q)
  clear h
  go_enter Tryz.func85, Tryz.ntmps85
  go_wp2_with (first | (go_at_call 83; refine hS.mono ?_; rintro e w' ⟨rfl, q, rfl⟩) | (go_at_call 47; refine (hG _).mono ?_; rintro e w' ⟨rfl, rfl⟩))
  exact ⟨rfl, rfl, _, rfl⟩
set_option maxHeartbeats 1000000 in
theorem must63 (g : Nat) (t : List Int) (i : Nat) (tv ov gv mv xv : Value) (c : Int) (w : World) (h : Hid (Rd w g t i tv ov gv mv xv)) (ha : 0 ≤ c) (hx : nx t i = c) :
    Calls Tryz.prog 63 #[.pointer (some ⟨g, 0, none⟩), .int .u8 c] w fun e w' => e = .returned (.tuple #[]) ∧ ∃ q, w' = (mv1 w g (i + 1)).drewN q := by
  have hT := take85 g t i tv ov gv mv xv c c w h ha (by omega)
  clear h
  go_enter Tryz.func63, Tryz.ntmps63
  go_wp2_with (go_at_call 85; refine hT.mono ?_; rintro e w' ⟨rfl, q, rfl⟩)
  all_goals go_end0
  exact ⟨rfl, _, rfl⟩
set_option maxHeartbeats 1000000 in
theorem must63_no (g : Nat) (t : List Int) (i : Nat) (tv ov gv mv xv : Value) (c : Int) (w : World) (h : Hid (Rd w g t i tv ov gv mv xv)) (ha : 0 ≤ c) (hx : ¬ nx t i = c) :
    Calls Tryz.prog 63 #[.pointer (some ⟨g, 0, none⟩), .int .u8 c] w fun e w' => e = Gave i ∧ ∃ q, w' = w.drewN q := by
  have hT := take85_no g t i tv ov gv mv xv c c w h ha (by omega)
  clear h
  go_enter Tryz.func63, Tryz.ntmps63
  go_wp2_with (go_at_call 85; refine hT.mono ?_; rintro e w' ⟨rfl, q, rfl⟩)
  exact ⟨rfl, rfl, _, rfl⟩
set_option maxHeartbeats 1000000 in
theorem took60 (g : Nat) (t : List Int) (i : Nat) (tv ov gv mv xv : Value) (c : Int) (w : World) (h : Hid (Rd w g t i tv ov gv mv xv)) (ha : 0 ≤ c) (hx : nx t i = c) :
    Calls Tryz.prog 60 #[.pointer (some ⟨g, 0, none⟩), .int .u8 c] w fun e w' => e = .returned (.bool true) ∧ ∃ q, w' = (mv1 w g (i + 1)).drewN q := by
  have hS := sees83 g t i tv ov gv mv xv c c w h ha
  rw [decide_eq_true (by omega)] at hS
  have hi : i < t.length := nx_lt (by omega)
  have hbd := h.out.bd
  have c1 := Joins.cell_of_block h.out.blk 1
  have f1 := Joins.unfrozen_of_block h.out.blk 1
  simp at c1
  clear h
  go_enter Tryz.func60, Tryz.ntmps60
  go_wp2_with (go_at_call 83; refine hS.mono ?_; rintro e w' ⟨rfl, q, rfl⟩)
  go_ret
  exact ⟨rfl, _, mv_draw0 _ _ _ _⟩
set_option maxHeartbeats 1000000 in
theorem took60_no (g : Nat) (t : List Int) (i : Nat) (tv ov gv mv xv : Value) (c : Int) (w : World) (h : Hid (Rd w g t i tv ov gv mv xv)) (ha : 0 ≤ c) (hx : ¬ nx t i = c) :
    Calls Tryz.prog 60 #[.pointer (some ⟨g, 0, none⟩), .int .u8 c] w fun e w' => e = .returned (.bool false) ∧ ∃ q, w' = w.drewN q := by
  have hS := sees83 g t i tv ov gv mv xv c c w h ha
  rw [decide_eq_false (by omega)] at hS
  clear h
  go_enter Tryz.func60, Tryz.ntmps60
  go_wp2_with (go_at_call 83; refine hS.mono ?_; rintro e w' ⟨rfl, q, rfl⟩)
  go_ret
  exact ⟨rfl, _, rfl⟩
end Go.Proofs.YtenanfkmmkmolaaGreatDoor
/- HELPERS: the reader's looks at the next byte: a word's byte, one of some, the byte behind a backslash. -/
namespace Go.Proofs.YtenanfkmmkmolaaGreatDoor
open Go.RowKit
set_option linter.unusedVariables false
set_option linter.unusedSimpArgs false
def domW (r : Int) : Bool := decide (0 ≤ r ∧ r ≤ 1114111 ∧ ¬ (55296 ≤ r ∧ r ≤ 57343))
theorem dom111 (r : Int) (w : World) (hr : 0 ≤ r ∧ r < 256) : Calls Tryz.prog 111 #[.int .i64 r] w fun e w' => e = .returned (.bool true) ∧ w' = w := by
  go_enter Tryz.func111, Tryz.ntmps111
  go_wp2
  all_goals go_ret
  all_goals exact ⟨ret_bool (by simp; try omega), rfl⟩
def wordB (r : Int) : Bool := decide (97 ≤ r ∧ r ≤ 122 ∨ 65 ≤ r ∧ r ≤ 90 ∨ 48 ≤ r ∧ r ≤ 57 ∨ r = 95)
set_option maxHeartbeats 1000000 in
theorem word103 (r : Int) (w : World) (hr : 0 ≤ r ∧ r < 256) : Calls Tryz.prog 103 #[.int .i64 r] w fun e w' => e = .returned (.bool (wordB r)) ∧ w' = w := by
  have hd := dom111 r w hr
  have hw : IntKind.i32.wrap r = r := by simp [IntKind.wrap, IntKind.bits, IntKind.signed]; omega
  obtain ⟨h0, h1⟩ := hr
  go_enter Tryz.func103, Tryz.ntmps103
  go_wp2_with (go_at_call 111; refine hd.mono ?_; rintro e w' ⟨rfl, rfl⟩)
  all_goals go_ret
  all_goals exact ⟨ret_bool (by rw [Bool.eq_iff_iff]; simp [wordB]; omega), rfl⟩
set_option maxHeartbeats 1000000 in
theorem seesWord84 (g : Nat) (t : List Int) (i : Nat) (tv ov gv mv xv : Value) (w : World) (h : Hid (Rd w g t i tv ov gv mv xv)) :
    Calls Tryz.prog 84 #[.pointer (some ⟨g, 0, none⟩)] w fun e w' => e = .returned (.bool (wordB (nx t i))) ∧ ∃ q, w' = w.drewN q := by
  have hE : ∀ q : Nat, Calls Tryz.prog 40 #[.pointer (some ⟨g, 0, none⟩)] (w.drewN q) fun e w' => e = .returned (.bool (decide (i = t.length))) ∧ ∃ m, w' = (w.drewN q).drewN m := fun q => ended40 g t i tv ov gv mv xv _ (h.out.drewN q)
  have hle := h.out.le
  have hbd := h.out.bd
  have hby := h.out.byt
  obtain ⟨ad, cap, rfl, h2, h3, h4⟩ := h.out.txt
  have c0 := Joins.cell_of_block h.out.blk 0
  have c1 := Joins.cell_of_block h.out.blk 1
  simp at c0 c1
  by_cases hi : i < t.length
  · obtain ⟨tb, rfl, e2, e3⟩ := h4 i hi
    rw [getD_nx hi] at e3
    rw [show decide (i = t.length) = false by simp; omega] at hE
    have hx := nx_byte hby hi
    generalize nx t i = x at e3 hx
    have hW : ∀ q : Nat, Calls Tryz.prog 103 #[.int .i64 x] (w.drewN q) fun e w' => e = .returned (.bool (wordB x)) ∧ w' = w.drewN q := fun q => word103 x _ hx
    have hw : IntKind.i64.wrap x = x := by simp [IntKind.wrap, IntKind.bits, IntKind.signed]; omega
    generalize t.length = n at *
    clear h4 h hby
    go_enter Tryz.func84, Tryz.ntmps84
    go_wp2_with fail
    go_quiet (first | (go_at_call 40; exact Calls.quiet_of (hE _)) | (go_at_call 103; exact Calls.quiet_of_same (hW _)) | fail)
    go_wp2
    go_ret
    exact ⟨rfl, _, rfl⟩
  · rw [nx_end (by omega)]
    rw [show decide (i = t.length) = true by simp; omega] at hE
    clear h4 h hby
    go_enter Tryz.func84, Tryz.ntmps84
    go_wp2_with fail
    go_quiet (first | (go_at_call 40; exact Calls.quiet_of (hE _)) | fail)
    go_wp2
    go_ret
    exact ⟨rfl, _, rfl⟩
def oneOf (s : ByteArray) (x : Int) : Bool := decide (0 ≤ x) && s.data.toList.contains x.toNat.toUInt8
set_option maxHeartbeats 1000000 in
theorem index110 (s : ByteArray) (x : Int) (w : World) : Calls Tryz.prog 110 #[.string s, .int .u8 x] w fun e w' => e = .returned (.int .i64 (Lib.indexByte s.data.toList x.toNat.toUInt8)) ∧ w' = w := by
  have h128 := @run_callFunc_extern Tryz.prog 128 _ Extern.BytealgIndexByte.indexByte Tryz.func128 (by kernel_rfl) (by kernel_rfl) (by kernel_rfl) (by kernel_rfl)
  have hx := fun w => Lib.run_indexByteString (P := Tryz.prog) s x w
  go_enter Tryz.func110, Tryz.ntmps110
  go_wp2
  all_goals go_ret
  all_goals exact ⟨rfl, rfl⟩
set_option maxHeartbeats 1000000 in
theorem seesOneOf96 (g : Nat) (t : List Int) (i : Nat) (tv ov gv mv xv : Value) (s : ByteArray) (w : World) (h : Hid (Rd w g t i tv ov gv mv xv)) :
    Calls Tryz.prog 96 #[.pointer (some ⟨g, 0, none⟩), .string s] w fun e w' => e = .returned (.bool (oneOf s (nx t i))) ∧ ∃ q, w' = w.drewN q := by
  have hE : ∀ q : Nat, Calls Tryz.prog 40 #[.pointer (some ⟨g, 0, none⟩)] (w.drewN q) fun e w' => e = .returned (.bool (decide (i = t.length))) ∧ ∃ m, w' = (w.drewN q).drewN m := fun q => ended40 g t i tv ov gv mv xv _ (h.out.drewN q)
  have hle := h.out.le
  have hbd := h.out.bd
  have hby := h.out.byt
  obtain ⟨ad, cap, rfl, h2, h3, h4⟩ := h.out.txt
  have c0 := Joins.cell_of_block h.out.blk 0
  have c1 := Joins.cell_of_block h.out.blk 1
  simp at c0 c1
  by_cases hi : i < t.length
  · obtain ⟨tb, rfl, e2, e3⟩ := h4 i hi
    rw [getD_nx hi] at e3
    rw [show decide (i = t.length) = false by simp; omega] at hE
    have hx := nx_byte hby hi
    generalize nx t i = x at e3 hx
    have hC := Lib.contains_iff_indexByte s.data.toList x.toNat.toUInt8
    have hW : ∀ q : Nat, Calls Tryz.prog 110 #[.string s, .int .u8 x] (w.drewN q) fun e w' => e = .returned (.int .i64 (Lib.indexByte s.data.toList x.toNat.toUInt8)) ∧ w' = w.drewN q := fun q => index110 s x _
    have hoo : oneOf s x = decide (0 ≤ Lib.indexByte s.data.toList x.toNat.toUInt8) := by rw [oneOf, decide_eq_true hx.1, Bool.true_and, hC]
    rw [hoo]
    generalize Lib.indexByte s.data.toList x.toNat.toUInt8 = y at hW
    generalize t.length = n at *
    clear h4 h hby hoo hC
    go_enter Tryz.func96, Tryz.ntmps96
    go_wp2_with fail
    go_quiet (first | (go_at_call 40; exact Calls.quiet_of (hE _)) | (go_at_call 110; exact Calls.quiet_of_same (hW _)) | fail)
    go_wp2
    go_ret
    exact ⟨ret_bool (by simp), _, rfl⟩
  · rw [nx_end (by omega)]
    rw [show decide (i = t.length) = true by simp; omega] at hE
    clear h4 h hby
    go_enter Tryz.func96, Tryz.ntmps96
    go_wp2_with fail
    go_quiet (first | (go_at_call 40; exact Calls.quiet_of (hE _)) | fail)
    go_wp2
    go_ret
    exact ⟨rfl, _, rfl⟩
set_option maxHeartbeats 1000000 in
theorem escaped91_no (g : Nat) (t : List Int) (i : Nat) (tv ov gv mv xv : Value) (w : World) (h : Hid (Rd w g t i tv ov gv mv xv)) (hx : ¬ nx t i = 92) :
    Calls Tryz.prog 91 #[.pointer (some ⟨g, 0, none⟩)] w fun e w' => e = .returned (.int .u8 0) ∧ ∃ q, w' = w.drewN q := by
  have hS : ∀ q : Nat, Calls Tryz.prog 83 #[.pointer (some ⟨g, 0, none⟩), .int .u8 92, .int .u8 92] (w.drewN q) fun e w' => e = .returned (.bool false) ∧ ∃ m, w' = (w.drewN q).drewN m := fun q => by
    have := sees83 g t i tv ov gv mv xv 92 92 (w.drewN q) (h.out.drewN q) (by decide)
    rw [decide_eq_false (by omega)] at this
    exact this
  clear h
  go_enter Tryz.func91, Tryz.ntmps91
  go_wp2_with fail
  go_quiet (first | (go_at_call 83; exact Calls.quiet_of (hS _)) | fail)
  go_wp2
  go_ret
  exact ⟨rfl, _, rfl⟩
set_option maxHeartbeats 1000000 in
theorem escaped91 (g : Nat) (t : List Int) (i : Nat) (tv ov gv mv xv : Value) (w : World) (h : Hid (Rd w g t i tv ov gv mv xv)) (hx : nx t i = 92) :
    Calls Tryz.prog 91 #[.pointer (some ⟨g, 0, none⟩)] w fun e w' => e = .returned (.int .u8 (t.getD (i + 1) 0)) ∧ ∃ q, w' = w.drewN q := by
  have hS : ∀ q : Nat, Calls Tryz.prog 83 #[.pointer (some ⟨g, 0, none⟩), .int .u8 92, .int .u8 92] (w.drewN q) fun e w' => e = .returned (.bool true) ∧ ∃ m, w' = (w.drewN q).drewN m := fun q => by
    have := sees83 g t i tv ov gv mv xv 92 92 (w.drewN q) (h.out.drewN q) (by decide)
    rw [decide_eq_true (by omega)] at this
    exact this
  have hi : i < t.length := nx_lt (by omega)
  have hbd := h.out.bd
  obtain ⟨ad, cap, rfl, h2, h3, h4⟩ := h.out.txt
  have c0 := Joins.cell_of_block h.out.blk 0
  have c1 := Joins.cell_of_block h.out.blk 1
  simp at c0 c1
  by_cases hi1 : i + 1 = t.length
  · have hq : ((i : Int) + 1 == (t.length : Int)) = true := by simp; omega
    rw [show t.getD (i + 1) 0 = 0 by simp [List.getD, List.getElem?_eq_none (Nat.le_of_eq hi1.symm)]]
    generalize t.length = n at *
    clear h4 h
    go_enter Tryz.func91, Tryz.ntmps91
    go_wp2_with fail
    go_quiet (first | (go_at_call 83; exact Calls.quiet_of (hS _)) | fail)
    go_wp2
    go_ret
    exact ⟨rfl, _, rfl⟩
  · obtain ⟨tb, rfl, e2, e3⟩ := h4 (i + 1) (by omega)
    have hq : ((i : Int) + 1 == (t.length : Int)) = false := by simp; omega
    generalize t.getD (i + 1) 0 = x at *
    generalize t.length = n at *
    have hn1 : IntKind.i64.wrap ((i : Int) + 1) = i + 1 := by simp [IntKind.wrap, IntKind.bits, IntKind.signed]; omega
    have hn2 : ((i : Int) + 1).toNat = i + 1 := by omega
    have hn3 : (0 : Int) ≤ i + 1 := by omega
    have hn4 : (i : Int) + 1 < n := by omega
    clear h4 h
    go_enter Tryz.func91, Tryz.ntmps91
    go_wp2_with fail
    go_quiet (first | (go_at_call 83; exact Calls.quiet_of (hS _)) | fail)
    go_wp2_with fail
    go_quiet (fail)
    go_wp2
    go_ret
    exact ⟨rfl, _, World.drewN_drewN _ _ _⟩
end Go.Proofs.YtenanfkmmkmolaaGreatDoor
/- HELPERS: digits, numbers, how a rune begins. -/
namespace Go.Proofs.YtenanfkmmkmolaaGreatDoor
open Go.RowKit
set_option linter.unusedVariables false
set_option linter.unusedSimpArgs false
/-- nothing has turned but the reader's place -/
def Go1 (w w' : World) (g k : Nat) : Prop := ∃ q, w' = (mv1 w g k).drewN q
theorem mv_mv (w : World) (g a b : Nat) : mv1 (mv1 w g a) g b = mv1 w g b := by
  have e : (mv1 (mv1 w g a) g b).heap = (mv1 w g b).heap := by
    apply Array.ext_getElem?
    intro k
    by_cases hk : k = g
    · subst hk
      unfold mv1 World.setCell
      simp only [Array.getElem?_modify]
      generalize w.heap[k]? = o
      rcases o with _ | o
      · simp
      · cases o <;> simp
    · rw [Below.heap_setCell _ _ _ _ hk, Below.heap_setCell _ _ _ _ hk, Below.heap_setCell _ _ _ _ hk]
  have e2 : mv1 (mv1 w g a) g b = { mv1 w g b with heap := (mv1 (mv1 w g a) g b).heap } := rfl
  rw [e2, e]
theorem Go1.trans {w w1 w2 : World} {g a b : Nat} (h1 : Go1 w w1 g a) (h2 : Go1 w1 w2 g b) : Go1 w w2 g b := by
  obtain ⟨q, rfl⟩ := h1
  obtain ⟨r, rfl⟩ := h2
  refine ⟨q + r, ?_⟩
  rw [← World.drewN_drewN, ← mv_mv w g a b]
  rfl
theorem mv_stay {w : World} {g : Nat} {t : List Int} {i : Nat} {tv ov gv mv xv : Value} (h : Rd w g t i tv ov gv mv xv) : mv1 w g i = w := by
  have e : (mv1 w g i).heap = w.heap := by
    apply Array.ext_getElem?
    intro k
    by_cases hk : k = g
    · subst hk
      rw [Joins.block_setCell (i := 1) h.blk, h.blk]
      rfl
    · exact Below.heap_setCell _ _ _ _ hk
  have : mv1 w g i = { w with heap := (mv1 w g i).heap } := rfl
  rw [this, e]
theorem Go1.stay {w : World} {g : Nat} {t : List Int} {i : Nat} {tv ov gv mv xv : Value} (h : Rd w g t i tv ov gv mv xv) (q : Nat) : Go1 w (w.drewN q) g i := ⟨q, by rw [mv_stay h]⟩
theorem Rd.go1 {w w' : World} {g : Nat} {t : List Int} {i k : Nat} {tv ov gv mv xv : Value} (h : Rd w g t i tv ov gv mv xv) (hg : Go1 w w' g k) (hk : k ≤ t.length) : Rd w' g t k tv ov gv mv xv := by
  obtain ⟨q, rfl⟩ := hg
  exact (h.moved k hk).drewN q
/-- how a call ends that moves the reader alone: with a value, or it gives up -/
def EndS {α : Type} (e : Ending) (w w' : World) (g : Nat) (val : α → Value) : Except Nat (α × Nat) → Prop
  | .error k => e = Gave k ∧ Go1 w w' g k
  | .ok (a, k) => e = .returned (val a) ∧ Go1 w w' g k
/-- the value of a hexadecimal digit -/
def hexd (x : Int) : Option Int := if 97 ≤ x ∧ x ≤ 102 then some (x - 97 + 10) else if 65 ≤ x ∧ x ≤ 70 then some (x - 65 + 10) else if 48 ≤ x ∧ x ≤ 57 then some (x - 48) else none
def hexDigit (t : List Int) (i : Nat) : Except Nat (Int × Nat) := match hexd (nx t i) with | some v => .ok (v, i + 1) | none => .error i
theorem u8_in (x : Int) (h0 : 0 ≤ x) (h : x < 256) : IntKind.u8.wrap x = x := by simp [IntKind.wrap, IntKind.bits, IntKind.signed]; omega
theorem i64_small (x : Int) (h0 : 0 ≤ x) (h : x < 4294967296) : IntKind.i64.wrap x = x := by simp [IntKind.wrap, IntKind.bits, IntKind.signed]; omega
/-- the cells of a reader's block but its place -/
structure Cs where
  tv : Value
  ov : Value
  gv : Value
  mv : Value
  xv : Value
abbrev RdC (w : World) (g : Nat) (t : List Int) (i : Nat) (c : Cs) : Prop := Rd w g t i c.tv c.ov c.gv c.mv c.xv
section
variable {g : Nat} {t : List Int} {i : Nat} {c : Cs} {w : World}
theorem seesE (R : Hid (RdC w g t i c)) (a b : Int) (r : Bool) (ha : 0 ≤ a) (hr : decide (a ≤ nx t i ∧ nx t i ≤ b) = r) :
    Calls Tryz.prog 83 #[.pointer (some ⟨g, 0, none⟩), .int .u8 a, .int .u8 b] w fun e w' => e = .returned (.bool r) ∧ Go1 w w' g i :=
  (sees83 g t i _ _ _ _ _ a b w R ha).mono fun e w' ⟨h1, q, h2⟩ => ⟨by rw [h1, hr], by rw [h2]; exact Go1.stay R.out q⟩
theorem endedE (R : Hid (RdC w g t i c)) (r : Bool) (hr : decide (i = t.length) = r) :
    Calls Tryz.prog 40 #[.pointer (some ⟨g, 0, none⟩)] w fun e w' => e = .returned (.bool r) ∧ Go1 w w' g i :=
  (ended40 g t i _ _ _ _ _ w R).mono fun e w' ⟨h1, q, h2⟩ => ⟨by rw [h1, hr], by rw [h2]; exact Go1.stay R.out q⟩
theorem wordE (R : Hid (RdC w g t i c)) (r : Bool) (hr : wordB (nx t i) = r) :
    Calls Tryz.prog 84 #[.pointer (some ⟨g, 0, none⟩)] w fun e w' => e = .returned (.bool r) ∧ Go1 w w' g i :=
  (seesWord84 g t i _ _ _ _ _ w R).mono fun e w' ⟨h1, q, h2⟩ => ⟨by rw [h1, hr], by rw [h2]; exact Go1.stay R.out q⟩
theorem oneOfE (R : Hid (RdC w g t i c)) (s : ByteArray) (r : Bool) (hr : oneOf s (nx t i) = r) :
    Calls Tryz.prog 96 #[.pointer (some ⟨g, 0, none⟩), .string s] w fun e w' => e = .returned (.bool r) ∧ Go1 w w' g i :=
  (seesOneOf96 g t i _ _ _ _ _ s w R).mono fun e w' ⟨h1, q, h2⟩ => ⟨by rw [h1, hr], by rw [h2]; exact Go1.stay R.out q⟩
theorem giveE (R : Hid (RdC w g t i c)) : Calls Tryz.prog 47 #[.pointer (some ⟨g, 0, none⟩)] w fun e w' => e = Gave i ∧ Go1 w w' g i :=
  (giveUp47 g t i _ _ _ _ _ w R).mono fun e w' ⟨h1, h2⟩ => ⟨h1, by rw [h2]; exact Go1.stay R.out 0⟩
theorem takeE (R : Hid (RdC w g t i c)) (a b : Int) (ha : 0 ≤ a) (hx : a ≤ nx t i ∧ nx t i ≤ b) :
    Calls Tryz.prog 85 #[.pointer (some ⟨g, 0, none⟩), .int .u8 a, .int .u8 b] w fun e w' => e = .returned (.int .u8 (nx t i)) ∧ Go1 w w' g (i + 1) := take85 g t i _ _ _ _ _ a b w R ha hx
theorem takeN (R : Hid (RdC w g t i c)) (a b : Int) (ha : 0 ≤ a) (hx : ¬ (a ≤ nx t i ∧ nx t i ≤ b)) :
    Calls Tryz.prog 85 #[.pointer (some ⟨g, 0, none⟩), .int .u8 a, .int .u8 b] w fun e w' => e = Gave i ∧ Go1 w w' g i :=
  (take85_no g t i _ _ _ _ _ a b w R ha hx).mono fun e w' ⟨h1, q, h2⟩ => ⟨h1, by rw [h2]; exact Go1.stay R.out q⟩
theorem mustE (R : Hid (RdC w g t i c)) (a : Int) (ha : 0 ≤ a) (hx : nx t i = a) :
    Calls Tryz.prog 63 #[.pointer (some ⟨g, 0, none⟩), .int .u8 a] w fun e w' => e = .returned (.tuple #[]) ∧ Go1 w w' g (i + 1) := must63 g t i _ _ _ _ _ a w R ha hx
theorem mustN (R : Hid (RdC w g t i c)) (a : Int) (ha : 0 ≤ a) (hx : ¬ nx t i = a) :
    Calls Tryz.prog 63 #[.pointer (some ⟨g, 0, none⟩), .int .u8 a] w fun e w' => e = Gave i ∧ Go1 w w' g i :=
  (must63_no g t i _ _ _ _ _ a w R ha hx).mono fun e w' ⟨h1, q, h2⟩ => ⟨h1, by rw [h2]; exact Go1.stay R.out q⟩
theorem tookE (R : Hid (RdC w g t i c)) (a : Int) (ha : 0 ≤ a) (hx : nx t i = a) :
    Calls Tryz.prog 60 #[.pointer (some ⟨g, 0, none⟩), .int .u8 a] w fun e w' => e = .returned (.bool true) ∧ Go1 w w' g (i + 1) := took60 g t i _ _ _ _ _ a w R ha hx
theorem tookN (R : Hid (RdC w g t i c)) (a : Int) (ha : 0 ≤ a) (hx : ¬ nx t i = a) :
    Calls Tryz.prog 60 #[.pointer (some ⟨g, 0, none⟩), .int .u8 a] w fun e w' => e = .returned (.bool false) ∧ Go1 w w' g i :=
  (took60_no g t i _ _ _ _ _ a w R ha hx).mono fun e w' ⟨h1, q, h2⟩ => ⟨h1, by rw [h2]; exact Go1.stay R.out q⟩
theorem escE (R : Hid (RdC w g t i c)) (hx : nx t i = 92) : Calls Tryz.prog 91 #[.pointer (some ⟨g, 0, none⟩)] w fun e w' => e = .returned (.int .u8 (t.getD (i + 1) 0)) ∧ Go1 w w' g i :=
  (escaped91 g t i _ _ _ _ _ w R hx).mono fun e w' ⟨h1, q, h2⟩ => ⟨h1, by rw [h2]; exact Go1.stay R.out q⟩
theorem escN (R : Hid (RdC w g t i c)) (hx : ¬ nx t i = 92) : Calls Tryz.prog 91 #[.pointer (some ⟨g, 0, none⟩)] w fun e w' => e = .returned (.int .u8 0) ∧ Go1 w w' g i :=
  (escaped91_no g t i _ _ _ _ _ w R hx).mono fun e w' ⟨h1, q, h2⟩ => ⟨h1, by rw [h2]; exact Go1.stay R.out q⟩
/-- on to the next world -/
theorem rdOn {w' : World} {k : Nat} (R : Hid (RdC w g t i c)) (G : Go1 w w' g k) (hk : k ≤ t.length) : Hid (RdC w' g t k c) := R.out.go1 G hk
end
set_option maxHeartbeats 1000000 in
theorem hexDigit120_0 {g : Nat} {t : List Int} {i : Nat} {c : Cs} {w : World} (R : Hid (RdC w g t i c)) (h : 97 ≤ nx t i ∧ nx t i ≤ 102) : Calls Tryz.prog 120 #[.pointer (some ⟨g, 0, none⟩)] w fun e w' => e = .returned (.int .i64 (nx t i - 97 + 10)) ∧ Go1 w w' g (i + 1) := by
  have hle := R.out.le
  have v1 := u8_in (nx t i - 97) (by omega) (by omega)
  have v2 := i64_small (nx t i - 97) (by omega) (by omega)
  have v3 := i64_small (nx t i - 97 + 10) (by omega) (by omega)
  go_enter Tryz.func120, Tryz.ntmps120
  have C1 := seesE R 97 102 true (by decide) (decide_eq_true h)
  go_wp2_with (go_at_call 83; with_reducible refine C1.mono ?_; rintro e w1 ⟨rfl, G1⟩)
  have R1 := rdOn R G1 hle
  have C3 := takeE R1 97 102 (by decide) h
  go_wp2_with (go_at_call 85; with_reducible refine C3.mono ?_; rintro e w3 ⟨rfl, G3⟩)
  go_ret
  exact ⟨by simp [v1, v2, v3], (G1).trans G3⟩
set_option maxHeartbeats 1000000 in
theorem hexDigit120_1 {g : Nat} {t : List Int} {i : Nat} {c : Cs} {w : World} (R : Hid (RdC w g t i c)) (h1 : ¬ (97 ≤ nx t i ∧ nx t i ≤ 102)) (h : 65 ≤ nx t i ∧ nx t i ≤ 70) : Calls Tryz.prog 120 #[.pointer (some ⟨g, 0, none⟩)] w fun e w' => e = .returned (.int .i64 (nx t i - 65 + 10)) ∧ Go1 w w' g (i + 1) := by
  have hle := R.out.le
  have v1 := u8_in (nx t i - 65) (by omega) (by omega)
  have v2 := i64_small (nx t i - 65) (by omega) (by omega)
  have v3 := i64_small (nx t i - 65 + 10) (by omega) (by omega)
  go_enter Tryz.func120, Tryz.ntmps120
  have C1 := seesE R 97 102 false (by decide) (decide_eq_false h1)
  go_wp2_with (go_at_call 83; with_reducible refine C1.mono ?_; rintro e w1 ⟨rfl, G1⟩)
  have R1 := rdOn R G1 hle
  have C2 := seesE R1 65 70 true (by decide) (decide_eq_true h)
  go_wp2_with (go_at_call 83; with_reducible refine C2.mono ?_; rintro e w2 ⟨rfl, G2⟩)
  have R2 := rdOn R1 G2 hle
  have C3 := takeE R2 65 70 (by decide) h
  go_wp2_with (go_at_call 85; with_reducible refine C3.mono ?_; rintro e w3 ⟨rfl, G3⟩)
  go_ret
  exact ⟨by simp [v1, v2, v3], ((G1.trans G2)).trans G3⟩
set_option maxHeartbeats 1000000 in
theorem hexDigit120_2 {g : Nat} {t : List Int} {i : Nat} {c : Cs} {w : World} (R : Hid (RdC w g t i c)) (h1 : ¬ (97 ≤ nx t i ∧ nx t i ≤ 102)) (h2 : ¬ (65 ≤ nx t i ∧ nx t i ≤ 70)) (h : 48 ≤ nx t i ∧ nx t i ≤ 57) : Calls Tryz.prog 120 #[.pointer (some ⟨g, 0, none⟩)] w fun e w' => e = .returned (.int .i64 (nx t i - 48)) ∧ Go1 w w' g (i + 1) := by
  have hle := R.out.le
  have v1 := u8_in (nx t i - 48) (by omega) (by omega)
  have v2 := i64_small (nx t i - 48) (by omega) (by omega)
  go_enter Tryz.func120, Tryz.ntmps120
  have C1 := seesE R 97 102 false (by decide) (decide_eq_false h1)
  go_wp2_with (go_at_call 83; with_reducible refine C1.mono ?_; rintro e w1 ⟨rfl, G1⟩)
  have R1 := rdOn R G1 hle
  have C2 := seesE R1 65 70 false (by decide) (decide_eq_false h2)
  go_wp2_with (go_at_call 83; with_reducible refine C2.mono ?_; rintro e w2 ⟨rfl, G2⟩)
  have R2 := rdOn R1 G2 hle
  have C3 := takeE R2 48 57 (by decide) h
  go_wp2_with (go_at_call 85; with_reducible refine C3.mono ?_; rintro e w3 ⟨rfl, G3⟩)
  go_ret
  exact ⟨by simp [v1, v2], ((G1.trans G2)).trans G3⟩
set_option maxHeartbeats 1000000 in
theorem hexDigit120_3 {g : Nat} {t : List Int} {i : Nat} {c : Cs} {w : World} (R : Hid (RdC w g t i c)) (h1 : ¬ (97 ≤ nx t i ∧ nx t i ≤ 102)) (h2 : ¬ (65 ≤ nx t i ∧ nx t i ≤ 70)) (h : ¬ (48 ≤ nx t i ∧ nx t i ≤ 57)) : Calls Tryz.prog 120 #[.pointer (some ⟨g, 0, none⟩)] w fun e w' => e = Gave i ∧ Go1 w w' g i := by
  have hle := R.out.le
  go_enter Tryz.func120, Tryz.ntmps120
  have C1 := seesE R 97 102 false (by decide) (decide_eq_false h1)
  go_wp2_with (go_at_call 83; with_reducible refine C1.mono ?_; rintro e w1 ⟨rfl, G1⟩)
  have R1 := rdOn R G1 hle
  have C2 := seesE R1 65 70 false (by decide) (decide_eq_false h2)
  go_wp2_with (go_at_call 83; with_reducible refine C2.mono ?_; rintro e w2 ⟨rfl, G2⟩)
  have R2 := rdOn R1 G2 hle
  have C3 := takeN R2 48 57 (by decide) h
  go_wp2_with (go_at_call 85; with_reducible refine C3.mono ?_; rintro e w3 ⟨rfl, G3⟩)
  exact ⟨rfl, rfl, ((G1.trans G2)).trans G3⟩
theorem hexDigit120 {g : Nat} {t : List Int} {i : Nat} {c : Cs} {w : World} (R : Hid (RdC w g t i c)) : Calls Tryz.prog 120 #[.pointer (some ⟨g, 0, none⟩)] w fun e w' => EndS e w w' g (Value.int .i64) (hexDigit t i) := by
  unfold hexDigit hexd
  by_cases h1 : 97 ≤ nx t i ∧ nx t i ≤ 102
  · rw [if_pos h1]; exact hexDigit120_0 R h1
  · rw [if_neg h1]
    by_cases h2 : 65 ≤ nx t i ∧ nx t i ≤ 70
    · rw [if_pos h2]; exact hexDigit120_1 R h1 h2
    · rw [if_neg h2]
      by_cases h3 : 48 ≤ nx t i ∧ nx t i ≤ 57
      · rw [if_pos h3]; exact hexDigit120_2 R h1 h2 h3
      · rw [if_neg h3]; exact hexDigit120_3 R h1 h2 h3
end Go.Proofs.YtenanfkmmkmolaaGreatDoor
/-
  DERIVED: THE SHELF's CONTRACTS AT THIS DUMP, IN PLAIN WORDS (tools/lay-plain.mjs out of 'YtenanfkmmkmolaaGreatDoorShelfA.lean', which tools/lay-shelf.mjs wrote): THE SAME DECLARATIONS UNDER THE SAME NAMES: 'import', 'namespace', 'open', 'def', 'theorem' AND NOTHING ELSE: no command of the shelf's: FOR A HAND-IN. Each laying: the table of numbers ('.._ren') and one theorem, a field a fact of the dump's own or the kernel's comparison; each contract: ONE APPLICATION.
-/
namespace Go.Proofs
open Go.Shelf
def Tryz.sortRng_ren : Go.Shelf.Ren := ⟨fun | 6 => 116 | 15 => 126 | 14 => 125 | 28 => 137 | 29 => 138 | 20 => 129 | 21 => 130 | 22 => 131 | 23 => 132 | 24 => 133 | 25 => 134 | 26 => 135 | 27 => 136 | 46 => 139 | 47 => 140 | 48 => 141 | 49 => 142 | 50 => 143 | 57 => 144 | n => n, fun | 22 => 23 | 24 => 62 | 25 => 154 | 3 => 3 | 39 => 146 | 0 => 0 | 53 => 167 | 55 => 169 | 4 => 4 | 46 => 161 | 45 => 160 | 50 => 136 | 5 => 5 | 9 => 9 | 66 => 170 | 70 => 174 | 76 => 176 | 77 => 129 | n => n, fun | n => n⟩
theorem Tryz.sortRng : Go.Proofs.SlLaysF0.n6 Tryz.prog Tryz.sortRng_ren := {
  mixed := by kernel_rfl
  f6 := ⟨Tryz.f116.name, by decide, Tryz.func116.trans (congrArg some (by kernel_rfl))⟩
  f14 := ⟨Tryz.f125.name, by decide, Tryz.func125.trans (congrArg some (by kernel_rfl))⟩
  f15 := Tryz.func126.trans (congrArg some (by kernel_rfl))
  f20 := ⟨Tryz.f129.name, by decide, Tryz.func129.trans (congrArg some (by kernel_rfl))⟩
  f21 := ⟨Tryz.f130.name, by decide, Tryz.func130.trans (congrArg some (by kernel_rfl))⟩
  f22 := ⟨Tryz.f131.name, by decide, Tryz.func131.trans (congrArg some (by kernel_rfl))⟩
  f23 := ⟨Tryz.f132.name, by decide, Tryz.func132.trans (congrArg some (by kernel_rfl))⟩
  f24 := ⟨Tryz.f133.name, by decide, Tryz.func133.trans (congrArg some (by kernel_rfl))⟩
  f25 := ⟨Tryz.f134.name, by decide, Tryz.func134.trans (congrArg some (by kernel_rfl))⟩
  f26 := ⟨Tryz.f135.name, by decide, Tryz.func135.trans (congrArg some (by kernel_rfl))⟩
  f27 := ⟨Tryz.f136.name, by decide, Tryz.func136.trans (congrArg some (by kernel_rfl))⟩
  f28 := Tryz.func137.trans (congrArg some (by kernel_rfl))
  f29 := Tryz.func138.trans (congrArg some (by kernel_rfl))
  f46 := ⟨Tryz.f139.name, by decide, Tryz.func139.trans (congrArg some (by kernel_rfl))⟩
  f47 := Tryz.func140.trans (congrArg some (by kernel_rfl))
  f48 := Tryz.func141.trans (congrArg some (by kernel_rfl))
  f49 := ⟨Tryz.f142.name, by decide, Tryz.func142.trans (congrArg some (by kernel_rfl))⟩
  f50 := ⟨Tryz.f143.name, by decide, Tryz.func143.trans (congrArg some (by kernel_rfl))⟩
  f57 := ⟨Tryz.f144.name, by decide, Tryz.func144.trans (congrArg some (by kernel_rfl))⟩
  t0 := Tryz.underlying0
  a0 := Tryz.isAgg0
  z0 := Tryz.sizeOf0
  v0 := Tryz.zeroValue0
  t3 := Tryz.underlying3
  a3 := Tryz.isAgg3
  z3 := Tryz.sizeOf3
  v3 := Tryz.zeroValue3
  t4 := Tryz.underlying4
  a4 := Tryz.isAgg4
  z4 := Tryz.sizeOf4
  v4 := Tryz.zeroValue4
  t5 := Tryz.underlying5
  a5 := Tryz.isAgg5
  z5 := Tryz.sizeOf5
  v5 := Tryz.zeroValue5
  t9 := Tryz.underlying9
  a9 := Tryz.isAgg9
  z9 := Tryz.sizeOf9
  v9 := Tryz.zeroValue9
  t22 := Tryz.underlying23
  a22 := Tryz.isAgg23
  z22 := Tryz.sizeOf23
  v22 := Tryz.zeroValue23
  t25 := Tryz.underlying154
  a25 := Tryz.isAgg154
  z25 := Tryz.sizeOf154
  v25 := Tryz.zeroValue154
  t39 := Tryz.underlying146
  a39 := Tryz.isAgg146
  z39 := Tryz.sizeOf146
  v39 := Tryz.zeroValue146
  t45 := Tryz.underlying160
  a45 := Tryz.isAgg160
  z45 := Tryz.sizeOf160
  v45 := Tryz.zeroValue160
  t46 := Tryz.underlying161
  a46 := Tryz.isAgg161
  z46 := Tryz.sizeOf161
  v46 := Tryz.zeroValue161
  t50 := Tryz.underlying136
  a50 := Tryz.isAgg136
  z50 := Tryz.sizeOf136
  v50 := Tryz.zeroValue136
  t53 := Tryz.underlying167
  a53 := Tryz.isAgg167
  z53 := Tryz.sizeOf167
  v53 := Tryz.zeroValue167
  t55 := Tryz.underlying169
  a55 := Tryz.isAgg169
  z55 := Tryz.sizeOf169
  v55 := Tryz.zeroValue169
  t66 := Tryz.underlying170
  a66 := Tryz.isAgg170
  z66 := Tryz.sizeOf170
  v66 := Tryz.zeroValue170
  t70 := Tryz.underlying174
  a70 := Tryz.isAgg174
  z70 := Tryz.sizeOf174
  v70 := Tryz.zeroValue174
  t76 := Tryz.underlying176
  a76 := Tryz.isAgg176
  z76 := Tryz.sizeOf176
  v76 := Tryz.zeroValue176
  t77 := Tryz.underlying129
  a77 := Tryz.isAgg129
  z77 := Tryz.sizeOf129
  v77 := Tryz.zeroValue129 }
def Tryz.cmpInt_ren : Go.Shelf.Ren := ⟨fun | 5 => 118 | 7 => 127 | n => n, fun | 22 => 3 | 3 => 3 | 4 => 4 | n => n, fun | n => n⟩
theorem Tryz.cmpInt : Go.Proofs.SlLaysC2.n5 Tryz.prog Tryz.cmpInt_ren := {
  mixed := by kernel_rfl
  f5 := ⟨Tryz.f118.name, by decide, Tryz.func118.trans (congrArg some (by kernel_rfl))⟩
  f7 := ⟨Tryz.f127.name, by decide, Tryz.func127.trans (congrArg some (by kernel_rfl))⟩
  t3 := Tryz.underlying3
  a3 := Tryz.isAgg3
  z3 := Tryz.sizeOf3
  v3 := Tryz.zeroValue3
  t4 := Tryz.underlying4
  a4 := Tryz.isAgg4
  z4 := Tryz.sizeOf4
  v4 := Tryz.zeroValue4
  t22 := Tryz.underlying3
  a22 := Tryz.isAgg3
  z22 := Tryz.sizeOf3
  v22 := Tryz.zeroValue3 }
end Go.Proofs
/- HELPERS: plain mathematics of bytes and runes: what Decode and Cut answer. -/
namespace Go.Mx
open Go.RowKit
set_option linter.unusedVariables false
set_option linter.unusedSimpArgs false
/-! the plain mathematics of layer 1: bytes and runes -/
theorem i64_small (n : Int) (h0 : 0 ≤ n) (h1 : n < 2 ^ 40) : IntKind.i64.wrap n = n := IntWalk.i64_in n ⟨by omega, by omega⟩
theorem and63 (x : Int) (h0 : 0 ≤ x) (h1 : x < 256) : bits .and .i64 x 63 = x % 64 := bits_mask .i64 40 (by decide) i64_small 6 (by decide) x h0 (by omega)
theorem and127 (x : Int) (h0 : 0 ≤ x) (h1 : x < 256) : bits .and .i64 x 127 = x % 128 := bits_mask .i64 40 (by decide) i64_small 7 (by decide) x h0 (by omega)
theorem and31 (x : Int) (h0 : 0 ≤ x) (h1 : x < 256) : bits .and .i64 x 31 = x % 32 := bits_mask .i64 40 (by decide) i64_small 5 (by decide) x h0 (by omega)
theorem and15 (x : Int) (h0 : 0 ≤ x) (h1 : x < 256) : bits .and .i64 x 15 = x % 16 := bits_mask .i64 40 (by decide) i64_small 4 (by decide) x h0 (by omega)
theorem and7 (x : Int) (h0 : 0 ≤ x) (h1 : x < 256) : bits .and .i64 x 7 = x % 8 := bits_mask .i64 40 (by decide) i64_small 3 (by decide) x h0 (by omega)
theorem or6 (x y : Int) (h0 : 0 ≤ x) (h1 : x % 64 = 0) (h2 : x < 2 ^ 40) (h3 : 0 ≤ y) (h4 : y < 64) : bits .or .i64 x y = x + y := bits_join .i64 40 (by decide) i64_small 6 x y h0 h1 h2 h3 h4 (by omega)
theorem andNot63 (x : Int) (h0 : 0 ≤ x) (h1 : x < 256) : bits .andNot .i64 x 63 = x - x % 64 := by
  have h : ∀ n : Fin 256, bits .andNot .i64 (n.val : Int) 63 = (n.val : Int) - (n.val : Int) % 64 := by decide +kernel
  have := h ⟨x.toNat, by omega⟩
  simpa [Int.toNat_of_nonneg h0] using this

/-- is a number a rune of the domain -/
def dom (r : Int) : Bool := decide (0 ≤ r ∧ r < 55296 ∨ 57343 < r ∧ r ≤ 1114111)
/-- how many bytes a rune has that begins so -/
def sz (b : Int) : Int := if b < 128 then 1 else if b < 192 then 0 else if b < 224 then 2 else if b < 240 then 3 else if b < 248 then 4 else 0
def cont (b : Int) : Bool := decide (128 ≤ b ∧ b < 192)
/-- the mask, the least -/
def mk (s : Int) : Int := if s = 1 then 128 else if s = 2 then 32 else if s = 3 then 16 else 8
def ls (s : Int) : Int := if s = 1 then 0 else if s = 2 then 128 else if s = 3 then 2048 else 65536
/-- the number of bits so far -/
def acc (r : Int) : List Int → Int
  | [] => r
  | b :: t => acc (r * 64 + b % 64) t
/-- the number that the bytes behind the first one make -/
def val (a : Int) (t : List Int) : Int := acc (a % mk (sz a)) (t.take ((sz a).toNat - 1))
/-- do the first bytes make a rune -/
def okB (a : Int) (t : List Int) : Bool := decide (1 ≤ sz a) && decide (sz a ≤ (t.length : Int) + 1) && (t.take ((sz a).toNat - 1)).all cont && decide (ls (sz a) ≤ val a t) && dom (val a t)
def decAt (a : Int) (t : List Int) : Int × Int := if okB a t then (val a t, sz a) else (65533, 1)
def dec : List Int → Int × Int
  | [] => (0, 0)
  | a :: t => decAt a t
theorem sz_le (b : Int) : 0 ≤ sz b ∧ sz b ≤ 4 := by unfold sz; repeat' split <;> omega
theorem sz_one {b : Int} (h : sz b = 1) : b < 128 := by unfold sz at h; repeat' split at h <;> omega
theorem acc_snoc (r : Int) (l : List Int) (b : Int) : acc r (l ++ [b]) = acc r l * 64 + b % 64 := by
  induction l generalizing r with
  | nil => rfl
  | cons c t ih => simp only [List.cons_append, acc, ih]
theorem acc_bd (l : List Int) : ∀ (r B : Int), 0 ≤ r → r < B → 0 ≤ acc r l ∧ acc r l < B * 64 ^ l.length := by
  induction l with
  | nil => intro r B h0 h1; simpa [acc] using ⟨h0, h1⟩
  | cons c t ih =>
    intro r B h0 h1
    have := ih (r * 64 + c % 64) (B * 64) (by omega) (by omega)
    simp only [acc, List.length_cons]
    refine ⟨this.1, ?_⟩
    rw [Int.pow_succ, Int.mul_comm (64 ^ t.length) 64, ← Int.mul_assoc]
    exact this.2
theorem dom_broken : dom 65533 = true := by decide
theorem dec_bd (l : List Int) (h : l ≠ []) : 1 ≤ (dec l).2 ∧ (dec l).2 ≤ 4 ∧ (dec l).2 ≤ l.length ∧ dom (dec l).1 = true := by
  cases l with
  | nil => exact absurd rfl h
  | cons a t =>
    have hs := sz_le a
    show 1 ≤ (decAt a t).2 ∧ (decAt a t).2 ≤ 4 ∧ (decAt a t).2 ≤ ((a :: t).length : Nat) ∧ dom (decAt a t).1 = true
    unfold decAt
    by_cases h2 : okB a t = true
    · rw [if_pos h2]
      simp only [okB, Bool.and_eq_true, decide_eq_true_eq] at h2
      simp only [List.length_cons]
      exact ⟨by omega, by omega, by omega, h2.2⟩
    · rw [if_neg h2]
      simp only [List.length_cons]
      exact ⟨by omega, by omega, by omega, dom_broken⟩
/-- Cut by rounds: each rune with the place of its first byte -/
def cutF : Nat → Nat → List Int → List (Int × Nat)
  | 0, _, _ => []
  | _ + 1, _, [] => []
  | n + 1, at', a :: t => ((dec (a :: t)).1, at') :: cutF n (at' + (dec (a :: t)).2.toNat) ((a :: t).drop (dec (a :: t)).2.toNat)
def cut (l : List Int) : List (Int × Nat) := cutF l.length 0 l
theorem cutF_more (l : List Int) : ∀ (n m p : Nat), l.length ≤ n → l.length ≤ m → cutF n p l = cutF m p l := by
  intro n
  induction n generalizing l with
  | zero =>
    intro m p h1 h2
    have : l = [] := List.eq_nil_of_length_eq_zero (by omega)
    subst this
    cases m <;> rfl
  | succ n ih =>
    intro m p h1 h2
    cases l with
    | nil => cases m <;> rfl
    | cons a t =>
      cases m with
      | zero => simp at h2
      | succ m =>
        have hd := dec_bd (a :: t) (by simp)
        simp only [cutF]
        rw [ih _ m _ (by simp only [List.length_drop, List.length_cons] at *; omega) (by simp only [List.length_drop, List.length_cons] at *; omega)]
theorem cutF_len (l : List Int) : ∀ (n p : Nat), (cutF n p l).length ≤ l.length := by
  intro n
  induction n generalizing l with
  | zero => intro p; simp [cutF]
  | succ n ih =>
    intro p
    cases l with
    | nil => simp [cutF]
    | cons a t =>
      have hd := dec_bd (a :: t) (by simp)
      simp only [cutF, List.length_cons]
      have := ih ((a :: t).drop (dec (a :: t)).2.toNat) (p + (dec (a :: t)).2.toNat)
      simp only [List.length_drop, List.length_cons] at *
      omega
theorem acc_small (a : Int) (l : List Int) (h0 : 0 ≤ a) (h1 : a < 128) (hl : l.length ≤ 3) : 0 ≤ acc a l ∧ acc a l < 33554432 := by
  have h := acc_bd l a 128 h0 h1
  have hp : (64 : Int) ^ l.length ≤ 262144 := by
    have : ∀ n, n ≤ 3 → (64 : Int) ^ n ≤ 262144 := by decide
    exact this _ hl
  refine ⟨h.1, ?_⟩
  have := h.2
  omega
theorem take_succ' (t : List Int) (k : Nat) (h : k < t.length) : t.take (k + 1) = t.take k ++ [t.getD k 0] := by
  rw [List.take_succ_eq_append_getElem h]
  simp [h]
theorem all_take_succ (t : List Int) (k : Nat) (h : k < t.length) : (t.take (k + 1)).all cont = ((t.take k).all cont && cont (t.getD k 0)) := by
  rw [take_succ' t k h, List.all_append]
  simp
theorem all_take_mono (t : List Int) (j k : Nat) (h : j ≤ k) (ha : (t.take k).all cont = true) : (t.take j).all cont = true := by
  rw [List.all_eq_true] at *
  intro x hx
  have hx' : x ∈ t.take k := (List.take_sublist_take_left h).subset hx
  exact ha x hx'
theorem dec_few (a : Int) (t : List Int) (h : sz a = 0 ∨ (t.length : Int) + 1 < sz a) : dec (a :: t) = (65533, 1) := by
  show decAt a t = _
  unfold decAt
  rw [if_neg]
  simp only [okB, Bool.and_eq_true, decide_eq_true_eq]
  omega
theorem dec_brk (a : Int) (t : List Int) (k : Nat) (hk : k + 1 < (sz a).toNat) (hl : k < t.length) (hc : cont (t.getD k 0) = false) : dec (a :: t) = (65533, 1) := by
  show decAt a t = _
  unfold decAt
  rw [if_neg]
  intro h
  simp only [okB, Bool.and_eq_true] at h
  have h2 := all_take_mono t (k + 1) ((sz a).toNat - 1) (by omega) h.1.1.2
  rw [all_take_succ t k hl, hc] at h2
  simp at h2
theorem dec_end (a : Int) (t : List Int) (h1 : 1 ≤ sz a) (h2 : sz a ≤ (t.length : Int) + 1) (hc : (t.take ((sz a).toNat - 1)).all cont = true) :
    dec (a :: t) = if ls (sz a) ≤ val a t ∧ dom (val a t) = true then (val a t, sz a) else (65533, 1) := by
  show decAt a t = _
  unfold decAt okB
  by_cases h : ls (sz a) ≤ val a t ∧ dom (val a t) = true
  · rw [if_pos h, if_pos]
    simp [h1, h2, hc, h.1, h.2]
  · rw [if_neg h, if_neg]
    intro h'
    simp only [Bool.and_eq_true, decide_eq_true_eq] at h'
    exact h ⟨h'.1.2, h'.2⟩
/-- the runes, and the places -/
def runesOf (G : List (Int × Nat)) : List Int := G.map fun x => x.1
def placesOf (G : List (Int × Nat)) : List Int := G.map fun x => (x.2 : Int)
theorem getD_drop' (l : List Int) (p : Nat) (h : p < l.length) : l.drop p = l.getD p 0 :: l.drop (p + 1) := by
  rw [List.drop_eq_getElem_cons h]
  simp [h]
theorem cut_step (l : List Int) (n p : Nat) (G : List (Int × Nat)) (hn : n = l.length) (hp : p < n) (hG : G ++ cutF n p (l.drop p) = cut l) :
    (G ++ [((dec (l.drop p)).1, p)]) ++ cutF n (p + (dec (l.drop p)).2.toNat) (l.drop (p + (dec (l.drop p)).2.toNat)) = cut l := by
  subst hn
  rw [← hG, List.append_assoc]
  congr 1
  have h1 : cutF l.length p (l.drop p) = cutF (l.length + 1) p (l.drop p) := cutF_more _ _ _ _ (by simp) (by simp; omega)
  rw [h1, getD_drop' l p hp, cutF, ← getD_drop' l p hp, List.drop_drop]
  rfl
theorem cut_done (l : List Int) (n : Nat) (G : List (Int × Nat)) (hn : n = l.length) (hG : G ++ cutF n n (l.drop n) = cut l) : G = cut l := by
  subst hn
  rw [← hG]
  have : cutF l.length l.length (l.drop l.length) = [] := by simp; cases l.length <;> rfl
  rw [this, List.append_nil]
theorem cut_len (l : List Int) : (cut l).length ≤ l.length := cutF_len l _ _
end Go.Mx
/- HELPERS: the contract of runes.Decode, for every row of bytes. -/
namespace Go.Proofs.YtenanfkmmkmolaaGreatDoor
open Go.RowKit Go.Mx
set_option linter.unusedVariables false
set_option linter.unusedSimpArgs false
theorem ret_pair {a b c d : Int} (h : a = c) (h2 : b = d) : Ending.returned (.tuple #[.int .i64 a, .int .i64 b]) = .returned (.tuple #[.int .i64 c, .int .i64 d]) := by rw [h, h2]
theorem dom41 (r : Int) (w : World) : Calls Tryz.prog 111 #[.int .i64 r] w fun e w' => e = .returned (.bool (dom r)) ∧ w' = w := by
  go_enter Tryz.func111, Tryz.ntmps111
  go_wp2
  all_goals go_ret
  all_goals exact ⟨ret_bool (by rw [Bool.eq_iff_iff]; simp [dom]; omega), rfl⟩
set_option maxHeartbeats 800000 in
theorem decode1 (a : Int) (t : List Int) (n b off cap : Nat) (w : World) (hn1 : t.length + 1 ≤ n) (hn2 : n ≤ t.length + 1) (hlen : n ≤ 140737488351232) (hcap : n ≤ cap) (hcl : cap ≤ 9223372036854775807)
   (h0 : w.cell? ⟨b, off, none⟩ = some (.int .u8 a)) (hc : ∀ k, k < t.length → w.cell? ⟨b, off + 1 + k, none⟩ = some (.int .u8 (t.getD k 0)))
   (h1 : 0 ≤ a) (h2 : a < 256) (hb : ∀ k, 0 ≤ t.getD k 0 ∧ t.getD k 0 < 256)
   (hs2 : (1 : Int) ≤ n)
   (hS : w.cell? ⟨1, (a / 8).toNat, none⟩ = some (.int .i64 1)) (hM : w.cell? ⟨2, 4, none⟩ = some (.int .i64 127)) (hL : w.cell? ⟨2, 5, none⟩ = some (.int .i64 0))
   (HS : Hid (sz a = 1)) :
   Calls Tryz.prog 98 #[.slice (some ⟨b, off, none⟩) n cap] w fun e w' => e = .returned (.tuple #[.int .i64 (dec (a :: t)).1, .int .i64 (dec (a :: t)).2]) ∧ ∃ q, w' = w.drewN q := by
  have hA := and127 a h1 h2
  have hm : 0 ≤ a % 128 ∧ a % 128 < 128 := by omega
  have hd := dec_end a t (by rw [HS.out]; omega) (by rw [HS.out]; omega) (by rw [HS.out]; rfl)
  have hv : val a t = a % 128 := by unfold val; rw [HS.out]; rfl
  rw [hv, HS.out] at hd
  have ha : a < 128 := sz_one (HS.out)
  have hm2 : a % 128 = a := by omega
  rw [hm2, if_pos ⟨by show (0 : Int) ≤ a; omega, by simp [dom]; omega⟩] at hd
  have HD : Hid (dec (a :: t) = (a, 1)) := hd
  have hdom : ∀ W : World, Calls Tryz.prog 111 #[.int .i64 (a % 128)] W fun e w' => e = .returned (.bool true) ∧ w' = W := by
    intro W
    have := dom41 (a % 128) W
    rwa [show dom (a % 128) = true by simp [dom]; omega] at this
  clear hd hv hm2 hc hb
  go_enter Tryz.func98, Tryz.ntmps98
  go_wp2
  go_quiet (fail)
  go_wp2
  all_goals refine wp_loop_rounds 1 ?_
  all_goals rw [rounds_succ]
  all_goals go_wp2_with (go_at_call 111; refine (hdom _).mono ?_; rintro e w' ⟨rfl, rfl⟩)
  all_goals go_ret2
  all_goals exact ⟨ret_pair (by rw [HD.out]; omega) (by rw [HD.out]), _, rfl⟩
set_option maxHeartbeats 800000 in
theorem decode2 (a : Int) (t : List Int) (n b off cap : Nat) (w : World) (hn1 : t.length + 1 ≤ n) (hn2 : n ≤ t.length + 1) (hlen : n ≤ 140737488351232) (hcap : n ≤ cap) (hcl : cap ≤ 9223372036854775807)
   (h0 : w.cell? ⟨b, off, none⟩ = some (.int .u8 a)) (hc : ∀ k, k < t.length → w.cell? ⟨b, off + 1 + k, none⟩ = some (.int .u8 (t.getD k 0)))
   (h1 : 0 ≤ a) (h2 : a < 256) (hb : ∀ k, 0 ≤ t.getD k 0 ∧ t.getD k 0 < 256)
   (hs2 : (2 : Int) ≤ n)
   (hS : w.cell? ⟨1, (a / 8).toNat, none⟩ = some (.int .i64 2)) (hM : w.cell? ⟨2, 7, none⟩ = some (.int .i64 31)) (hL : w.cell? ⟨2, 8, none⟩ = some (.int .i64 128))
   (HS : Hid (sz a = 2)) :
   Calls Tryz.prog 98 #[.slice (some ⟨b, off, none⟩) n cap] w fun e w' => e = .returned (.tuple #[.int .i64 (dec (a :: t)).1, .int .i64 (dec (a :: t)).2]) ∧ ∃ q, w' = w.drewN q := by
  have hA := and31 a h1 h2
  have hm : 0 ≤ a % 32 ∧ a % 32 < 128 := by omega
  go_enter Tryz.func98, Tryz.ntmps98
  go_wp2
  go_quiet (fail)
  go_wp2
  go_loop [5, 38] (fun rv i => ∃ k : Nat, k ≤ 1 ∧ i = .int .i64 k ∧ ∃ r : Int, 0 ≤ r ∧ r < 33554432 ∧ rv = .int .i64 r ∧ Hid (r = acc (a % 32) (t.take k) ∧ (t.take k).all cont = true)) (fun _ i => 1 - (intOf i).toNat)
  case atStart => exact ⟨0, by omega, rfl, a % 32, by omega, by omega, rfl, by exact ⟨rfl, rfl⟩⟩
  case round =>
    obtain ⟨k, hk, rfl, r, hr0, hr1, rfl, HR⟩ := hrel
    by_cases hlt : k < 1
    · have hck := hc k (by omega)
      have hbk := hb k
      generalize hx : t.getD k 0 = x at hck hbk
      have HX : Hid (t.getD k 0 = x) := hx
      clear hx hc hb
      obtain ⟨hx0, hx1⟩ := hbk
      have e1 := and63 x hx0 hx1
      have e2 := andNot63 x hx0 hx1
      have e3 := or6 (r * 64) (x % 64) (by omega) (by omega) (by omega) (by omega) (by omega)
      by_cases hcx : x - x % 64 = 128
      · go_wp2
        go_round
        case rel =>
          have hR := HR.out
          have hxo := HX.out
          have hn : acc (a % 32) (t.take (k + 1)) = r * 64 + x % 64 := by rw [take_succ' t k (by omega), acc_snoc, ← hR.1, hxo]
          have hbd := acc_small (a % 32) (t.take (k + 1)) (by omega) (by omega) (by rw [List.length_take]; omega)
          refine ⟨k + 1, by omega, by go_num, r * 64 + x % 64, by omega, by omega, rfl, ?_⟩
          exact ⟨hn.symm, by rw [all_take_succ t k (by omega), hR.2, hxo]; simp [cont]; omega⟩
        case measure => simp [intOf]; omega
      · go_wp2
        go_ret2
        have hd := dec_brk a t k (by rw [HS.out]; omega) (by omega) (by rw [HX.out]; simp [cont]; omega)
        exact ⟨ret_pair (by rw [hd]) (by rw [hd]), _, rfl⟩
    · obtain rfl : k = 1 := by omega
      have hR := HR.out
      clear HR hc hb
      have hv : val a t = r := by unfold val; rw [HS.out]; exact hR.1.symm
      have hd := dec_end a t (by rw [HS.out]; omega) (by rw [HS.out]; omega) (by rw [HS.out]; exact hR.2)
      rw [hv, HS.out] at hd
      have HD : Hid (dec (a :: t) = if ls 2 ≤ r ∧ dom r = true then (r, 2) else (65533, 1)) := hd
      have hls : ls 2 = 128 := by decide
      have HL : Hid (ls 2 = 128) := hls
      clear hd hv hR hls
      by_cases hrl : r < 128
      · go_wp2_with (go_at_call 111; refine (dom41 _ _).mono ?_; rintro e w' ⟨rfl, rfl⟩)
        go_ret2
        exact ⟨ret_pair (by rw [HD.out, HL.out, if_neg (by omega)]) (by rw [HD.out, HL.out, if_neg (by omega)]), _, rfl⟩
      · cases hdr : dom r
        · have hdom : Calls Tryz.prog 111 #[.int .i64 r] (w.drewN nq) fun e w' => e = .returned (.bool false) ∧ w' = w.drewN nq := by
            have := dom41 r (w.drewN nq); rwa [hdr] at this
          have HDR : Hid (dom r = false) := hdr
          clear hdr
          go_wp2_with (go_at_call 111; refine hdom.mono ?_; rintro e w' ⟨rfl, rfl⟩)
          go_ret2
          exact ⟨ret_pair (by rw [HD.out, HL.out, if_neg (by rw [HDR.out]; simp)]) (by rw [HD.out, HL.out, if_neg (by rw [HDR.out]; simp)]), _, rfl⟩
        · have hdom : Calls Tryz.prog 111 #[.int .i64 r] (w.drewN nq) fun e w' => e = .returned (.bool true) ∧ w' = w.drewN nq := by
            have := dom41 r (w.drewN nq); rwa [hdr] at this
          have HDR : Hid (dom r = true) := hdr
          clear hdr
          go_wp2_with (go_at_call 111; refine hdom.mono ?_; rintro e w' ⟨rfl, rfl⟩)
          go_ret2
          exact ⟨ret_pair (by rw [HD.out, HL.out, if_pos ⟨by omega, HDR.out⟩]) (by rw [HD.out, HL.out, if_pos ⟨by omega, HDR.out⟩]), _, rfl⟩
set_option maxHeartbeats 800000 in
theorem decode3 (a : Int) (t : List Int) (n b off cap : Nat) (w : World) (hn1 : t.length + 1 ≤ n) (hn2 : n ≤ t.length + 1) (hlen : n ≤ 140737488351232) (hcap : n ≤ cap) (hcl : cap ≤ 9223372036854775807)
   (h0 : w.cell? ⟨b, off, none⟩ = some (.int .u8 a)) (hc : ∀ k, k < t.length → w.cell? ⟨b, off + 1 + k, none⟩ = some (.int .u8 (t.getD k 0)))
   (h1 : 0 ≤ a) (h2 : a < 256) (hb : ∀ k, 0 ≤ t.getD k 0 ∧ t.getD k 0 < 256)
   (hs2 : (3 : Int) ≤ n)
   (hS : w.cell? ⟨1, (a / 8).toNat, none⟩ = some (.int .i64 3)) (hM : w.cell? ⟨2, 10, none⟩ = some (.int .i64 15)) (hL : w.cell? ⟨2, 11, none⟩ = some (.int .i64 2048))
   (HS : Hid (sz a = 3)) :
   Calls Tryz.prog 98 #[.slice (some ⟨b, off, none⟩) n cap] w fun e w' => e = .returned (.tuple #[.int .i64 (dec (a :: t)).1, .int .i64 (dec (a :: t)).2]) ∧ ∃ q, w' = w.drewN q := by
  have hA := and15 a h1 h2
  have hm : 0 ≤ a % 16 ∧ a % 16 < 128 := by omega
  go_enter Tryz.func98, Tryz.ntmps98
  go_wp2
  go_quiet (fail)
  go_wp2
  go_loop [5, 38] (fun rv i => ∃ k : Nat, k ≤ 2 ∧ i = .int .i64 k ∧ ∃ r : Int, 0 ≤ r ∧ r < 33554432 ∧ rv = .int .i64 r ∧ Hid (r = acc (a % 16) (t.take k) ∧ (t.take k).all cont = true)) (fun _ i => 2 - (intOf i).toNat)
  case atStart => exact ⟨0, by omega, rfl, a % 16, by omega, by omega, rfl, by exact ⟨rfl, rfl⟩⟩
  case round =>
    obtain ⟨k, hk, rfl, r, hr0, hr1, rfl, HR⟩ := hrel
    by_cases hlt : k < 2
    · have hck := hc k (by omega)
      have hbk := hb k
      generalize hx : t.getD k 0 = x at hck hbk
      have HX : Hid (t.getD k 0 = x) := hx
      clear hx hc hb
      obtain ⟨hx0, hx1⟩ := hbk
      have e1 := and63 x hx0 hx1
      have e2 := andNot63 x hx0 hx1
      have e3 := or6 (r * 64) (x % 64) (by omega) (by omega) (by omega) (by omega) (by omega)
      by_cases hcx : x - x % 64 = 128
      · go_wp2
        go_round
        case rel =>
          have hR := HR.out
          have hxo := HX.out
          have hn : acc (a % 16) (t.take (k + 1)) = r * 64 + x % 64 := by rw [take_succ' t k (by omega), acc_snoc, ← hR.1, hxo]
          have hbd := acc_small (a % 16) (t.take (k + 1)) (by omega) (by omega) (by rw [List.length_take]; omega)
          refine ⟨k + 1, by omega, by go_num, r * 64 + x % 64, by omega, by omega, rfl, ?_⟩
          exact ⟨hn.symm, by rw [all_take_succ t k (by omega), hR.2, hxo]; simp [cont]; omega⟩
        case measure => simp [intOf]; omega
      · go_wp2
        go_ret2
        have hd := dec_brk a t k (by rw [HS.out]; omega) (by omega) (by rw [HX.out]; simp [cont]; omega)
        exact ⟨ret_pair (by rw [hd]) (by rw [hd]), _, rfl⟩
    · obtain rfl : k = 2 := by omega
      have hR := HR.out
      clear HR hc hb
      have hv : val a t = r := by unfold val; rw [HS.out]; exact hR.1.symm
      have hd := dec_end a t (by rw [HS.out]; omega) (by rw [HS.out]; omega) (by rw [HS.out]; exact hR.2)
      rw [hv, HS.out] at hd
      have HD : Hid (dec (a :: t) = if ls 3 ≤ r ∧ dom r = true then (r, 3) else (65533, 1)) := hd
      have hls : ls 3 = 2048 := by decide
      have HL : Hid (ls 3 = 2048) := hls
      clear hd hv hR hls
      by_cases hrl : r < 2048
      · go_wp2_with (go_at_call 111; refine (dom41 _ _).mono ?_; rintro e w' ⟨rfl, rfl⟩)
        go_ret2
        exact ⟨ret_pair (by rw [HD.out, HL.out, if_neg (by omega)]) (by rw [HD.out, HL.out, if_neg (by omega)]), _, rfl⟩
      · cases hdr : dom r
        · have hdom : Calls Tryz.prog 111 #[.int .i64 r] (w.drewN nq) fun e w' => e = .returned (.bool false) ∧ w' = w.drewN nq := by
            have := dom41 r (w.drewN nq); rwa [hdr] at this
          have HDR : Hid (dom r = false) := hdr
          clear hdr
          go_wp2_with (go_at_call 111; refine hdom.mono ?_; rintro e w' ⟨rfl, rfl⟩)
          go_ret2
          exact ⟨ret_pair (by rw [HD.out, HL.out, if_neg (by rw [HDR.out]; simp)]) (by rw [HD.out, HL.out, if_neg (by rw [HDR.out]; simp)]), _, rfl⟩
        · have hdom : Calls Tryz.prog 111 #[.int .i64 r] (w.drewN nq) fun e w' => e = .returned (.bool true) ∧ w' = w.drewN nq := by
            have := dom41 r (w.drewN nq); rwa [hdr] at this
          have HDR : Hid (dom r = true) := hdr
          clear hdr
          go_wp2_with (go_at_call 111; refine hdom.mono ?_; rintro e w' ⟨rfl, rfl⟩)
          go_ret2
          exact ⟨ret_pair (by rw [HD.out, HL.out, if_pos ⟨by omega, HDR.out⟩]) (by rw [HD.out, HL.out, if_pos ⟨by omega, HDR.out⟩]), _, rfl⟩
set_option maxHeartbeats 800000 in
theorem decode4 (a : Int) (t : List Int) (n b off cap : Nat) (w : World) (hn1 : t.length + 1 ≤ n) (hn2 : n ≤ t.length + 1) (hlen : n ≤ 140737488351232) (hcap : n ≤ cap) (hcl : cap ≤ 9223372036854775807)
   (h0 : w.cell? ⟨b, off, none⟩ = some (.int .u8 a)) (hc : ∀ k, k < t.length → w.cell? ⟨b, off + 1 + k, none⟩ = some (.int .u8 (t.getD k 0)))
   (h1 : 0 ≤ a) (h2 : a < 256) (hb : ∀ k, 0 ≤ t.getD k 0 ∧ t.getD k 0 < 256)
   (hs2 : (4 : Int) ≤ n)
   (hS : w.cell? ⟨1, (a / 8).toNat, none⟩ = some (.int .i64 4)) (hM : w.cell? ⟨2, 13, none⟩ = some (.int .i64 7)) (hL : w.cell? ⟨2, 14, none⟩ = some (.int .i64 65536))
   (HS : Hid (sz a = 4)) :
   Calls Tryz.prog 98 #[.slice (some ⟨b, off, none⟩) n cap] w fun e w' => e = .returned (.tuple #[.int .i64 (dec (a :: t)).1, .int .i64 (dec (a :: t)).2]) ∧ ∃ q, w' = w.drewN q := by
  have hA := and7 a h1 h2
  have hm : 0 ≤ a % 8 ∧ a % 8 < 128 := by omega
  go_enter Tryz.func98, Tryz.ntmps98
  go_wp2
  go_quiet (fail)
  go_wp2
  go_loop [5, 38] (fun rv i => ∃ k : Nat, k ≤ 3 ∧ i = .int .i64 k ∧ ∃ r : Int, 0 ≤ r ∧ r < 33554432 ∧ rv = .int .i64 r ∧ Hid (r = acc (a % 8) (t.take k) ∧ (t.take k).all cont = true)) (fun _ i => 3 - (intOf i).toNat)
  case atStart => exact ⟨0, by omega, rfl, a % 8, by omega, by omega, rfl, by exact ⟨rfl, rfl⟩⟩
  case round =>
    obtain ⟨k, hk, rfl, r, hr0, hr1, rfl, HR⟩ := hrel
    by_cases hlt : k < 3
    · have hck := hc k (by omega)
      have hbk := hb k
      generalize hx : t.getD k 0 = x at hck hbk
      have HX : Hid (t.getD k 0 = x) := hx
      clear hx hc hb
      obtain ⟨hx0, hx1⟩ := hbk
      have e1 := and63 x hx0 hx1
      have e2 := andNot63 x hx0 hx1
      have e3 := or6 (r * 64) (x % 64) (by omega) (by omega) (by omega) (by omega) (by omega)
      by_cases hcx : x - x % 64 = 128
      · go_wp2
        go_round
        case rel =>
          have hR := HR.out
          have hxo := HX.out
          have hn : acc (a % 8) (t.take (k + 1)) = r * 64 + x % 64 := by rw [take_succ' t k (by omega), acc_snoc, ← hR.1, hxo]
          have hbd := acc_small (a % 8) (t.take (k + 1)) (by omega) (by omega) (by rw [List.length_take]; omega)
          refine ⟨k + 1, by omega, by go_num, r * 64 + x % 64, by omega, by omega, rfl, ?_⟩
          exact ⟨hn.symm, by rw [all_take_succ t k (by omega), hR.2, hxo]; simp [cont]; omega⟩
        case measure => simp [intOf]; omega
      · go_wp2
        go_ret2
        have hd := dec_brk a t k (by rw [HS.out]; omega) (by omega) (by rw [HX.out]; simp [cont]; omega)
        exact ⟨ret_pair (by rw [hd]) (by rw [hd]), _, rfl⟩
    · obtain rfl : k = 3 := by omega
      have hR := HR.out
      clear HR hc hb
      have hv : val a t = r := by unfold val; rw [HS.out]; exact hR.1.symm
      have hd := dec_end a t (by rw [HS.out]; omega) (by rw [HS.out]; omega) (by rw [HS.out]; exact hR.2)
      rw [hv, HS.out] at hd
      have HD : Hid (dec (a :: t) = if ls 4 ≤ r ∧ dom r = true then (r, 4) else (65533, 1)) := hd
      have hls : ls 4 = 65536 := by decide
      have HL : Hid (ls 4 = 65536) := hls
      clear hd hv hR hls
      by_cases hrl : r < 65536
      · go_wp2_with (go_at_call 111; refine (dom41 _ _).mono ?_; rintro e w' ⟨rfl, rfl⟩)
        go_ret2
        exact ⟨ret_pair (by rw [HD.out, HL.out, if_neg (by omega)]) (by rw [HD.out, HL.out, if_neg (by omega)]), _, rfl⟩
      · cases hdr : dom r
        · have hdom : Calls Tryz.prog 111 #[.int .i64 r] (w.drewN nq) fun e w' => e = .returned (.bool false) ∧ w' = w.drewN nq := by
            have := dom41 r (w.drewN nq); rwa [hdr] at this
          have HDR : Hid (dom r = false) := hdr
          clear hdr
          go_wp2_with (go_at_call 111; refine hdom.mono ?_; rintro e w' ⟨rfl, rfl⟩)
          go_ret2
          exact ⟨ret_pair (by rw [HD.out, HL.out, if_neg (by rw [HDR.out]; simp)]) (by rw [HD.out, HL.out, if_neg (by rw [HDR.out]; simp)]), _, rfl⟩
        · have hdom : Calls Tryz.prog 111 #[.int .i64 r] (w.drewN nq) fun e w' => e = .returned (.bool true) ∧ w' = w.drewN nq := by
            have := dom41 r (w.drewN nq); rwa [hdr] at this
          have HDR : Hid (dom r = true) := hdr
          clear hdr
          go_wp2_with (go_at_call 111; refine hdom.mono ?_; rintro e w' ⟨rfl, rfl⟩)
          go_ret2
          exact ⟨ret_pair (by rw [HD.out, HL.out, if_pos ⟨by omega, HDR.out⟩]) (by rw [HD.out, HL.out, if_pos ⟨by omega, HDR.out⟩]), _, rfl⟩
/-- the tables, as the program lays them -/
def TabS : List Int := [1, 1, 1, 1, 1, 1, 1, 1, 1, 1, 1, 1, 1, 1, 1, 1, 0, 0, 0, 0, 0, 0, 0, 0, 2, 2, 2, 2, 3, 3, 4, 0]
def TabF : List Int := [0, 0, 0, 0, 127, 0, 192, 31, 128, 224, 15, 2048, 240, 7, 65536]
def Tabs (w : World) : Prop := (∀ i, i < 32 → w.cell? ⟨1, i, none⟩ = some (.int .i64 (TabS.getD i 0))) ∧ (∀ i, i < 15 → w.cell? ⟨2, i, none⟩ = some (.int .i64 (TabF.getD i 0)))
def Bytes (w : World) (b off : Nat) (l : List Int) : Prop := ∀ k, k < l.length → w.cell? ⟨b, off + k, none⟩ = some (.int .u8 (l.getD k 0))
def ByteL (l : List Int) : Prop := ∀ k, 0 ≤ l.getD k 0 ∧ l.getD k 0 < 256
theorem sz_tab (a : Int) (h0 : 0 ≤ a) (h1 : a < 256) : TabS.getD (a / 8).toNat 0 = sz a := by
  have h : ∀ n : Fin 256, TabS.getD ((n.val : Int) / 8).toNat 0 = sz (n.val : Int) := by decide +kernel
  have := h ⟨a.toNat, by omega⟩
  simpa [Int.toNat_of_nonneg h0] using this
theorem ByteL.tail {a : Int} {t : List Int} (h : ByteL (a :: t)) : ByteL t := fun k => by simpa using h (k + 1)
theorem ByteL.head {a : Int} {t : List Int} (h : ByteL (a :: t)) : 0 ≤ a ∧ a < 256 := by simpa using h 0
theorem ByteL.drop {l : List Int} (h : ByteL l) (n : Nat) : ByteL (l.drop n) := fun k => by
  have := h (n + k)
  simpa [List.getD_eq_getElem?_getD, List.getElem?_drop] using this
theorem Bytes.drop {w : World} {b off : Nat} {l : List Int} (h : Bytes w b off l) (n : Nat) : Bytes w b (off + n) (l.drop n) := fun k hk => by
  rw [List.length_drop] at hk
  have := h (n + k) (by omega)
  rw [show off + n + k = off + (n + k) by omega, this]
  simp [List.getD_eq_getElem?_getD, List.getElem?_drop]
set_option maxHeartbeats 400000 in
theorem decode0 (a : Int) (t : List Int) (n b off cap : Nat) (w : World) (hn1 : t.length + 1 ≤ n) (hn2 : n ≤ t.length + 1) (hlen : n ≤ 140737488351232)
   (h0 : w.cell? ⟨b, off, none⟩ = some (.int .u8 a)) (h1 : 0 ≤ a) (h2 : a < 256) (s : Int) (hs0 : 0 ≤ s) (hs4 : s ≤ 4) (hs : s = 0 ∨ (n : Int) < s)
   (hS : w.cell? ⟨1, (a / 8).toNat, none⟩ = some (.int .i64 s)) (HS : Hid (sz a = s)) :
   Calls Tryz.prog 98 #[.slice (some ⟨b, off, none⟩) n cap] w fun e w' => e = .returned (.tuple #[.int .i64 (dec (a :: t)).1, .int .i64 (dec (a :: t)).2]) ∧ ∃ q, w' = w.drewN q := by
  have hd := dec_few a t (by rw [HS.out]; omega)
  have HD : Hid (dec (a :: t) = (65533, 1)) := hd
  clear hd
  rcases hs with rfl | hs
  · go_enter Tryz.func98, Tryz.ntmps98
    go_wp2
    all_goals go_ret2
    all_goals exact ⟨ret_pair (by rw [HD.out]) (by rw [HD.out]), 0, rfl⟩
  · have h3 : ¬ s = 0 := by omega
    go_enter Tryz.func98, Tryz.ntmps98
    go_wp2
    all_goals go_ret2
    all_goals exact ⟨ret_pair (by rw [HD.out]) (by rw [HD.out]), 0, rfl⟩
theorem decode_any (l : List Int) (hl : l ≠ []) (b off cap n : Nat) (w : World) (hn : n = l.length) (hlen : n ≤ 140737488351232) (hcap : n ≤ cap) (hcl : cap ≤ 9223372036854775807)
   (hT : Tabs w) (hB : Bytes w b off l) (hL : ByteL l) :
   Calls Tryz.prog 98 #[.slice (some ⟨b, off, none⟩) n cap] w fun e w' => e = .returned (.tuple #[.int .i64 (dec l).1, .int .i64 (dec l).2]) ∧ ∃ q, w' = w.drewN q := by
  cases l with
  | nil => exact absurd rfl hl
  | cons a t =>
    obtain ⟨h1, h2⟩ := hL.head
    have hS := hT.1 (a / 8).toNat (by omega)
    rw [sz_tab a h1 h2] at hS
    have h0 : w.cell? ⟨b, off, none⟩ = some (.int .u8 a) := by have := hB 0 (by simp); simpa using this
    have hc : ∀ k, k < t.length → w.cell? ⟨b, off + 1 + k, none⟩ = some (.int .u8 (t.getD k 0)) := fun k hk => by
      have := hB (k + 1) (by simp; omega)
      rw [show off + 1 + k = off + (k + 1) by omega, this]
      simp
    simp only [List.length_cons] at hn
    have hsz := sz_le a
    by_cases hf : sz a = 0 ∨ (n : Int) < sz a
    · exact decode0 a t n b off cap w (by omega) (by omega) hlen h0 h1 h2 (sz a) hsz.1 hsz.2 hf hS rfl
    · have hcases : sz a = 1 ∨ sz a = 2 ∨ sz a = 3 ∨ sz a = 4 := by omega
      rcases hcases with hs | hs | hs | hs
      · rw [hs] at hS hf
        exact decode1 a t n b off cap w (by omega) (by omega) hlen hcap hcl h0 hc h1 h2 hL.tail (by omega) hS (hT.2 4 (by decide)) (hT.2 5 (by decide)) hs
      · rw [hs] at hS hf
        exact decode2 a t n b off cap w (by omega) (by omega) hlen hcap hcl h0 hc h1 h2 hL.tail (by omega) hS (hT.2 7 (by decide)) (hT.2 8 (by decide)) hs
      · rw [hs] at hS hf
        exact decode3 a t n b off cap w (by omega) (by omega) hlen hcap hcl h0 hc h1 h2 hL.tail (by omega) hS (hT.2 10 (by decide)) (hT.2 11 (by decide)) hs
      · rw [hs] at hS hf
        exact decode4 a t n b off cap w (by omega) (by omega) hlen hcap hcl h0 hc h1 h2 hL.tail (by omega) hS (hT.2 13 (by decide)) (hT.2 14 (by decide)) hs
theorem decode_none (ad : Option Addr) (cap : Nat) (w : World) : Calls Tryz.prog 98 #[.slice ad 0 cap] w fun e w' => e = .returned (.tuple #[.int .i64 0, .int .i64 0]) ∧ w' = w := by
  go_enter Tryz.func98, Tryz.ntmps98
  go_wp2
  all_goals go_ret2
  all_goals exact ⟨rfl, rfl⟩
end Go.Proofs.YtenanfkmmkmolaaGreatDoor
/- HELPERS: the contract of runes.Cut. -/
namespace Go.Proofs.YtenanfkmmkmolaaGreatDoor
open Go.RowKit Go.Mx
set_option linter.unusedVariables false
set_option linter.unusedSimpArgs false
theorem info3 : (Tryz.prog.info? 3).map (fun i => (i.zero, i.size, i.bytes)) = some (some (.int .i64 0), 1, 8) := by kernel_rfl
theorem Tabs.below {w w' : World} {B : Nat} (h : Tabs w) (hb : Below B w w') (hB : 3 ≤ B) : Tabs w' :=
  ⟨fun i hi => (hb.cell (p := ⟨1, i, none⟩) (by show 1 < B; omega)).trans (h.1 i hi), fun i hi => (hb.cell (p := ⟨2, i, none⟩) (by show 2 < B; omega)).trans (h.2 i hi)⟩
theorem Bytes.below {w w' : World} {B b off : Nat} {l : List Int} (h : Bytes w b off l) (hb : Below B w w') (hB : b < B) : Bytes w' b off l :=
  fun k hk => (hb.cell (p := ⟨b, off + k, none⟩) hB).trans (h k hk)
theorem news_one (w : World) (v : Value) (t : TypeId) (g : Nat) (hg : g = w.heap.size) : ∀ (j : Nat) (u : Value), [v][j]? = some u → (w.alloc (.cells #[v] t)).cell? ((⟨g, 0, none⟩ : Addr).add j) = some u := by
  intro j u h
  match j, h with
  | 0, h =>
    simp at h
    subst h
    exact (World.cell?_alloc_at _ t g 0 hg).trans rfl
theorem one_cell_int (k : IntKind) (r : Int) : ∀ u : Value, u ∈ [Value.int k r] → u.oneCell' = true := by
  intro u hu; simp at hu; subst hu; rfl
abbrev I64 (l : List Int) : List Value := l.map (Value.int .i64)
end Go.Proofs.YtenanfkmmkmolaaGreatDoor
/- HELPERS: the contract of the sort of ranges. -/
namespace Go.Proofs.YtenanfkmmkmolaaGreatDoor
open Go.Shelf Go.RowKit Go.Lib Go.Sort Go.Mx
set_option linter.unusedVariables false
set_option linter.unusedSimpArgs false
/-- a range's two cells -/
def encR (x : Int × Int) : List Value := [.int .i64 x.1, .int .i64 x.2]
def fl (L : List (Int × Int)) : List Value := L.flatMap encR
theorem fl_append (A B : List (Int × Int)) : fl (A ++ B) = fl A ++ fl B := by simp [fl]
theorem fl_len (A : List (Int × Int)) : (fl A).length = A.length * 2 := by induction A <;> simp_all [fl, encR] <;> omega
theorem info57 : (Tryz.prog.info? 62).map (fun i => (i.zero, i.size, i.bytes)) = some (some (.agg #[.int .i64 0, .int .i64 0]), 2, 16) := by kernel_rfl
set_option maxHeartbeats 1000000 in
theorem closure58 (x y : Int × Int) (W : World) : Calls Tryz.prog 117 #[.agg #[.int .i64 x.1, .int .i64 x.2], .agg #[.int .i64 y.1, .int .i64 y.2]] W fun e w' => e = .returned (.int .i64 (Lib.compareInt x.1 y.1)) ∧ ∃ q os', w' = grow (W.drewN q) os' := by
  have hcon := fun W' => AnyG.cmp_Compare_int Tryz.cmpInt x.1 y.1 W'
  change ∀ W', Calls Tryz.prog 118 _ _ _ at hcon
  generalize Lib.compareInt x.1 y.1 = r at hcon ⊢
  go_enter Tryz.func117, Tryz.ntmps117
  go_wp2_with (go_at_call 118; refine (hcon _).mono ?_; rintro e w' ⟨rfl, rfl⟩)
  go_ret
  exact ⟨rfl, 0, _, by rw [alloc_eq_grow, alloc_eq_grow, grow_grow]; rfl⟩
theorem cmpLays58 (blk off size : Nat) (w : World) : CmpLays Tryz.prog 117 #[] encR 2 (fun x y => Lib.compareInt x.1 y.1) blk off size w :=
  fun _ _ _ _ x y => closure58 x y _
theorem ltLo (x y : Int × Int) : ltOf (fun x y : Int × Int => Lib.compareInt x.1 y.1) x y = decide (x.1 < y.1) := by
  unfold ltOf Lib.compareInt
  by_cases h1 : x.1 < y.1
  · simp [h1]
  · by_cases h2 : y.1 < x.1 <;> simp [h1, h2]
theorem swoLo : SWO (ltOf fun x y : Int × Int => Lib.compareInt x.1 y.1) :=
  ⟨fun x => by rw [ltLo]; simp, fun x y z h1 h2 => by rw [ltLo] at *; simp at *; omega, fun x y z h1 h2 => by rw [ltLo] at *; simp at *; omega⟩
set_option maxRecDepth 100000 in
theorem isAgg57 : ∀ w, (isAgg 62).run Tryz.prog w = .ok true w := fun _ => rfl
set_option maxRecDepth 100000 in
theorem sizeOf57 : ∀ w, (Go.sizeOf 62).run Tryz.prog w = .ok 2 w := fun _ => rfl
/-- slices.SortFunc, at whatever length -/
theorem sort57 (blk off cap : Nat) (d : Array (Int × Int)) (w : World) (hH : HoldsK encR 2 w blk off d) (hblk : blk < w.heap.size) (hsz : d.size < 4611686018427387904) :
    Calls Tryz.prog 116 #[.slice (some ⟨blk, off, none⟩) d.size cap, .func (.func 117) #[] #[]] w fun e w' => e = .returned (.tuple #[]) ∧ ∃ d' n os, PermIn 0 d.size d d' ∧ SortedIn (ltOf fun x y : Int × Int => Lib.compareInt x.1 y.1) 0 d.size d' ∧ w' = sortWorldK encR 2 w blk off n d' os := by
  have eg : ∀ args w, (callFunc 117 args).run Tryz.prog w = .ok (.enter 117 args) w := enters_of Tryz.func117 (by kernel_rfl) rfl
  have hcon := AnyQ.slices_SortFunc Tryz.sortRng 2 isAgg57 sizeOf57 encR (fun _ => rfl) (fun x v hv => by simp [encR] at hv; rcases hv with rfl | rfl <;> rfl) (fun x y => Lib.compareInt x.1 y.1) swoLo 117 #[] blk off cap d w eg (cmpLays58 blk off d.size w) hH hblk hsz
  exact hcon
end Go.Proofs.YtenanfkmmkmolaaGreatDoor
/- HELPERS: the contract of runes.appendParts. -/
namespace Go.Proofs.YtenanfkmmkmolaaGreatDoor
open Go.Shelf Go.RowKit Go.Lib Go.Sort Go.Mx
set_option linter.unusedVariables false
set_option linter.unusedSimpArgs false
/-- what a range has of the domain -/
def partsOf (g : Int × Int) : List (Int × Int) := (if g.1 < 55296 then [(g.1, min g.2 55295)] else []) ++ (if 57343 < g.2 then [(max g.1 57344, g.2)] else [])
theorem news_two (w : World) (a b : Value) (t : TypeId) (g : Nat) (hg : g = w.heap.size) : ∀ (j : Nat) (u : Value), [a, b][j]? = some u → (w.alloc (.cells #[a, b] t)).cell? ((⟨g, 0, none⟩ : Addr).add j) = some u := by
  intro j u h
  match j, h with
  | 0, h => simp at h; subst h; exact (World.cell?_alloc_at _ t g 0 hg).trans rfl
  | 1, h => simp at h; subst h; exact (World.cell?_alloc_at _ t g 1 hg).trans rfl
theorem two_cells_int (k : IntKind) (r s : Int) : ∀ u : Value, u ∈ [Value.int k r, Value.int k s] → u.oneCell' = true := by
  intro u hu; simp at hu; rcases hu with rfl | rfl <;> rfl
theorem box_kept {w w1 : World} {base size n : Nat} {e t : TypeId} {v : Value} {xs : List Value} {a b : Value} {o : Obj} (hown : w.ownsRow base e size v n xs) (hg : ((w.alloc (.cells #[a, b] t)).alloc o).grownBy w1 v.ownBlock) :
    w1.cell? ⟨w.heap.size, 0, none⟩ = some a ∧ w1.cell? ⟨w.heap.size, 1, none⟩ = some b := by
  have hne : some w.heap.size = v.ownBlock → False := fun e => by have := (hown.lt _ e.symm).2; omega
  have c0 : ((w.alloc (.cells #[a, b] t)).alloc o).cell? ⟨w.heap.size, 0, none⟩ = some a := (World.cell?_alloc_past _ _ _ (by simp)).trans ((World.cell?_alloc_at _ t _ 0 rfl).trans rfl)
  have c1 : ((w.alloc (.cells #[a, b] t)).alloc o).cell? ⟨w.heap.size, 1, none⟩ = some b := (World.cell?_alloc_past _ _ _ (by simp)).trans ((World.cell?_alloc_at _ t _ 1 rfl).trans rfl)
  exact ⟨hg.cell c0 hne, hg.cell c1 hne⟩
theorem below_append {w w1 : World} {base size n : Nat} {e : TypeId} {v : Value} {xs : List Value} {o o' : Obj} (hown : w.ownsRow base e size v n xs) (hb : base ≤ w.heap.size) (hg : ((w.alloc o).alloc o').grownBy w1 v.ownBlock) : Below base w w1 :=
  (((Below.refl _ _).alloc hb _).alloc (by simp; omega) _).grown hg (by simp; omega) (fun k hk => (hown.lt k hk).1)
theorem below_append1 {w w1 : World} {base size n : Nat} {e : TypeId} {v : Value} {xs : List Value} {o : Obj} (hown : w.ownsRow base e size v n xs) (hb : base ≤ w.heap.size) (hg : (w.alloc o).grownBy w1 v.ownBlock) : Below base w w1 :=
  ((Below.refl _ _).alloc hb _).grown hg (by simp; omega) (fun k hk => (hown.lt k hk).1)
set_option maxHeartbeats 1000000 in
set_option maxRecDepth 1000000 in
theorem parts56 (base : Nat) (L : List (Int × Int)) (n : Nat) (v : Value) (lo hi : Int) (w : World) (hown : w.ownsRow base 62 2 v n (fl L)) (hb : base ≤ w.heap.size) (hsz : n ≤ 4398046511104) :
    Calls Tryz.prog 115 #[v, .agg #[.int .i64 lo, .int .i64 hi]] w fun e w' => ∃ v' , e = .returned v' ∧ w'.ownsRow base 62 2 v' (n + (partsOf (lo, hi)).length) (fl (L ++ partsOf (lo, hi))) ∧ Below base w w' := by
  obtain ⟨i0, hi0, hz0, hz1, hz2⟩ := info_parts info57
  have hP : partsOf (lo, hi) = (if lo < 55296 then [(lo, min hi 55295)] else []) ++ (if 57343 < hi then [(max lo 57344, hi)] else []) := rfl
  by_cases h1 : lo < 55296
  · rw [if_pos h1] at hP
    by_cases h2 : 57343 < hi
    · rw [if_pos h2] at hP
      rw [hP, fl_append]
      clear hP
      go_enter Tryz.func115, Tryz.ntmps115
      go_wp2_with (first
        | (at_builtin; refine wpList_append_own _ rfl (.tmp 8) (.tmp 15) 23 rfl base 62 i0 (.agg #[.int .i64 0, .int .i64 0]) 2 16 Tryz.underlying23 hi0 hz0 hz1 hz2 rfl (by decide) v n _ rfl ((hown.alloc _).alloc _) ⟨w.heap.size + 1, 0, none⟩ 1 1 [.int .i64 lo, .int .i64 (min hi 55295)] rfl rfl (by exact news_two _ _ _ _ _ (by simp)) (two_cells_int _ _ _) (by unfold maxLen; omega) (by omega) (by simp; omega) ?_; intro v1 w1 ho1 hg1 _; obtain ⟨c0, c1⟩ := box_kept hown hg1; have hb1 := below_append hown hb hg1; have hs1 := hb1.size; clear hg1)
        | (at_builtin; refine wpList_append_own _ rfl (.tmp 20) (.tmp 27) 23 rfl base 62 i0 (.agg #[.int .i64 0, .int .i64 0]) 2 16 Tryz.underlying23 hi0 hz0 hz1 hz2 rfl (by decide) v1 (n + 1) _ rfl (ho1.alloc _) ⟨w1.heap.size, 0, none⟩ 1 1 [.int .i64 (max lo 57344), .int .i64 hi] rfl rfl (by exact news_two _ _ _ _ _ rfl) (two_cells_int _ _ _) (by unfold maxLen; omega) (by omega) (by simp; omega) ?_; intro v2 w2 ho2 hg2 _; have hb2 := hb1.trans (below_append1 ho1 (by omega) hg2); clear hg2))
      go_ret
      refine ⟨_, rfl, ?_, hb2⟩
      simpa [fl, encR, List.append_assoc] using ho2
    · rw [if_neg h2] at hP
      rw [hP, fl_append]
      clear hP
      go_enter Tryz.func115, Tryz.ntmps115
      go_wp2_with (first
        | (at_builtin; refine wpList_append_own _ rfl (.tmp 8) (.tmp 15) 23 rfl base 62 i0 (.agg #[.int .i64 0, .int .i64 0]) 2 16 Tryz.underlying23 hi0 hz0 hz1 hz2 rfl (by decide) v n _ rfl ((hown.alloc _).alloc _) ⟨w.heap.size + 1, 0, none⟩ 1 1 [.int .i64 lo, .int .i64 (min hi 55295)] rfl rfl (by exact news_two _ _ _ _ _ (by simp)) (two_cells_int _ _ _) (by unfold maxLen; omega) (by omega) (by simp; omega) ?_; intro v1 w1 ho1 hg1 _; obtain ⟨c0, c1⟩ := box_kept hown hg1; have hb1 := below_append hown hb hg1; have hs1 := hb1.size; clear hg1))
      go_ret
      refine ⟨_, rfl, ?_, hb1⟩
      simpa [fl, encR, List.append_assoc] using ho1
  · rw [if_neg h1] at hP
    by_cases h2 : 57343 < hi
    · rw [if_pos h2] at hP
      rw [hP, fl_append]
      clear hP
      go_enter Tryz.func115, Tryz.ntmps115
      go_wp2_with (first
        | (at_builtin; refine wpList_append_own _ rfl (.tmp 20) (.tmp 27) 23 rfl base 62 i0 (.agg #[.int .i64 0, .int .i64 0]) 2 16 Tryz.underlying23 hi0 hz0 hz1 hz2 rfl (by decide) v n _ rfl ((hown.alloc _).alloc _) ⟨w.heap.size + 1, 0, none⟩ 1 1 [.int .i64 (max lo 57344), .int .i64 hi] rfl rfl (by exact news_two _ _ _ _ _ (by simp)) (two_cells_int _ _ _) (by unfold maxLen; omega) (by omega) (by simp; omega) ?_; intro v1 w1 ho1 hg1 _; have hb1 := below_append hown hb hg1; have hs1 := hb1.size; clear hg1))
      go_ret
      refine ⟨_, rfl, ?_, hb1⟩
      simpa [fl, encR, List.append_assoc] using ho1
    · rw [if_neg h2] at hP
      rw [hP, fl_append]
      clear hP
      go_enter Tryz.func115, Tryz.ntmps115
      go_wp2
      go_ret
      refine ⟨_, rfl, ?_, (Below.refl _ _).alloc hb _⟩
      simpa [fl, encR, List.append_assoc] using hown.alloc _
end Go.Proofs.YtenanfkmmkmolaaGreatDoor
/- HELPERS: the contract of runes.merge. -/
namespace Go.Proofs.YtenanfkmmkmolaaGreatDoor
open Go.Shelf Go.RowKit Go.Lib Go.Sort Go.Mx
set_option linter.unusedVariables false
set_option linter.unusedSimpArgs false
/-- one range is laid behind others that rise -/
def lastOf (O : List (Int × Int)) : Int × Int := O.getD (O.length - 1) (0, 0)
def mstep (O : List (Int × Int)) (g : Int × Int) : List (Int × Int) :=
  if O.length = 0 then O ++ [g] else if g.1 ≤ (lastOf O).2 + 1 then O.set (O.length - 1) ((lastOf O).1, max (lastOf O).2 g.2) else O ++ [g]
def mergeL (L : List (Int × Int)) : List (Int × Int) := L.foldl mstep []
theorem mergeL_succ (L : List (Int × Int)) (k : Nat) (h : k < L.length) : mergeL (L.take (k + 1)) = mstep (mergeL (L.take k)) (L.getD k (0, 0)) := by
  unfold mergeL
  rw [List.take_succ_eq_append_getElem h, List.foldl_append]
  simp [h]
theorem mstep_len (O : List (Int × Int)) (g : Int × Int) : (mstep O g).length ≤ O.length + 1 := by
  unfold mstep; repeat' split
  all_goals simp
theorem fl_getD (O : List (Int × Int)) : ∀ k, k < O.length → (fl O)[k * 2]? = some (.int .i64 (O.getD k (0, 0)).1) ∧ (fl O)[k * 2 + 1]? = some (.int .i64 (O.getD k (0, 0)).2) := by
  induction O with
  | nil => intro k h; simp at h
  | cons a t ih =>
    intro k h
    have hc : fl (a :: t) = .int .i64 a.1 :: .int .i64 a.2 :: fl t := by simp [fl, encR]
    rw [hc]
    cases k with
    | zero => simp
    | succ k =>
      have := ih k (by simpa using h)
      rw [show (k + 1) * 2 = k * 2 + 2 by omega, show k * 2 + 2 + 1 = k * 2 + 1 + 2 by omega]
      simpa using this
theorem fl_set (O : List (Int × Int)) : ∀ (i : Nat) (m : Int), i < O.length → fl (O.set i ((O.getD i (0, 0)).1, m)) = (fl O).set (i * 2 + 1) (.int .i64 m) := by
  induction O with
  | nil => intro i m h; simp at h
  | cons a t ih =>
    intro i m h
    have hc : ∀ x y, fl (x :: y) = .int .i64 x.1 :: .int .i64 x.2 :: fl y := by intro x y; simp [fl, encR]
    cases i with
    | zero => simp [hc]
    | succ i =>
      have := ih i m (by simpa using h)
      rw [show (i + 1) * 2 + 1 = i * 2 + 1 + 2 by omega]
      simp only [List.set_cons_succ, hc, List.getD_cons_succ]
      rw [this]
theorem getD_mem' (l : List (Int × Int)) (k : Nat) (h : k < l.length) : l.getD k (0, 0) ∈ l := by
  have e : l.getD k (0, 0) = l[k] := by simp [h]
  rw [e]; exact List.getElem_mem h
def bdB (O : List (Int × Int)) : Prop := ∀ g ∈ O, 0 ≤ g.2 ∧ g.2 ≤ 1114111
theorem bdB_last {O : List (Int × Int)} (h : bdB O) (h0 : ¬ O.length = 0) : 0 ≤ (lastOf O).2 ∧ (lastOf O).2 ≤ 1114111 := by
  unfold lastOf
  have hl : O.length - 1 < O.length := by omega
  have hm : O.getD (O.length - 1) (0, 0) ∈ O := getD_mem' O _ hl
  exact h _ hm
theorem bdB_step {O : List (Int × Int)} (h : bdB O) (g : Int × Int) (h0 : 0 ≤ g.2) (h1 : g.2 ≤ 1114111) : bdB (mstep O g) := by
  unfold mstep
  split
  · intro x hx
    rcases List.mem_append.1 hx with hx | hx
    · exact h x hx
    · simp at hx; subst hx; exact ⟨h0, h1⟩
  · split
    · rename_i h2 h3
      intro x hx
      have := bdB_last h h2
      rcases List.mem_or_eq_of_mem_set hx with hx | hx
      · exact h x hx
      · subst hx; simp only; omega
    · intro x hx
      rcases List.mem_append.1 hx with hx | hx
      · exact h x hx
      · simp at hx; subst hx; exact ⟨h0, h1⟩
theorem step_new {O : List (Int × Int)} {g : Int × Int} (h : O.length = 0 ∨ ¬ g.1 ≤ (lastOf O).2 + 1) : mstep O g = O ++ [g] := by
  unfold mstep
  split
  · rfl
  · rename_i h1; exact if_neg (fun h2 => h.elim h1 (fun h3 => h3 h2))
theorem step_join {O : List (Int × Int)} {g : Int × Int} (h0 : ¬ O.length = 0) (h : g.1 ≤ (lastOf O).2 + 1) : mstep O g = O.set (O.length - 1) ((lastOf O).1, max (lastOf O).2 g.2) := by
  unfold mstep
  rw [if_neg h0, if_pos h]
theorem fl_one (O : List (Int × Int)) (lo hi : Int) : fl (O ++ [(lo, hi)]) = fl O ++ [.int .i64 lo, .int .i64 hi] := by simp [fl, encR]
set_option maxHeartbeats 1000000 in
set_option maxRecDepth 1000000 in
theorem merge59 (L : List (Int × Int)) (b off n cap : Nat) (w : World) (hn : Hid (n = L.length)) (hsz : n ≤ 4398046511104)
  (hB : Hid (bdB L))
  (hc0 : ∀ k, k < n → w.cell? ⟨b, off + k * 2, none⟩ = some (.int .i64 (L.getD k (0, 0)).1)) (hc1 : ∀ k, k < n → w.cell? ⟨b, off + k * 2 + 1, none⟩ = some (.int .i64 (L.getD k (0, 0)).2)) (hb : b < w.heap.size) :
    Calls Tryz.prog 119 #[.slice (some ⟨b, off, none⟩) n cap] w fun e w' => ∃ v' , e = .returned v' ∧ w'.ownsRow w.heap.size 62 2 v' (mergeL L).length (fl (mergeL L)) ∧ Below w.heap.size w w' := by
  obtain ⟨i0, hi0, hz0, hz1, hz2⟩ := info_parts info57
  go_enter Tryz.func119, Tryz.ntmps119
  go_wp2
  go_loopw [3, 9] (fun v i wr => ∃ (k : Nat) (O : List (Int × Int)), k ≤ n ∧ O.length ≤ k ∧ i = .int .i64 k ∧ wr.ownsRow w.heap.size 62 2 v O.length (fl O) ∧ Below w.heap.size w wr ∧ Hid (O = mergeL (L.take k) ∧ bdB O))
    (fun _ i _ => n - (intOf i).toNat)
  case atStart => exact ⟨0, [], by omega, by simp, rfl, World.ownsRow_nil _ _ _ _, Below.refl _ _, by exact ⟨rfl, by simp [bdB]⟩⟩
  case round =>
    obtain ⟨k, O, hk, hO, rfl, hown, hbw, HR⟩ := hrel
    have hsz2 := hbw.size
    by_cases hlt : k < n
    · have d0 := (hbw.cell (p := ⟨b, off + k * 2, none⟩) hb).trans (hc0 k hlt)
      have d1 := (hbw.cell (p := ⟨b, off + k * 2 + 1, none⟩) hb).trans (hc1 k hlt)
      have hgB := hB.out (L.getD k (0, 0)) (getD_mem' L k (by rw [← hn.out]; exact hlt))
      have hnext := mergeL_succ L k (by rw [← hn.out]; exact hlt)
      rw [← HR.out.1] at hnext
      generalize L.getD k (0, 0) = g at d0 d1 hgB hnext
      clear hc0 hc1
      obtain ⟨lo, hi⟩ := g
      simp only at d0 d1 hgB
      have HB2 := bdB_step HR.out.2 (lo, hi) hgB.1 hgB.2
      have HN : Hid (mergeL (L.take (k + 1)) = mstep O (lo, hi) ∧ bdB (mstep O (lo, hi))) := ⟨hnext, HB2⟩
      have hle1 := mstep_len O (lo, hi)
      clear hnext HB2 hgB
      rcases Joins.ownsRow_forms hown with ⟨rfl, h0⟩ | ⟨g, cp, rfl⟩
      · have hst := step_new (O := O) (g := (lo, hi)) (.inl h0)
        rw [hst] at HN hle1
        have hO0 : O = [] := List.eq_nil_of_length_eq_zero h0
        subst hO0
        simp only [List.nil_append, List.length_nil, List.length_singleton] at HN hle1 hown hst
        go_wp2
        go_quiet (fail)
        go_wp2_with (at_builtin; refine wpList_append_own _ rfl (.tmp 41) (.tmp 43) 23 rfl w.heap.size 62 i0 (.agg #[.int .i64 0, .int .i64 0]) 2 16 Tryz.underlying23 hi0 hz0 hz1 hz2 rfl (by decide) (.slice none 0 0) 0 _ rfl (World.ownsRow_nil _ _ _ _) ⟨wr.heap.size + 1, 0, none⟩ 1 1 [.int .i64 lo, .int .i64 hi] rfl rfl (by exact news_two _ _ _ _ _ (by simp)) (two_cells_int _ _ _) (by unfold maxLen; omega) (by omega) (by simp; omega) ?_; intro v1 w1 ho1 hg1 _)
        have hb1 : Below w.heap.size w w1 := ((below_drewN (hbw.alloc hsz2 _) nq).alloc (by simp; omega) _).grown hg1 (by simp; omega) (fun k hk => by cases hk)
        go_roundw
        case rel => exact ⟨k + 1, [(lo, hi)], by omega, by simp, by go_num, by simpa [fl, encR] using ho1, hb1, by exact ⟨HN.out.1.symm, HN.out.2⟩⟩
        case measure => simp [intOf]; omega
      · have hbg : g < wr.heap.size := (hown.lt _ rfl).2
        have hbg2 : w.heap.size ≤ g := (hown.lt _ rfl).1
        by_cases h0 : O.length = 0
        · have hst := step_new (O := O) (g := (lo, hi)) (.inl h0)
          rw [hst] at HN hle1
          have hO0 : O = [] := List.eq_nil_of_length_eq_zero h0
          subst hO0
          simp only [List.nil_append, List.length_nil, List.length_singleton] at HN hle1 hown hst
          go_wp2
          go_quiet (fail)
          go_wp2_with (at_builtin; refine wpList_append_own _ rfl (.tmp 41) (.tmp 43) 23 rfl w.heap.size 62 i0 (.agg #[.int .i64 0, .int .i64 0]) 2 16 Tryz.underlying23 hi0 hz0 hz1 hz2 rfl (by decide) (.slice (some ⟨g, 0, none⟩) 0 cp) 0 _ rfl (by exact (show ((wr.alloc _).drewN nq).ownsRow w.heap.size 62 2 _ _ _ from hown.alloc _).alloc _) ⟨wr.heap.size + 1, 0, none⟩ 1 1 [.int .i64 lo, .int .i64 hi] rfl rfl (by exact news_two _ _ _ _ _ (by simp)) (two_cells_int _ _ _) (by unfold maxLen; omega) (by omega) (by simp; omega) ?_; intro v1 w1 ho1 hg1 _)
          have hb1 : Below w.heap.size w w1 := ((below_drewN (hbw.alloc hsz2 _) nq).alloc (by simp; omega) _).grown hg1 (by simp; omega) (fun k hk => by cases hk; exact hbg2)
          go_roundw
          case rel => exact ⟨k + 1, [(lo, hi)], by omega, by simp, by go_num, by simpa [fl, encR] using ho1, hb1, by exact ⟨HN.out.1.symm, HN.out.2⟩⟩
          case measure => simp [intOf]; omega
        · have hlast := hown.cellAt ((O.length - 1) * 2 + 1) (by omega)
          rw [(fl_getD O (O.length - 1) (by omega)).2] at hlast
          have hlb := bdB_last HR.out.2 h0
          have hlast' : wr.cell? ⟨g, (O.length - 1) * 2 + 1, none⟩ = some (.int .i64 (lastOf O).2) := hlast
          clear hlast
          generalize hz : (lastOf O).2 = zh at hlast' hlb
          have HZ : Hid ((lastOf O).2 = zh) := hz
          clear hz
          obtain ⟨hz5, hz6⟩ := hlb
          have h1 : 1 ≤ O.length := by omega
          have hd1 : decide ((1 : Int) ≤ (O.length : Int)) = true := by simp; omega
          by_cases hle : lo ≤ zh + 1
          · have hfz := hown.frozenAt ((O.length - 1) * 2 + 1)
            have hst := step_join (O := O) (g := (lo, hi)) h0 (by rw [HZ.out]; exact hle)
            rw [HZ.out] at hst
            have HST : Hid (mstep O (lo, hi) = O.set (O.length - 1) ((lastOf O).1, max zh hi)) := hst
            clear hst
            go_wp2
            go_quiet (fail)
            go_wp2
            go_region
            all_goals go_wp2
            all_goals go_roundw
            case rel =>
              have hs := (show ((wr.alloc (Obj.cells #[Value.int IntKind.i64 lo, Value.int IntKind.i64 hi] 62)).drewN (nq + 1)).ownsRow w.heap.size 62 2 (.slice (some ⟨g, 0, none⟩) O.length cp) O.length (fl O) from hown.alloc _).stored ((O.length - 1) * 2 + 1) (.int .i64 (max zh hi))
              have hf := fl_set O (O.length - 1) (max zh hi) (by omega)
              refine ⟨k + 1, mstep O (lo, hi), by omega, by omega, by go_num, ?_, ?_, by exact ⟨HN.out.1.symm, HN.out.2⟩⟩
              · rw [HST.out]
                have e : fl (O.set (O.length - 1) ((lastOf O).1, max zh hi)) = (fl O).set ((O.length - 1) * 2 + 1) (.int .i64 (max zh hi)) := hf
                rw [e, List.length_set]
                exact hs.1
              · exact (below_drewN (hbw.alloc hsz2 _) (nq + 1)).setCell (by exact hbg2) _
            case measure => simp [intOf]; omega
          · have hst := step_new (O := O) (g := (lo, hi)) (.inr (by rw [HZ.out]; exact hle))
            rw [hst] at HN hle1
            have hlen : (O ++ [(lo, hi)]).length = O.length + 1 := by simp
            rw [hlen] at hle1
            clear hst hlen
            go_wp2
            go_quiet (fail)
            go_wp2_with (at_builtin; refine wpList_append_own _ rfl (.tmp 41) (.tmp 43) 23 rfl w.heap.size 62 i0 (.agg #[.int .i64 0, .int .i64 0]) 2 16 Tryz.underlying23 hi0 hz0 hz1 hz2 rfl (by decide) (.slice (some ⟨g, 0, none⟩) O.length cp) O.length _ rfl (by exact (show ((wr.alloc _).drewN nq).ownsRow w.heap.size 62 2 _ _ _ from hown.alloc _).alloc _) ⟨wr.heap.size + 1, 0, none⟩ 1 1 [.int .i64 lo, .int .i64 hi] rfl rfl (by exact news_two _ _ _ _ _ (by simp)) (two_cells_int _ _ _) (by unfold maxLen; omega) (by omega) (by simp; omega) ?_; intro v1 w1 ho1 hg1 _)
            have hb1 : Below w.heap.size w w1 := ((below_drewN (hbw.alloc hsz2 _) nq).alloc (by simp; omega) _).grown hg1 (by simp; omega) (fun k hk => by cases hk; exact hbg2)
            go_roundw
            case rel => exact ⟨k + 1, O ++ [(lo, hi)], by omega, by simp; omega, by go_num, by rw [fl_one]; simpa using ho1, hb1, by exact ⟨HN.out.1.symm, HN.out.2⟩⟩
            case measure => simp [intOf]; omega
    · obtain rfl : k = n := by omega
      have hR := HR.out.1
      rw [List.take_of_length_le (by rw [← hn.out]; exact Nat.le_refl _)] at hR
      have HR2 : Hid (O = mergeL L) := hR
      clear hR HR
      go_wp2
      go_ret
      refine ⟨_, rfl, ?_, hbw⟩
      rw [← HR2.out]
      exact hown
end Go.Proofs.YtenanfkmmkmolaaGreatDoor
/- HELPERS: the sort of a row of ranges that the call owns. -/
namespace Go.Proofs.YtenanfkmmkmolaaGreatDoor
open Go.Shelf Go.RowKit Go.Lib Go.Sort Go.Mx
set_option linter.unusedVariables false
set_option linter.unusedSimpArgs false
theorem toArr_get (L : List (Int × Int)) (k : Nat) (h : k < L.length) : (L.toArray)[k]! = L.getD k (0, 0) := by
  simp [h]
theorem flat_get (L : List (Int × Int)) (k : Nat) (h : k < L.length) : (flatK encR 2 L.toArray)[k * 2]! = .int .i64 (L.getD k (0, 0)).1 ∧ (flatK encR 2 L.toArray)[k * 2 + 1]! = .int .i64 (L.getD k (0, 0)).2 := by
  have hs : L.toArray.size = L.length := by simp
  have h1 : k * 2 / 2 = k := by omega
  have h2 : (k * 2 + 1) / 2 = k := by omega
  have h3 : k * 2 % 2 = 0 := by omega
  have h4 : (k * 2 + 1) % 2 = 1 := by omega
  rw [get_flatK encR 2 L.toArray (k * 2) (by rw [hs]; omega), get_flatK encR 2 L.toArray (k * 2 + 1) (by rw [hs]; omega), h1, h2, h3, h4, toArr_get L k h]
  exact ⟨rfl, rfl⟩
theorem holdsK_own {w : World} {N g cap : Nat} {L : List (Int × Int)} (h : w.ownsRow N 62 2 (.slice (some ⟨g, 0, none⟩) L.length cap) L.length (fl L)) : HoldsK encR 2 w g 0 L.toArray := by
  intro j hj
  rw [size_flatK] at hj
  have hs : L.toArray.size = L.length := by simp
  rw [hs] at hj
  refine ⟨?_, by rw [Nat.zero_add]; exact h.frozenAt j⟩
  rw [Nat.zero_add, h.cellAt j hj]
  have hk : j / 2 < L.length := by omega
  have hf := fl_getD L (j / 2) hk
  have hg := flat_get L (j / 2) hk
  rcases (show j = j / 2 * 2 ∨ j = j / 2 * 2 + 1 by omega) with he | he
  · rw [he]
    rw [hf.1, hg.1]; rfl
  · rw [he]
    rw [hf.2, hg.2]; rfl
theorem below_grow {B : Nat} {w0 w : World} (h : Below B w0 w) (hB : B ≤ w.heap.size) (os : Array Obj) : Below B w0 (grow w os) :=
  ⟨h.os, h.tape, h.output, by rw [size_grow]; have := h.size; omega, fun k hk => by rw [heap_grow_old w os (by omega)]; exact h.block k hk⟩
/-- the sort of a row that the call owns: what its cells hold -/
theorem sort_row (N : Nat) (L : List (Int × Int)) (n g cap : Nat) (w : World) (hn : n = L.length) (hown : w.ownsRow N 62 2 (.slice (some ⟨g, 0, none⟩) n cap) n (fl L)) (hsz : n < 4611686018427387904) :
    Calls Tryz.prog 116 #[.slice (some ⟨g, 0, none⟩) n cap, .func (.func 117) #[] #[]] w fun e w' => e = .returned (.tuple #[]) ∧ ∃ D : List (Int × Int), D.Perm L ∧ D.Pairwise (fun x y => x.1 ≤ y.1) ∧
      (∀ k, k < n → w'.cell? ⟨g, 0 + k * 2, none⟩ = some (.int .i64 (D.getD k (0, 0)).1)) ∧ (∀ k, k < n → w'.cell? ⟨g, 0 + k * 2 + 1, none⟩ = some (.int .i64 (D.getD k (0, 0)).2)) ∧ g < w'.heap.size ∧ Below N w w' := by
  subst hn
  have hb : N ≤ g ∧ g < w.heap.size := hown.lt _ rfl
  have hH := holdsK_own hown
  have hs : L.toArray.size = L.length := by simp
  have hc := sort57 g 0 cap L.toArray w hH hb.2 (by rw [hs]; exact hsz)
  rw [hs] at hc
  refine hc.mono ?_
  rintro e w' ⟨rfl, d', m, os, hp, hso, rfl⟩
  obtain ⟨hp1, _, hp3⟩ := hp
  rw [hs] at hp1
  have hD : d'.toList.toArray = d' := by simp
  have hDl : d'.toList.length = L.length := by simpa using hp1
  refine ⟨rfl, d'.toList, ?_, ?_, ?_, ?_, ?_, ?_⟩
  · have e1 : d'.extract 0 L.length = d' := by rw [← hp1]; simp
    have e2 : (L.toArray).extract 0 L.length = L.toArray := by rw [← hs]; simp
    rw [e1, e2] at hp3
    simpa using hp3
  · rw [List.pairwise_iff_getElem]
    intro i j hi hj hij
    have := hso i j (Nat.zero_le _) hij (by omega)
    rw [ltLo] at this
    have gi : d'[i]! = d'.toList[i] := by simp at hi; simp [hi]
    have gj : d'[j]! = d'.toList[j] := by simp at hj; simp [hj]
    rw [gi, gj] at this
    simpa using this
  all_goals unfold sortWorldK putRowK
  · intro k hk
    rw [cell?_grow _ _ _ (by simpa using hb.2)]
    have h2 := cell?_putRow (id : Value → Value) (Sort.ahead w m) g 0 (flatK encR 2 L.toArray) (flatK encR 2 d') hH (by rw [size_flatK, size_flatK, hs, hp1]) (k * 2) (by rw [size_flatK, hp1]; omega)
    rw [h2, ← hD, (flat_get d'.toList k (by omega)).1, hD]; rfl
  · intro k hk
    rw [cell?_grow _ _ _ (by simpa using hb.2)]
    have h2 := cell?_putRow (id : Value → Value) (Sort.ahead w m) g 0 (flatK encR 2 L.toArray) (flatK encR 2 d') hH (by rw [size_flatK, size_flatK, hs, hp1]) (k * 2 + 1) (by rw [size_flatK, hp1]; omega)
    rw [show 0 + k * 2 + 1 = 0 + (k * 2 + 1) by omega, h2, ← hD, (flat_get d'.toList k (by omega)).2, hD]; rfl
  · simp; omega
  · exact below_grow (below_putRow (Below.refl _ _) hb.1) (by simp; omega) os
set_option maxHeartbeats 1000000 in
set_option maxRecDepth 1000000 in
theorem ins65 (ad : Option Addr) (cap : Nat) (f : Value) (w : World) : Calls Tryz.prog 129 #[.slice ad 0 cap, .int .i64 0, .int .i64 0, f] w fun e w' => e = .returned (.tuple #[]) ∧ w' = w := by
  go_enter Tryz.func129, Tryz.ntmps129
  go_wp2
  refine wp_loop_rounds 1 ?_
  rw [rounds_succ]
  go_wp2
  go_end0
  exact ⟨rfl, rfl⟩
set_option maxHeartbeats 1000000 in
set_option maxRecDepth 1000000 in
theorem pdq63 (ad : Option Addr) (cap : Nat) (l : Int) (f : Value) (w : World) : Calls Tryz.prog 125 #[.slice ad 0 cap, .int .i64 0, .int .i64 0, .int .i64 l, f] w fun e w' => e = .returned (.tuple #[]) ∧ w' = w := by
  go_enter Tryz.func125, Tryz.ntmps125
  go_wp2
  refine wp_loop_rounds 1 ?_
  rw [rounds_succ]
  go_wp2_with (go_at_call 129; refine (ins65 _ _ _ _).mono ?_; rintro e w' ⟨rfl, rfl⟩)
  refine bodyPost_ret (results_none rfl _ _ _) rfl ?_
  exact ⟨rfl, rfl⟩
set_option maxHeartbeats 1000000 in
set_option maxRecDepth 1000000 in
theorem sort_none (ad : Option Addr) (cap : Nat) (w : World) : Calls Tryz.prog 116 #[.slice ad 0 cap, .func (.func 117) #[] #[]] w fun e w' => e = .returned (.tuple #[]) ∧ w' = w := by
  have hl : ∀ W, Calls Tryz.prog 126 #[.int .u64 0] W fun e w' => e = .returned (.int .i64 (Lib.bitLen 0 : Nat)) ∧ w' = W := by
    intro W
    have h := Any.bits_Len (SlLaysF0.n15.bits (P := Tryz.prog) (ρ := Tryz.sortRng_ren) { Tryz.sortRng with }) 0 W (by omega) (by omega)
    exact h
  go_enter Tryz.func116, Tryz.ntmps116
  go_wp2_with (first | (go_at_call 126; refine (hl _).mono ?_; rintro e w' ⟨rfl, rfl⟩) | (go_at_call 125; refine (pdq63 _ _ _ _ _).mono ?_; rintro e w' ⟨rfl, rfl⟩))
  go_end0
  exact ⟨rfl, rfl⟩
end Go.Proofs.YtenanfkmmkmolaaGreatDoor
/- HELPERS: the contract of runes.gather. -/
namespace Go.Proofs.YtenanfkmmkmolaaGreatDoor
open Go.Shelf Go.RowKit Go.Lib Go.Sort Go.Mx
set_option linter.unusedVariables false
set_option linter.unusedSimpArgs false
/-- a slice value whose cells hold ranges, in a block below N -/
def RowAt (N : Nat) (w : World) (v : Value) (L : List (Int × Int)) : Prop := ∃ ad cap, v = .slice ad L.length cap ∧ (L.length = 0 ∨ ∃ b off, ad = some ⟨b, off, none⟩ ∧ b < N ∧
  (∀ k, k < L.length → w.cell? ⟨b, off + k * 2, none⟩ = some (.int .i64 (L.getD k (0, 0)).1)) ∧ (∀ k, k < L.length → w.cell? ⟨b, off + k * 2 + 1, none⟩ = some (.int .i64 (L.getD k (0, 0)).2)))
theorem partsOf_len (g : Int × Int) : (partsOf g).length ≤ 2 := by unfold partsOf; split <;> split <;> simp
def allParts (L : List (Int × Int)) : List (Int × Int) := L.flatMap partsOf
theorem allParts_len (L : List (Int × Int)) : (allParts L).length ≤ 2 * L.length := by
  induction L with
  | nil => simp [allParts]
  | cons a t ih => have := partsOf_len a; simp only [allParts, List.flatMap_cons, List.length_append, List.length_cons] at *; omega
theorem allParts_append (A B : List (Int × Int)) : allParts (A ++ B) = allParts A ++ allParts B := by simp [allParts]
theorem allParts_bd (L : List (Int × Int)) (h : bdB L) : bdB (allParts L) := by
  intro g hg
  simp only [allParts, List.mem_flatMap] at hg
  obtain ⟨a, ha, hg⟩ := hg
  have := h a ha
  unfold partsOf at hg
  rw [List.mem_append] at hg
  rcases hg with hg | hg
  · split at hg
    · simp at hg; subst hg; simp only; omega
    · simp at hg
  · split at hg
    · simp at hg; subst hg; simp only; omega
    · simp at hg
theorem take_snoc' (L : List (Int × Int)) (k : Nat) (h : k < L.length) : L.take (k + 1) = L.take k ++ [L.getD k (0, 0)] := by
  rw [List.take_succ_eq_append_getElem h]; simp [h]
theorem flat_snoc (LL : List (List (Int × Int))) (j : Nat) (h : j < LL.length) : (LL.take (j + 1)).flatten = (LL.take j).flatten ++ LL.getD j [] := by
  rw [List.take_succ_eq_append_getElem h, List.flatten_append]; simp [h]
theorem flat_len (LL : List (List (Int × Int))) (j : Nat) : (LL.take j).flatten.length ≤ LL.flatten.length := by
  have h : LL.flatten = (LL.take j).flatten ++ (LL.drop j).flatten := by rw [← List.flatten_append, List.take_append_drop]
  rw [h, List.length_append]; omega
theorem mergeL_len (D : List (Int × Int)) : (mergeL D).length ≤ D.length := by
  have h : ∀ (L O : List (Int × Int)), (L.foldl mstep O).length ≤ O.length + L.length := by
    intro L
    induction L with
    | nil => intro O; simp
    | cons a t ih => intro O; have h1 := ih (mstep O a); have h2 := mstep_len O a; simp only [List.foldl_cons, List.length_cons] at *; omega
  have := h D []
  simpa [mergeL] using this
set_option maxHeartbeats 1000000 in
set_option maxRecDepth 1000000 in
theorem merge_none (ad : Option Addr) (cap : Nat) (w : World) : Calls Tryz.prog 119 #[.slice ad 0 cap] w fun e w' => e = .returned (.slice none 0 0) ∧ w' = w := by
  go_enter Tryz.func119, Tryz.ntmps119
  go_wp2
  refine wp_loop_rounds 1 ?_
  rw [rounds_succ]
  go_wp2
  go_ret
  exact ⟨rfl, rfl⟩
/-- the tail of gather -/
def GatherEnd (N : Nat) (w w' : World) (e : Ending) (P : List (Int × Int)) : Prop :=
  ∃ D : List (Int × Int), D.Perm P ∧ D.Pairwise (fun x y => x.1 ≤ y.1) ∧ Below N w w' ∧
    (if (mergeL D).length ≤ 5000 then ∃ v, e = .returned (.tuple #[v, .int .i64 0]) ∧ w'.ownsRow N 62 2 v (mergeL D).length (fl (mergeL D)) else e = .returned (.tuple #[.slice none 0 0, .int .i64 3]))
set_option maxHeartbeats 2000000 in
set_option maxRecDepth 1000000 in
theorem gather47 (LL : List (List (Int × Int))) (lb loff m lcap S : Nat) (w : World) (hm : Hid (m = LL.length)) (hS : Hid (LL.flatten.length ≤ S)) (hS2 : S ≤ 2199023255552) (hm2 : m ≤ 1000000)
    (hB : Hid (bdB LL.flatten)) (hlb : lb < w.heap.size)
    (hl : Hid (∀ j, j < m → ∃ v, w.cell? ⟨lb, loff + j, none⟩ = some v ∧ RowAt w.heap.size w v (LL.getD j []))) :
    Calls Tryz.prog 106 #[.slice (some ⟨lb, loff, none⟩) m lcap] w fun e w' => GatherEnd w.heap.size w w' e (allParts LL.flatten) := by
  go_enter Tryz.func106, Tryz.ntmps106
  go_wp2
  go_loopw [4, 12] (fun v i wr => ∃ (j : Nat) (n : Nat) (P : List (Int × Int)), j ≤ m ∧ n ≤ 2 * S ∧ i = .int .i64 j ∧ wr.ownsRow w.heap.size 62 2 v n (fl P) ∧ Below w.heap.size w wr ∧ Hid (P = allParts (LL.take j).flatten ∧ n = P.length))
    (fun _ i _ => m - (intOf i).toNat)
  case atStart => exact ⟨0, 0, [], by omega, by omega, rfl, World.ownsRow_nil _ _ _ _, Below.refl _ _, by exact ⟨by simp [allParts], rfl⟩⟩
  case round =>
    obtain ⟨j, n, P, hj, hn, rfl, hown, hbw, HR⟩ := hrel
    have hsz := hbw.size
    by_cases hlt : j < m
    · obtain ⟨v1, hv1, ad, cp, rfl, hrow⟩ := hl.out j hlt
      have hc := (hbw.cell (p := ⟨lb, loff + j, none⟩) hlb).trans hv1
      have hsn := flat_snoc LL j (by rw [← hm.out]; exact hlt)
      have hfl := flat_len LL (j + 1)
      rw [hsn, List.length_append] at hfl
      have hpl := allParts_len (LL.take j).flatten
      rw [← HR.out.1, ← HR.out.2] at hpl
      have hSo := hS.out
      generalize hL : LL.getD j [] = L at *
      have HL : Hid (LL.getD j [] = L) := hL
      have hq : Hid ((LL.take (j + 1)).flatten = (LL.take j).flatten ++ L) := hsn
      clear hL hsn hv1
      generalize hlen : L.length = len at *
      have HLEN : Hid (L.length = len) := hlen
      clear hlen
      generalize hfn : (LL.take j).flatten.length = fn at *
      generalize hft : LL.flatten.length = ft at *
      clear hfn hft
      go_wp2
      go_loopw [4, 18] (fun v i wr => ∃ (k : Nat) (n : Nat) (P : List (Int × Int)), k ≤ len ∧ n ≤ 2 * fn + 2 * k ∧ i = .int .i64 k ∧ wr.ownsRow w.heap.size 62 2 v n (fl P) ∧ Below w.heap.size w wr ∧ Hid (P = allParts ((LL.take j).flatten ++ L.take k) ∧ n = P.length))
        (fun _ i _ => len - (intOf i).toNat)
      case atStart => exact ⟨0, n, P, by omega, by omega, rfl, hown, hbw, by exact ⟨by rw [HR.out.1]; simp, HR.out.2⟩⟩
      case round =>
        clear hown hbw HR hsz
        obtain ⟨k, n, P, hk, hn, rfl, hown, hbw, HR⟩ := hrel
        have hsz := hbw.size
        by_cases hlt2 : k < len
        · obtain ⟨b, off, rfl, hbN, hc0, hc1⟩ := hrow.resolve_left (by omega)
          have d0 := (hbw.cell (p := ⟨b, off + k * 2, none⟩) hbN).trans (hc0 k (by omega))
          have d1 := (hbw.cell (p := ⟨b, off + k * 2 + 1, none⟩) hbN).trans (hc1 k (by omega))
          have hts := take_snoc' L k (by rw [HLEN.out]; exact hlt2)
          generalize L.getD k (0, 0) = g at d0 d1 hts
          obtain ⟨lo, hi⟩ := g
          simp only at d0 d1
          have HTS : Hid (L.take (k + 1) = L.take k ++ [(lo, hi)]) := hts
          have hpl2 := partsOf_len (lo, hi)
          clear hts hc0 hc1 hrow
          have hcall := parts56 w.heap.size P n (lo := lo) (hi := hi) (w := wr.alloc (.cells #[.int .i64 lo, .int .i64 hi] 62)) _ (hown.alloc _) (by simp; omega) (by omega)
          go_wp2_with (go_at_call 115; refine hcall.mono ?_; rintro e w' ⟨v', rfl, ho, hb2⟩)
          have hb3 : Below w.heap.size w w' := (hbw.alloc hsz _).trans hb2
          go_roundw
          case rel =>
            refine ⟨k + 1, n + (partsOf (lo, hi)).length, P ++ partsOf (lo, hi), by omega, by omega, by go_num, ho, hb3, ?_⟩
            exact ⟨by rw [HTS.out, ← List.append_assoc, allParts_append, ← HR.out.1]; simp [allParts], by rw [List.length_append, ← HR.out.2]⟩
          case measure => simp [intOf]; omega
        · obtain rfl : k = len := by omega
          go_wp2
          go_roundw
          case rel =>
            refine ⟨j + 1, n, P, by omega, by omega, by go_num, hown, hbw, ?_⟩
            refine ⟨?_, HR.out.2⟩
            rw [hq.out, HR.out.1, ← HLEN.out, List.take_length]
          case measure => simp [intOf]; omega
    · obtain rfl : j = m := by omega
      have hP : P = allParts LL.flatten := by rw [HR.out.1, List.take_of_length_le (by rw [← hm.out]; exact Nat.le_refl _)]
      have HP : Hid (P = allParts LL.flatten) := hP
      have HPn : Hid (n = P.length) := HR.out.2
      have hPB : Hid (bdB P) := by rw [hP]; exact allParts_bd _ hB.out
      clear hP HR
      rcases Joins.ownsRow_forms hown with ⟨rfl, h0⟩ | ⟨g, cp, rfl⟩
      · have hP0 : P = [] := List.eq_nil_of_length_eq_zero (by rw [← HPn.out]; exact h0)
        have hEnd : ∀ e W, e = Ending.returned (.tuple #[.slice none 0 0, .int .i64 0]) → W = wr → GatherEnd w.heap.size w W e (allParts LL.flatten) := by
          intro e W he hW
          subst hW
          rw [← HP.out, hP0]
          exact ⟨[], List.Perm.refl _, List.Pairwise.nil, hbw, by rw [if_pos (by simp [mergeL])]; exact ⟨_, he, World.ownsRow_nil _ _ _ _⟩⟩
        clear hP0
        go_wp2_with (first | (go_at_call 116; refine (sort_none _ _ _).mono ?_; rintro e w' ⟨rfl, rfl⟩) | (go_at_call 119; refine (merge_none _ _ _).mono ?_; rintro e w' ⟨rfl, rfl⟩))
        go_ret2
        exact hEnd _ _ rfl rfl
      · by_cases h0 : n = 0
        · have hP0 : P = [] := List.eq_nil_of_length_eq_zero (by rw [← HPn.out]; exact h0)
          have hEnd : ∀ e W, e = Ending.returned (.tuple #[.slice none 0 0, .int .i64 0]) → W = wr → GatherEnd w.heap.size w W e (allParts LL.flatten) := by
            intro e W he hW
            subst hW
            rw [← HP.out, hP0]
            exact ⟨[], List.Perm.refl _, List.Pairwise.nil, hbw, by rw [if_pos (by simp [mergeL])]; exact ⟨_, he, World.ownsRow_nil _ _ _ _⟩⟩
          clear hP0
          subst h0
          go_wp2_with (first | (go_at_call 116; refine (sort_none _ _ _).mono ?_; rintro e w' ⟨rfl, rfl⟩) | (go_at_call 119; refine (merge_none _ _ _).mono ?_; rintro e w' ⟨rfl, rfl⟩))
          go_ret2
          exact hEnd _ _ rfl rfl
        · have hsort := sort_row w.heap.size P n g cp wr HPn.out hown (by omega)
          go_wp2_with (go_at_call 116; refine hsort.mono ?_; rintro e w1 ⟨rfl, D, hp, hso, hc0, hc1, hg1, hb1⟩)
          have hDn : Hid (n = D.length) := by rw [HPn.out]; exact hp.length_eq.symm
          have hDB : Hid (bdB D) := fun x hx => hPB.out x (hp.mem_iff.1 hx)
          have hbw1 := hbw.trans hb1
          have hsz1 := hbw1.size
          refine (merge59 D g 0 n cp w1 hDn (by omega) hDB hc0 hc1 hg1).mono ?_
          rintro e w2 ⟨v2, rfl, ho2, hb2⟩
          have hbw2 := hbw1.trans (hb2.mono hsz1)
          have ho3 := Joins.ownsRow_le ho2 hsz1
          have hD2 : D.Perm (allParts LL.flatten) := by rw [← HP.out]; exact hp
          have hEnd : ∀ e, (if (mergeL D).length ≤ 5000 then ∃ v, e = Ending.returned (.tuple #[v, .int .i64 0]) ∧ w2.ownsRow w.heap.size 62 2 v (mergeL D).length (fl (mergeL D)) else e = .returned (.tuple #[.slice none 0 0, .int .i64 3])) → GatherEnd w.heap.size w w2 e (allParts LL.flatten) :=
            fun e h => ⟨D, hD2, hso, hbw2, h⟩
          have hql : (mergeL D).length ≤ 1000000000000000 := by have := mergeL_len D; rw [← hDn.out] at this; omega
          clear hc0 hc1 hb1 hb2 ho2 hsort hown hbw
          generalize hq : (mergeL D).length = q at hEnd ho3 hql
          have Hq : Hid ((mergeL D).length = q) := hq
          clear hq
          by_cases h5 : q ≤ 5000
          · rcases Joins.ownsRow_forms ho3 with ⟨rfl, h6⟩ | ⟨g2, cp2, rfl⟩
            · have hE := hEnd (Ending.returned (.tuple #[.slice none 0 0, .int .i64 0])) (by rw [if_pos h5]; exact ⟨_, rfl, ho3⟩)
              have HE : Hid (GatherEnd w.heap.size w w2 (Ending.returned (.tuple #[.slice none 0 0, .int .i64 0])) (allParts LL.flatten)) := hE
              clear hE hEnd
              go_wp2
              go_ret2
              exact HE.out
            · have hE := hEnd (Ending.returned (.tuple #[.slice (some ⟨g2, 0, none⟩) q cp2, .int .i64 0])) (by rw [if_pos h5]; exact ⟨_, rfl, ho3⟩)
              have HE : Hid (GatherEnd w.heap.size w w2 (Ending.returned (.tuple #[.slice (some ⟨g2, 0, none⟩) q cp2, .int .i64 0])) (allParts LL.flatten)) := hE
              clear hE hEnd
              go_wp2
              go_ret2
              exact HE.out
          · have hE := hEnd (Ending.returned (.tuple #[.slice none 0 0, .int .i64 3])) (by rw [if_neg h5])
            have HE : Hid (GatherEnd w.heap.size w w2 (Ending.returned (.tuple #[.slice none 0 0, .int .i64 3])) (allParts LL.flatten)) := hE
            clear hE hEnd
            rcases Joins.ownsRow_forms ho3 with ⟨rfl, h6⟩ | ⟨g2, cp2, rfl⟩
            · omega
            · go_wp2
              go_ret2
              exact HE.out
end Go.Proofs.YtenanfkmmkmolaaGreatDoor
/- HELPERS: the contract of runes.Norm. -/
namespace Go.Proofs.YtenanfkmmkmolaaGreatDoor
open Go.Shelf Go.RowKit Go.Lib Go.Sort Go.Mx
set_option linter.unusedVariables false
set_option linter.unusedSimpArgs false
theorem RowAt.below {N N' B : Nat} {w w' : World} {v : Value} {L : List (Int × Int)} (h : RowAt N w v L) (hb : Below B w w') (hB : N ≤ B) (hN : N ≤ N') : RowAt N' w' v L := by
  obtain ⟨ad, cap, hv, h | ⟨b, off, ha, hbN, h0, h1⟩⟩ := h
  · exact ⟨ad, cap, hv, .inl h⟩
  · exact ⟨ad, cap, hv, .inr ⟨b, off, ha, by omega, fun k hk => (hb.cell (p := ⟨b, off + k * 2, none⟩) (by show b < B; omega)).trans (h0 k hk), fun k hk => (hb.cell (p := ⟨b, off + k * 2 + 1, none⟩) (by show b < B; omega)).trans (h1 k hk)⟩⟩
theorem GatherEnd.low {N N' : Nat} {w0 w w' : World} {e : Ending} {P : List (Int × Int)} (h : GatherEnd N w w' e P) (hb : Below N' w0 w) (hN : N' ≤ N) : GatherEnd N' w0 w' e P := by
  obtain ⟨D, h1, h2, h3, h4⟩ := h
  refine ⟨D, h1, h2, hb.trans (h3.mono hN), ?_⟩
  split
  · rename_i h5
    rw [if_pos h5] at h4
    obtain ⟨v, hv, ho⟩ := h4
    exact ⟨v, hv, Joins.ownsRow_le ho hN⟩
  · rename_i h5
    rwa [if_neg h5] at h4
theorem GatherEnd.form {N : Nat} {w w' : World} {e : Ending} {P : List (Int × Int)} (h : GatherEnd N w w' e P) : ∃ v c, e = .returned (.tuple #[v, .int .i64 c]) := by
  obtain ⟨D, h1, h2, h3, h4⟩ := h
  split at h4
  · obtain ⟨v, hv, _⟩ := h4; exact ⟨v, 0, hv⟩
  · exact ⟨_, 3, h4⟩
def okR (g : Int × Int) : Bool := decide (0 ≤ g.1 ∧ g.1 ≤ g.2 ∧ g.2 ≤ 1114111)
theorem all_take_snoc (L : List (Int × Int)) (k : Nat) (h : k < L.length) : (L.take (k + 1)).all okR = ((L.take k).all okR && okR (L.getD k (0, 0))) := by
  rw [take_snoc' L k h, List.all_append]; simp
theorem all_bad (L : List (Int × Int)) (k : Nat) (h : k < L.length) (hb : okR (L.getD k (0, 0)) = false) : L.all okR = false := by
  rw [List.all_eq_false]
  exact ⟨_, getD_mem' L k h, by rw [hb]; simp⟩
theorem ok_bd (L : List (Int × Int)) (h : L.all okR = true) : bdB L := by
  intro g hg
  have := (List.all_eq_true.1 h) g hg
  simp only [okR, decide_eq_true_eq] at this
  omega
def NormEnd (N : Nat) (w w' : World) (e : Ending) (L : List (Int × Int)) : Prop := if L.all okR = true then GatherEnd N w w' e (allParts L) else e = .returned (.tuple #[.slice none 0 0, .int .i64 10]) ∧ Below N w w'
theorem NormEnd.bad {N : Nat} {w w' : World} {L : List (Int × Int)} (h : L.all okR = false) (hb : Below N w w') : NormEnd N w w' (.returned (.tuple #[.slice none 0 0, .int .i64 10])) L := by
  unfold NormEnd; rw [if_neg (by rw [h]; simp)]; exact ⟨rfl, hb⟩
theorem NormEnd.ok {N : Nat} {w w' : World} {e : Ending} {L : List (Int × Int)} (h : L.all okR = true) (hg : GatherEnd N w w' e (allParts L)) : NormEnd N w w' e L := by
  unfold NormEnd; rw [if_pos h]; exact hg
set_option maxHeartbeats 2000000 in
set_option maxRecDepth 1000000 in
theorem norm26 (L : List (Int × Int)) (ad : Option Addr) (n cap : Nat) (w : World) (hn : Hid (n = L.length)) (hS : n ≤ 2199023255552)
    (hl : Hid (RowAt w.heap.size w (.slice ad n cap) L)) :
    Calls Tryz.prog 90 #[.slice ad n cap] w fun e w' => NormEnd w.heap.size w w' e L := by
  go_enter Tryz.func90, Tryz.ntmps90
  go_wp2
  go_loopw [8] (fun i wr => ∃ (k : Nat), k ≤ n ∧ i = .int .i64 k ∧ Below w.heap.size w wr ∧ Hid ((L.take k).all okR = true))
    (fun i _ => n - (intOf i).toNat)
  case atStart => exact ⟨0, by omega, rfl, Below.refl _ _, by exact rfl⟩
  case round =>
    obtain ⟨k, hk, rfl, hbw, HR⟩ := hrel
    have hsz := hbw.size
    by_cases hlt : k < n
    · obtain ⟨ad', cap', he, h | ⟨b, off, rfl, hbN, hc0, hc1⟩⟩ := hl.out
      · exact absurd h (by rw [← hn.out]; omega)
      · have hn' := hn.out
        simp only [Value.slice.injEq] at he
        obtain ⟨rfl, -, rfl⟩ := he
        have d0 := (hbw.cell (p := ⟨b, off + k * 2, none⟩) hbN).trans (hc0 k (by omega))
        have d1 := (hbw.cell (p := ⟨b, off + k * 2 + 1, none⟩) hbN).trans (hc1 k (by omega))
        have hts := all_take_snoc L k (by omega)
        have hbad := all_bad L k (by omega)
        generalize L.getD k (0, 0) = g at d0 d1 hts hbad
        obtain ⟨lo, hi⟩ := g
        simp only at d0 d1
        have HTS : Hid ((L.take (k + 1)).all okR = ((L.take k).all okR && okR (lo, hi))) := hts
        have HBAD : Hid (okR (lo, hi) = false → L.all okR = false) := hbad
        clear hts hbad hc0 hc1 hn'
        by_cases hg : 0 ≤ lo ∧ lo ≤ hi ∧ hi ≤ 1114111
        · obtain ⟨g1, g2, g3⟩ := hg
          go_wp2
          go_roundw
          case rel =>
            refine ⟨k + 1, by omega, by go_num, hbw.alloc hsz _, ?_⟩
            exact (by rw [HTS.out, HR.out]; simp [okR]; omega : (L.take (k + 1)).all okR = true)
          case measure => simp [intOf]; omega
        · have hE : Hid (L.all okR = false) := HBAD.out (by simp [okR]; omega)
          go_wp2
          all_goals first | (exfalso; omega) | skip
          all_goals go_ret2
          all_goals exact NormEnd.bad hE.out (hbw.alloc hsz _)
    · obtain rfl : k = n := by omega
      have hall : L.all okR = true := by
        have := HR.out
        rwa [List.take_of_length_le (by rw [← hn.out]; exact Nat.le_refl _)] at this
      have HALL : Hid (L.all okR = true) := hall
      clear HR hall
      have hfl : [L].flatten = L := by simp
      have hcell : (wr.alloc (.cells #[.slice ad k cap] 23)).cell? ⟨wr.heap.size, 0 + 0, none⟩ = some (.slice ad k cap) := (World.cell?_alloc_at _ _ _ 0 rfl).trans rfl
      have hrow : RowAt (wr.alloc (.cells #[.slice ad k cap] 23)).heap.size (wr.alloc (.cells #[.slice ad k cap] 23)) (.slice ad k cap) L := hl.out.below (hbw.alloc hsz _) (Nat.le_refl _) (by simp; omega)
      have hg := gather47 [L] wr.heap.size 0 1 1 k (wr.alloc (.cells #[.slice ad k cap] 23)) rfl (by show ([L].flatten).length ≤ k; rw [hfl, ← hn.out]; exact Nat.le_refl _) hS (by omega) (by show bdB [L].flatten; rw [hfl]; exact ok_bd L HALL.out) (by simp)
        (by intro j hj; obtain rfl : j = 0 := by omega
            exact ⟨_, hcell, hrow⟩)
      rw [hfl] at hg
      clear hcell hrow hfl
      go_wp2_with (go_at_call 106; refine hg.mono ?_; intro e w2 hE; obtain ⟨v2, c2, rfl⟩ := hE.form)
      go_ret2
      exact NormEnd.ok HALL.out (hE.low (hbw.alloc hsz _) (by simp; omega))
end Go.Proofs.YtenanfkmmkmolaaGreatDoor
/- HELPERS: the contract of runes.Right, and of runes.Union. -/
namespace Go.Proofs.YtenanfkmmkmolaaGreatDoor
open Go.Shelf Go.RowKit Go.Lib Go.Sort Go.Mx
set_option linter.unusedVariables false
set_option linter.unusedSimpArgs false
def gapB (g : Int × Int) : Bool := decide (g.1 < 55296 ∧ 57343 < g.2)
def okG (least : Int) (g : Int × Int) : Bool := decide (least ≤ g.1) && decide (g.1 ≤ g.2) && dom g.1 && dom g.2 && !gapB g
def rightFrom : Int → List (Int × Int) → Bool
  | _, [] => true
  | least, g :: t => okG least g && rightFrom (g.2 + 2) t
def rightB (L : List (Int × Int)) : Bool := decide (L.length ≤ 5000) && rightFrom 0 L
theorem drop_consR (L : List (Int × Int)) (k : Nat) (h : k < L.length) : L.drop k = L.getD k (0, 0) :: L.drop (k + 1) := by
  rw [List.drop_eq_getElem_cons h]; simp [h]
theorem gap46 (lo hi : Int) (w : World) : Calls Tryz.prog 114 #[.agg #[.int .i64 lo, .int .i64 hi]] w fun e w' => e = .returned (.bool (gapB (lo, hi))) ∧ w' = w.alloc (.cells #[.int .i64 lo, .int .i64 hi] 62) := by
  go_enter Tryz.func114, Tryz.ntmps114
  go_wp2
  all_goals go_ret
  all_goals exact ⟨ret_bool (by rw [Bool.eq_iff_iff]; simp [gapB]; omega), rfl⟩
set_option maxHeartbeats 2000000 in
set_option maxRecDepth 1000000 in
theorem right_short (L : List (Int × Int)) (ad : Option Addr) (n cap : Nat) (w : World) (hn : Hid (n = L.length)) (hS : n ≤ 5000) (hl : Hid (RowAt w.heap.size w (.slice ad n cap) L)) :
    Calls Tryz.prog 105 #[.slice ad n cap] w fun e w' => e = .returned (.bool (rightFrom 0 L)) ∧ Below w.heap.size w w' := by
  go_enter Tryz.func105, Tryz.ntmps105
  go_wp2
  go_loopw [3, 11] (fun lv i wr => ∃ (k : Nat) (ls : Int), k ≤ n ∧ 0 ≤ ls ∧ ls ≤ 1114113 ∧ lv = .int .i64 ls ∧ i = .int .i64 k ∧ Below w.heap.size w wr ∧ Hid (rightFrom 0 L = rightFrom ls (L.drop k)))
    (fun _ i _ => n - (intOf i).toNat)
  case atStart => exact ⟨0, 0, by omega, by omega, by omega, rfl, rfl, Below.refl _ _, by exact rfl⟩
  case round =>
    obtain ⟨k, ls, hk, hs0, hs1, rfl, rfl, hbw, HR⟩ := hrel
    have hsz := hbw.size
    by_cases hlt : k < n
    · obtain ⟨ad', cap', he, h | ⟨b, off, rfl, hbN, hc0, hc1⟩⟩ := hl.out
      · exact absurd h (by rw [← hn.out]; omega)
      · have hn' := hn.out
        simp only [Value.slice.injEq] at he
        obtain ⟨rfl, -, rfl⟩ := he
        have d0 := (hbw.cell (p := ⟨b, off + k * 2, none⟩) hbN).trans (hc0 k (by omega))
        have d1 := (hbw.cell (p := ⟨b, off + k * 2 + 1, none⟩) hbN).trans (hc1 k (by omega))
        have hdr := drop_consR L k (by omega)
        have hR := HR.out
        rw [hdr] at hR
        generalize L.getD k (0, 0) = g at d0 d1 hR
        obtain ⟨lo, hi⟩ := g
        simp only at d0 d1
        have HR2 : Hid (rightFrom 0 L = (okG ls (lo, hi) && rightFrom (hi + 2) (L.drop (k + 1)))) := hR
        clear hdr hR HR hc0 hc1 hn'
        have hd0 := dom41 lo
        have hd1 := dom41 hi
        have hgp := gap46 lo hi
        generalize ho : okG ls (lo, hi) = ok at HR2
        have hok : ok = (decide (ls ≤ lo) && decide (lo ≤ hi) && dom lo && dom hi && !gapB (lo, hi)) := ho.symm
        clear ho
        generalize h3 : dom lo = e3 at hd0 hok
        generalize h4 : dom hi = e4 at hd1 hok
        generalize h5 : gapB (lo, hi) = e5 at hgp hok
        have H4 : Hid (dom hi = e4) := h4
        clear h3 h4 h5
        have HOK : Hid (ok = (decide (ls ≤ lo) && decide (lo ≤ hi) && e3 && e4 && !e5)) := hok
        clear hok
        by_cases g1 : ls ≤ lo
        · by_cases g2 : lo ≤ hi
          · cases e3
            · have hE : Hid (rightFrom 0 L = false) := by show rightFrom 0 L = _; rw [HR2.out, HOK.out]; simp
              go_wp2_with (first | (go_at_call_of 41 (.int .i64 lo); refine (hd0 _).mono ?_; rintro e w' ⟨rfl, rfl⟩) | (go_at_call 111; refine (hd0 _).mono ?_; rintro e w' ⟨rfl, rfl⟩))
              go_ret
              exact ⟨ret_bool hE.out.symm, hbw.alloc hsz _⟩
            · cases e4
              · have hE : Hid (rightFrom 0 L = false) := by show rightFrom 0 L = _; rw [HR2.out, HOK.out]; simp
                go_wp2_with fail
                refine (hd0 _).mono ?_
                rintro e w' ⟨rfl, rfl⟩
                go_wp2_with fail
                refine (hd1 _).mono ?_
                rintro e w' ⟨rfl, rfl⟩
                go_wp2
                go_ret
                exact ⟨ret_bool hE.out.symm, hbw.alloc hsz _⟩
              · cases e5
                · have hE : Hid (rightFrom 0 L = rightFrom (hi + 2) (L.drop (k + 1))) := by show rightFrom 0 L = _; rw [HR2.out, HOK.out]; simp [g1, g2]
                  obtain ⟨hh0, hh1⟩ : 0 ≤ hi ∧ hi ≤ 1114111 := by have := H4.out; simp [dom] at this; omega
                  go_wp2_with fail
                  refine (hd0 _).mono ?_
                  rintro e w' ⟨rfl, rfl⟩
                  go_wp2_with fail
                  refine (hd1 _).mono ?_
                  rintro e w' ⟨rfl, rfl⟩
                  go_wp2_with fail
                  refine (hgp _).mono ?_
                  rintro e w' ⟨rfl, rfl⟩
                  go_wp2
                  go_roundw
                  case rel => exact ⟨k + 1, hi + 2, by omega, by omega, by omega, rfl, by go_num, (hbw.alloc hsz _).alloc (by simp; omega) _, hE⟩
                  case measure => simp [intOf]; omega
                · have hE : Hid (rightFrom 0 L = false) := by show rightFrom 0 L = _; rw [HR2.out, HOK.out]; simp
                  go_wp2_with fail
                  refine (hd0 _).mono ?_
                  rintro e w' ⟨rfl, rfl⟩
                  go_wp2_with fail
                  refine (hd1 _).mono ?_
                  rintro e w' ⟨rfl, rfl⟩
                  go_wp2_with fail
                  refine (hgp _).mono ?_
                  rintro e w' ⟨rfl, rfl⟩
                  go_wp2
                  go_ret
                  exact ⟨ret_bool hE.out.symm, (hbw.alloc hsz _).alloc (by simp; omega) _⟩
          · have hE : Hid (rightFrom 0 L = false) := by show rightFrom 0 L = _; rw [HR2.out, HOK.out]; simp [g2]
            clear hd0 hd1 hgp
            go_wp2
            go_ret
            exact ⟨ret_bool hE.out.symm, hbw.alloc hsz _⟩
        · have hE : Hid (rightFrom 0 L = false) := by show rightFrom 0 L = _; rw [HR2.out, HOK.out]; simp [g1]
          clear hd0 hd1 hgp
          go_wp2
          go_ret
          exact ⟨ret_bool hE.out.symm, hbw.alloc hsz _⟩
    · obtain rfl : k = n := by omega
      have hE : Hid (rightFrom 0 L = true) := by
        show rightFrom 0 L = _
        rw [HR.out, List.drop_of_length_le (by rw [← hn.out]; exact Nat.le_refl _)]; rfl
      clear HR
      go_wp2
      go_ret
      exact ⟨ret_bool hE.out.symm, hbw⟩
set_option maxHeartbeats 1000000 in
theorem right_long (L : List (Int × Int)) (ad : Option Addr) (n cap : Nat) (w : World) (hS : 5000 < n) (hS2 : n ≤ 17592186044416) :
    Calls Tryz.prog 105 #[.slice ad n cap] w fun e w' => e = .returned (.bool false) ∧ Below w.heap.size w w' := by
  go_enter Tryz.func105, Tryz.ntmps105
  go_wp2
  go_ret
  exact ⟨rfl, Below.refl _ _⟩
theorem right25 (L : List (Int × Int)) (ad : Option Addr) (n cap : Nat) (w : World) (hn : n = L.length) (hS2 : n ≤ 17592186044416) (hl : RowAt w.heap.size w (.slice ad n cap) L) :
    Calls Tryz.prog 105 #[.slice ad n cap] w fun e w' => e = .returned (.bool (rightB L)) ∧ Below w.heap.size w w' := by
  by_cases h : n ≤ 5000
  · have e : rightB L = rightFrom 0 L := by unfold rightB; rw [← hn]; simp [h]
    rw [e]
    exact right_short L ad n cap w hn h hl
  · have e : rightB L = false := by unfold rightB; rw [← hn]; simp [h]
    rw [e]
    exact right_long L ad n cap w (by omega) hS2
end Go.Proofs.YtenanfkmmkmolaaGreatDoor
/- HELPERS: the contract of runes.Union. -/
namespace Go.Proofs.YtenanfkmmkmolaaGreatDoor
open Go.Shelf Go.RowKit Go.Lib Go.Sort Go.Mx
set_option linter.unusedVariables false
set_option linter.unusedSimpArgs false
theorem rightFrom_bd (L : List (Int × Int)) : ∀ ls, rightFrom ls L = true → bdB L := by
  induction L with
  | nil => intro ls _ g hg; simp at hg
  | cons a t ih =>
    intro ls h
    simp only [rightFrom, okG, Bool.and_eq_true] at h
    have hd := h.1.1.2
    intro g hg
    rcases List.mem_cons.1 hg with rfl | hg
    · simp [dom] at hd; omega
    · exact ih _ h.2 g hg
theorem rightB_bd {L : List (Int × Int)} (h : rightB L = true) : bdB L := by
  unfold rightB at h
  rw [Bool.and_eq_true] at h
  exact rightFrom_bd L 0 h.2
theorem rightB_len {L : List (Int × Int)} (h : rightB L = true) : L.length ≤ 5000 := by
  unfold rightB at h
  rw [Bool.and_eq_true] at h
  exact of_decide_eq_true h.1
theorem bdB_append {A B : List (Int × Int)} (ha : bdB A) (hb : bdB B) : bdB (A ++ B) := by
  intro g hg
  rcases List.mem_append.1 hg with h | h
  · exact ha g h
  · exact hb g h
def UnionEnd (N : Nat) (w w' : World) (e : Ending) (A B : List (Int × Int)) : Prop := if (rightB A && rightB B) = true then GatherEnd N w w' e (allParts (A ++ B)) else e = .returned (.tuple #[.slice none 0 0, .int .i64 10]) ∧ Below N w w'
end Go.Proofs.YtenanfkmmkmolaaGreatDoor
/- HELPERS: the contract of runes.Negate. -/
namespace Go.Proofs.YtenanfkmmkmolaaGreatDoor
open Go.Shelf Go.RowKit Go.Lib Go.Sort Go.Mx
set_option linter.unusedVariables false
set_option linter.unusedSimpArgs false
/-- what lies between ranges, from a number on -/
def negFrom : Int → List (Int × Int) → List (Int × Int)
  | next, [] => if next ≤ 1114111 then [(next, 1114111)] else []
  | next, g :: t => (if next < g.1 then [(next, g.1 - 1)] else []) ++ negFrom (g.2 + 1) t
theorem negFrom_len (L : List (Int × Int)) : ∀ x, (negFrom x L).length ≤ L.length + 1 := by
  induction L with
  | nil => intro x; simp only [negFrom]; split <;> simp
  | cons a t ih => intro x; have := ih (a.2 + 1); simp only [negFrom, List.length_append, List.length_cons]; split <;> simp <;> omega
theorem negFrom_bd (L : List (Int × Int)) : ∀ ls x, rightFrom ls L = true → 0 ≤ x → bdB (negFrom x L) := by
  induction L with
  | nil =>
    intro ls x _ hx g hg
    simp only [negFrom] at hg
    split at hg
    · simp at hg; subst hg; simp
    · simp at hg
  | cons a t ih =>
    intro ls x h hx
    have hd : dom a.1 = true ∧ dom a.2 = true := by simp only [rightFrom, okG, Bool.and_eq_true] at h; exact ⟨h.1.1.1.2, h.1.1.2⟩
    have ht : rightFrom (a.2 + 2) t = true := by simp only [rightFrom, Bool.and_eq_true] at h; exact h.2
    have h0 := hd.1
    have h1 := hd.2
    simp [dom] at h0 h1
    intro g hg
    simp only [negFrom, List.mem_append] at hg
    rcases hg with hg | hg
    · split at hg
      · simp at hg; subst hg; simp only; omega
      · simp at hg
    · exact ih _ _ ht (by omega) g hg
def NegEnd (N : Nat) (w w' : World) (e : Ending) (L : List (Int × Int)) : Prop := if rightB L = true then GatherEnd N w w' e (allParts (negFrom 0 L)) else e = .returned (.tuple #[.slice none 0 0, .int .i64 10]) ∧ Below N w w'
theorem right_at (L : List (Int × Int)) : ∀ (ls : Int) (k : Nat), rightFrom ls L = true → k < L.length → dom (L.getD k (0, 0)).1 = true ∧ dom (L.getD k (0, 0)).2 = true := by
  induction L with
  | nil => intro ls k _ h; simp at h
  | cons a t ih =>
    intro ls k h hk
    cases k with
    | zero => simp only [rightFrom, okG, Bool.and_eq_true] at h; exact ⟨h.1.1.1.2, h.1.1.2⟩
    | succ k => simp only [rightFrom, Bool.and_eq_true] at h; simpa using ih _ k h.2 (by simpa using hk)
theorem row_own {w : World} {B n : Nat} {v : Value} {L : List (Int × Int)} (hn : n = L.length) (h : w.ownsRow B 62 2 v n (fl L)) : RowAt w.heap.size w v L := by
  subst hn
  rcases Joins.ownsRow_forms h with ⟨rfl, h0⟩ | ⟨g, cap, rfl⟩
  · exact ⟨none, 0, by rw [h0], .inl h0⟩
  · refine ⟨_, cap, rfl, .inr ⟨g, 0, rfl, (h.lt _ rfl).2, fun k hk => ?_, fun k hk => ?_⟩⟩
    · rw [Nat.zero_add, h.cellAt (k * 2) (by omega), (fl_getD L k hk).1]
    · rw [Nat.zero_add, h.cellAt (k * 2 + 1) (by omega), (fl_getD L k hk).2]
/-- gather of one list that the call owns -/
theorem gather_own (L : List (Int × Int)) (v : Value) (n : Nat) (w : World) (B : Nat) (hn : n = L.length) (hS : n ≤ 2199023255552) (ho : w.ownsRow B 62 2 v n (fl L)) (hbd : bdB L) :
    Calls Tryz.prog 106 #[.slice (some ⟨w.heap.size, 0, none⟩) 1 1] (w.alloc (.cells #[v] 23)) fun e w' => GatherEnd (w.alloc (.cells #[v] 23)).heap.size (w.alloc (.cells #[v] 23)) w' e (allParts L) := by
  have hfl : [L].flatten = L := by simp
  have hcell : (w.alloc (.cells #[v] 23)).cell? ⟨w.heap.size, 0 + 0, none⟩ = some v := (World.cell?_alloc_at _ _ _ 0 rfl).trans rfl
  have hrow : RowAt (w.alloc (.cells #[v] 23)).heap.size (w.alloc (.cells #[v] 23)) v L := (row_own hn ho).below ((Below.refl _ _).alloc (Nat.le_refl _) _) (Nat.le_refl _) (by simp)
  have hg := gather47 [L] w.heap.size 0 1 1 n (w.alloc (.cells #[v] 23)) rfl (by show ([L].flatten).length ≤ n; rw [hfl, ← hn]; exact Nat.le_refl _) hS (by omega) (by show bdB [L].flatten; rw [hfl]; exact hbd) (by simp)
    (by intro j hj
        obtain rfl : j = 0 := by omega
        exact ⟨_, hcell, hrow⟩)
  rw [hfl] at hg
  exact hg
set_option maxHeartbeats 3000000 in
set_option maxRecDepth 1000000 in
theorem negate_ok (L : List (Int × Int)) (ad : Option Addr) (n cap : Nat) (w : World) (hn : Hid (n = L.length)) (hl : Hid (RowAt w.heap.size w (.slice ad n cap) L)) (hr : Hid (rightB L = true)) :
    Calls Tryz.prog 88 #[.slice ad n cap] w fun e w' => GatherEnd w.heap.size w w' e (allParts (negFrom 0 L)) := by
  have hlen := rightB_len hr.out
  rw [← hn.out] at hlen
  have hr1 := right25 L ad n cap w hn.out (by omega) hl.out
  rw [hr.out] at hr1
  obtain ⟨i0, hi0, hz0, hz1, hz2⟩ := info_parts info57
  go_enter Tryz.func88, Tryz.ntmps88
  go_wp2_with (first | (go_at_call 105; refine hr1.mono ?_; rintro e w1 ⟨rfl, hb1⟩; have hs1 := hb1.size) | (at_make; refine wpList_make_own _ rfl _ (.tmp 13) 23 rfl w.heap.size 62 i0 (.agg #[.int .i64 0, .int .i64 0]) 2 Tryz.underlying23 hi0 hz0 hz1 _ _ _ (n + 1) rfl rfl (by omega) (by rw [hz2]; omega) (by unfold maxLen; omega) hs1 ?_; intro w2 hown2 hgrow2))
  have hb2 : Below w.heap.size w w2 := hb1.grown hgrow2 hs1 (fun k h => by cases h)
  have hs2 := hb2.size
  clear hgrow2 hr1
  go_loopw [4, 5, 17] (fun v nx i wr => ∃ (k m : Nat) (x : Int) (P : List (Int × Int)), k ≤ n ∧ m ≤ k ∧ 0 ≤ x ∧ x ≤ 1114112 ∧ nx = .int .i64 x ∧ i = .int .i64 k ∧ wr.ownsRow w.heap.size 62 2 v m (fl P) ∧ Below w.heap.size w wr ∧ Hid (P ++ negFrom x (L.drop k) = negFrom 0 L ∧ m = P.length))
    (fun _ _ i _ => n - (intOf i).toNat)
  case atStart => exact ⟨0, 0, 0, [], by omega, by omega, by omega, by omega, rfl, rfl, hown2, hb2, by exact ⟨rfl, rfl⟩⟩
  case round =>
    obtain ⟨k, m, x, P, hk, hm, hx0, hx1, rfl, rfl, hown, hbw, HR⟩ := hrel
    have hsz := hbw.size
    by_cases hlt : k < n
    · obtain ⟨ad', cap', he, h | ⟨b, off, rfl, hbN, hc0, hc1⟩⟩ := hl.out
      · exact absurd h (by rw [← hn.out]; omega)
      · have hn' := hn.out
        simp only [Value.slice.injEq] at he
        obtain ⟨rfl, -, rfl⟩ := he
        have d0 := (hbw.cell (p := ⟨b, off + k * 2, none⟩) hbN).trans (hc0 k (by omega))
        have d1 := (hbw.cell (p := ⟨b, off + k * 2 + 1, none⟩) hbN).trans (hc1 k (by omega))
        have hdr := drop_consR L k (by omega)
        have hdm := right_at L 0 k (by have := hr.out; unfold rightB at this; rw [Bool.and_eq_true] at this; exact this.2) (by omega)
        have hR := HR.out
        rw [hdr] at hR
        generalize L.getD k (0, 0) = g at d0 d1 hR hdm
        obtain ⟨lo, hi⟩ := g
        simp only at d0 d1 hdm
        obtain ⟨hl0, hl1⟩ : 0 ≤ lo ∧ lo ≤ 1114111 := by have := hdm.1; simp [dom] at this; omega
        obtain ⟨hh0, hh1⟩ : 0 ≤ hi ∧ hi ≤ 1114111 := by have := hdm.2; simp [dom] at this; omega
        have HR2 : Hid (P ++ ((if x < lo then [(x, lo - 1)] else []) ++ negFrom (hi + 1) (L.drop (k + 1))) = negFrom 0 L ∧ m = P.length) := hR
        clear hdr hR HR hc0 hc1 hn' hdm
        by_cases hxl : x < lo
        · have hR3 := HR2.out
          rw [if_pos hxl] at hR3
          have HR3 : Hid (P ++ [(x, lo - 1)] ++ negFrom (hi + 1) (L.drop (k + 1)) = negFrom 0 L ∧ m = P.length) := ⟨by rw [List.append_assoc]; exact hR3.1, hR3.2⟩
          clear hR3
          go_wp2_with (at_builtin; refine wpList_append_own _ rfl (.tmp 25) (.tmp 31) 23 rfl w.heap.size 62 i0 (.agg #[.int .i64 0, .int .i64 0]) 2 16 Tryz.underlying23 hi0 hz0 hz1 hz2 rfl (by decide) _ m _ rfl ((hown.alloc _).alloc _) ⟨wr.heap.size + 1, 0, none⟩ 1 1 [.int .i64 x, .int .i64 (lo - 1)] rfl rfl (by exact news_two _ _ _ _ _ (by simp)) (two_cells_int _ _ _) (by unfold maxLen; omega) (by omega) (by simp; omega) ?_; intro v1 w3 ho3 hg3 _; obtain ⟨c0, c1⟩ := box_kept hown hg3; have hb3 := hbw.trans (below_append hown hsz hg3); clear hg3)
          go_roundw
          case rel => exact ⟨k + 1, m + 1, hi + 1, P ++ [(x, lo - 1)], by omega, by omega, by omega, by omega, rfl, by go_num, by rw [fl_one]; exact ho3, hb3, by exact ⟨HR3.out.1, by rw [List.length_append, ← HR3.out.2]; rfl⟩⟩
          case measure => simp [intOf]; omega
        · have hR3 := HR2.out
          rw [if_neg hxl] at hR3
          have HR3 : Hid (P ++ negFrom (hi + 1) (L.drop (k + 1)) = negFrom 0 L ∧ m = P.length) := hR3
          clear hR3
          go_wp2
          go_roundw
          case rel => exact ⟨k + 1, m, hi + 1, P, by omega, by omega, by omega, by omega, rfl, by go_num, hown.alloc _, hbw.alloc hsz _, HR3⟩
          case measure => simp [intOf]; omega
    · obtain rfl : k = n := by omega
      have hR := HR.out
      rw [List.drop_of_length_le (by rw [← hn.out]; exact Nat.le_refl _)] at hR
      have hbd : bdB (negFrom 0 L) := negFrom_bd L 0 0 (by have := hr.out; unfold rightB at this; rw [Bool.and_eq_true] at this; exact this.2) (by omega)
      have hnl := negFrom_len L 0
      rw [← hn.out] at hnl
      have HR2 : Hid (P ++ (if x ≤ 1114111 then [(x, 1114111)] else []) = negFrom 0 L ∧ m = P.length) := hR
      have HBD : Hid (bdB (negFrom 0 L)) := hbd
      clear hR HR hbd
      by_cases hxm : x ≤ 1114111
      · have hR3 := HR2.out
        rw [if_pos hxm] at hR3
        have HR3 : Hid (P ++ [(x, 1114111)] = negFrom 0 L ∧ m = P.length) := hR3
        clear hR3
        go_wp2_with (at_builtin; refine wpList_append_own _ rfl (.tmp 39) (.tmp 42) 23 rfl w.heap.size 62 i0 (.agg #[.int .i64 0, .int .i64 0]) 2 16 Tryz.underlying23 hi0 hz0 hz1 hz2 rfl (by decide) _ m _ rfl (hown.alloc _) ⟨wr.heap.size, 0, none⟩ 1 1 [.int .i64 x, .int .i64 1114111] rfl rfl (by exact news_two _ _ _ _ _ rfl) (two_cells_int _ _ _) (by unfold maxLen; omega) (by omega) (by simp; omega) ?_; intro v1 w3 ho3 hg3 _; obtain ⟨g1, cp1, rfl⟩ := Joins.ownsRow_form ho3 (by omega); have hb3 := hbw.trans (below_append1 hown hsz hg3); clear hg3)
        have hs3 := hb3.size
        have ho4 : w3.ownsRow w.heap.size 62 2 (.slice (some ⟨g1, 0, none⟩) (m + 1) cp1) (m + 1) (fl (negFrom 0 L)) := by rw [← HR3.out.1, fl_one]; exact ho3
        have hml : m + 1 = (negFrom 0 L).length := by rw [← HR3.out.1, List.length_append, ← HR3.out.2]; rfl
        have hg := gather_own (negFrom 0 L) _ (m + 1) w3 w.heap.size hml (by omega) ho4 HBD.out
        clear ho3 ho4 hml
        refine hg.mono ?_
        intro e w4 hG
        obtain ⟨v4, c4, rfl⟩ := hG.form
        go_wp2
        go_ret2
        exact hG.low (hb3.alloc hs3 _) (by simp; omega)
      · have hR3 := HR2.out
        rw [if_neg hxm, List.append_nil] at hR3
        have hml : m = (negFrom 0 L).length := by rw [← hR3.1]; exact hR3.2
        rcases Joins.ownsRow_forms hown with ⟨rfl, h0⟩ | ⟨g1, cp1, rfl⟩
        · have hg := gather_own (negFrom 0 L) _ m wr w.heap.size hml (by omega) (by rw [← hR3.1]; exact hown) HBD.out
          clear hml hR3
          go_wp2_with (go_at_call 106; refine hg.mono ?_; intro e w4 hG; obtain ⟨v4, c4, rfl⟩ := hG.form)
          go_ret2
          exact hG.low (hbw.alloc hsz _) (by simp; omega)
        · have hg := gather_own (negFrom 0 L) _ m wr w.heap.size hml (by omega) (by rw [← hR3.1]; exact hown) HBD.out
          clear hml hR3
          go_wp2_with (go_at_call 106; refine hg.mono ?_; intro e w4 hG; obtain ⟨v4, c4, rfl⟩ := hG.form)
          go_ret2
          exact hG.low (hbw.alloc hsz _) (by simp; omega)
set_option maxHeartbeats 1000000 in
theorem negate_bad (L : List (Int × Int)) (ad : Option Addr) (n cap : Nat) (w : World) (hn : Hid (n = L.length)) (hS2 : n ≤ 17592186044416) (hl : Hid (RowAt w.heap.size w (.slice ad n cap) L)) (hr : Hid (rightB L = false)) :
    Calls Tryz.prog 88 #[.slice ad n cap] w fun e w' => e = .returned (.tuple #[.slice none 0 0, .int .i64 10]) ∧ Below w.heap.size w w' := by
  have hr1 := right25 L ad n cap w hn.out hS2 hl.out
  rw [hr.out] at hr1
  go_enter Tryz.func88, Tryz.ntmps88
  go_wp2_with (go_at_call 105; refine hr1.mono ?_; rintro e w1 ⟨rfl, hb1⟩)
  go_ret2
  exact ⟨rfl, hb1⟩
theorem negate28 (L : List (Int × Int)) (ad : Option Addr) (n cap : Nat) (w : World) (hn : n = L.length) (hS2 : n ≤ 17592186044416) (hl : RowAt w.heap.size w (.slice ad n cap) L) :
    Calls Tryz.prog 88 #[.slice ad n cap] w fun e w' => NegEnd w.heap.size w w' e L := by
  unfold NegEnd
  cases hr : rightB L
  · simp only [Bool.false_eq_true, if_false]
    exact negate_bad L ad n cap w hn hS2 hl hr
  · simp only [if_true]
    exact negate_ok L ad n cap w hn hl hr
end Go.Proofs.YtenanfkmmkmolaaGreatDoor
