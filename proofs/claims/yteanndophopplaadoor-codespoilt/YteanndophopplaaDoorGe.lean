/- HELPERS: fields of any operation; what gives up is caught. -/
import Derived.Test.YteanndophopplaaDoorGd
import Derived.Tactics
import Derived.Tactics2
import Derived.Defers
import Derived.Recover
import Derived.Laws.Pointers
import Derived.Stop.Asserts
namespace Go.Proofs.YteanndophopplaaDoor
open Go.RowKit Go.Extern.Stop Go.Stop Go.Extern
set_option linter.unusedVariables false
set_option linter.unusedSimpArgs false
set_option maxRecDepth 100000 in
set_option maxHeartbeats 4000000 in
theorem take_no {α : Type} {f B rb : Nat} {RD : World → List α → Prop} {C : Codec α} (hN : NumR f rb RD C) (hf : Enters f) (hr : Rdr B rb RD) {w : World} {l : List α} {op : Nat} (h : RD w l) (ho : op < 1 ∨ 7 < op) :
    Calls Tryd.prog 51 #[.int .i64 (op : Int), mv f rb] w (TFPost rb RD C op l w) := by
  have hT := (T0.mk' hr h (op : Int)).mo
  have HT := hid hT
  have HO := hid (getF_no (C := C) (L := 5000) (l := l) ho)
  have d1 : ¬ ((op : Int) = 1) := by omega
  have d2 : ¬ ((op : Int) = 2) := by omega
  have d3 : ¬ ((op : Int) = 3) := by omega
  have d4 : ¬ ((op : Int) = 4) := by omega
  have d5 : ¬ ((op : Int) = 5) := by omega
  have d6 : ¬ ((op : Int) = 6) := by omega
  have d7 : ¬ ((op : Int) = 7) := by omega
  have e1 : ((op : Int) == 1) = false := by simp; omega
  have e2 : ((op : Int) == 2) = false := by simp; omega
  have e3 : ((op : Int) == 3) = false := by simp; omega
  have e4 : ((op : Int) == 4) = false := by simp; omega
  have e5 : ((op : Int) == 5) = false := by simp; omega
  have e6 : ((op : Int) == 6) = false := by simp; omega
  have e7 : ((op : Int) == 7) = false := by simp; omega
  clear hT ho h
  go_enter Tryd.func51, Tryd.ntmps51
  go_wp2
  exact ⟨rfl, HT.out, .inl ⟨HO.out, rfl⟩⟩
theorem take51 {α : Type} {f B rb : Nat} {RD : World → List α → Prop} {C : Codec α} (hN : NumR f rb RD C) (hf : Enters f) (hr : Rdr B rb RD) {w : World} {l : List α} (op : Nat) (h : RD w l) :
    Calls Tryd.prog 51 #[.int .i64 (op : Int), mv f rb] w (TFPost rb RD C op l w) := by
  by_cases ho : op < 1 ∨ 7 < op
  · exact take_no hN hf hr h ho
  · obtain rfl | rfl | rfl | rfl | rfl | rfl | rfl : op = 1 ∨ op = 2 ∨ op = 3 ∨ op = 4 ∨ op = 5 ∨ op = 6 ∨ op = 7 := by omega
    · exact take_1 hN hf hr h
    · exact take_2 hN hf hr h
    · exact take_3 hN hf hr h
    · exact take_4 hN hf hr h
    · exact take_5 hN hf hr h
    · exact take_6 hN hf hr h
    · exact take_7 hN hf hr h
/-- what was given up with is known -/
theorem wantBroken31 (w : World) : Calls Tryd.prog 31 #[.iface 77 (.agg #[])] w fun e w' => e = .returned (.tuple #[]) ∧ Below w.heap.size w w' := by
  have hta : ∀ (v : Value) (W : World), (Instr.typeAssert (.iface 77 v) 20 77 true).run Tryd.prog W = .ok (.tuple #[v, .bool true]) W := fun v W => by kernel_rfl
  go_enter Tryd.func31, Tryd.ntmps31
  go_wp2
  go_end0
  exact ⟨rfl, Joins.below_alloc1 w _⟩
/-- nothing of what was there has turned but two blocks -/
structure Fr2 (w w' : World) (a b : Nat) : Prop where
  os : w'.os = w.os
  tape : w'.tape = w.tape
  output : w'.output = w.output
  size : w.heap.size ≤ w'.heap.size
  block : ∀ k, k < w.heap.size → k ≠ a → k ≠ b → w'.heap[k]? = w.heap[k]?
abbrev B3 (w : World) (b : Nat) (v0 v1 v2 : Value) : Prop := w.heap[b]? = some (.cells #[v0, v1, v2] 24 (0, 0))
theorem frz3 {w : World} {b : Nat} {v0 v1 v2 : Value} (h : B3 w b v0 v1 v2) : w.frozen? ⟨b, 0, none⟩ = false ∧ w.frozen? ⟨b, 1, none⟩ = false ∧ w.frozen? ⟨b, 2, none⟩ = false :=
  ⟨Joins.unfrozen_of_block h 0, Joins.unfrozen_of_block h 1, Joins.unfrozen_of_block h 2⟩
theorem all3 {w : World} {b : Nat} {v0 v1 v2 : Value} (h : B3 w b v0 v1 v2) (u0 u1 u2 : Value) : B3 (((w.setCell ⟨b, 0, none⟩ u0).setCell ⟨b, 1, none⟩ u1).setCell ⟨b, 2, none⟩ u2) b u0 u1 u2 :=
  Joins.block_setCell (Joins.block_setCell (Joins.block_setCell h u0) u1) u2
theorem set3_old {w : World} {b k : Nat} (h : k ≠ b) (u0 u1 u2 : Value) : (((w.setCell ⟨b, 0, none⟩ u0).setCell ⟨b, 1, none⟩ u1).setCell ⟨b, 2, none⟩ u2).heap[k]? = w.heap[k]? := by
  rw [Below.heap_setCell _ _ _ _ h, Below.heap_setCell _ _ _ _ h, Below.heap_setCell _ _ _ _ h]
theorem fr2_of {w w1 : World} {tb eb : Nat} {v0 v1 v2 : Value} {ev V : Value} (B1 : Below w.heap.size w w1) (E1 : B3 w1 tb v0 v1 v2) (E2 : w1.heap[eb]? = some (.cells #[ev] 30 (0, 0))) (hne : tb ≠ eb) (u0 u1 u2 : Value) :
    B3 (((((w1.setCell ⟨tb, 0, none⟩ u0).setCell ⟨tb, 1, none⟩ u1).setCell ⟨tb, 2, none⟩ u2)).setCell ⟨eb, 0, none⟩ V) tb u0 u1 u2 ∧ ((((w1.setCell ⟨tb, 0, none⟩ u0).setCell ⟨tb, 1, none⟩ u1).setCell ⟨tb, 2, none⟩ u2).setCell ⟨eb, 0, none⟩ V).heap[eb]? = some (.cells #[V] 30 (0, 0)) ∧ Fr2 w ((((w1.setCell ⟨tb, 0, none⟩ u0).setCell ⟨tb, 1, none⟩ u1).setCell ⟨tb, 2, none⟩ u2).setCell ⟨eb, 0, none⟩ V) tb eb := by
  have a := all3 E1 u0 u1 u2
  have b : (((w1.setCell ⟨tb, 0, none⟩ u0).setCell ⟨tb, 1, none⟩ u1).setCell ⟨tb, 2, none⟩ u2).heap[eb]? = some (.cells #[ev] 30 (0, 0)) := (set3_old (Ne.symm hne) _ _ _).trans E2
  refine ⟨(Below.heap_setCell _ _ _ _ hne).trans a, Joins.block_setCell b V, ⟨B1.os, B1.tape, B1.output, by have := B1.size; simp [World.setCell]; exact this, fun k hk h1 h2 => ?_⟩⟩
  rw [Below.heap_setCell _ _ _ _ h2, set3_old h1]
  exact B1.block k hk
set_option maxHeartbeats 2000000 in
theorem defer35_gave (tb eb : Nat) (v0 v1 v2 ev : Value) (older : List PanicEntry) (w : World) (htb : B3 w tb v0 v1 v2) (heb : w.heap[eb]? = some (.cells #[ev] 30 (0, 0))) (hne : tb ≠ eb) :
    CallsD Tryd.prog 35 #[.pointer (some ⟨tb, 0, none⟩), .pointer (some ⟨eb, 0, none⟩)] (.panicking ({ v := .iface 77 (.agg #[]), recovered := false } :: older)) w fun e u' w' =>
      e = .returned (.tuple #[]) ∧ u' = .panicking ({ v := .iface 77 (.agg #[]), recovered := true } :: older) ∧ B3 w' tb nilS zI zI ∧ w'.heap[eb]? = some (.cells #[.int .i64 101] 30 (0, 0)) ∧ Fr2 w w' tb eb := by
  refine callsD_of_wpS Tryd.func35 rfl fun c₀ cs hu => ?_
  apply wpS_seq
  apply wpS_region
  simp [wpOpsS, go_sem, recoverD, hu, Tryd.ntmps35, Exit.thenS]
  refine wpS_of_wp ?_
  have hfr : ∀ (x y v : Value), (#[x, y] ++ ((Array.replicate 7 undef).setIfInBounds 1 v).setIfInBounds 0 v : Array Value) = #[x, y, v, v, undef, undef, undef, undef, undef] := fun x y v => by
    apply Array.toList_inj.1
    simp [Array.replicate, List.replicate]
  rw [hfr]
  have C1 := wantBroken31 w
  obtain ⟨htl, hel⟩ : tb < w.heap.size ∧ eb < w.heap.size := ⟨(Array.getElem?_eq_some_iff.1 htb).1, (Array.getElem?_eq_some_iff.1 heb).1⟩
  have HNE := hid hne
  have hne1 : tb ≠ eb := hne
  have hne2 : eb ≠ tb := Ne.symm hne
  go_wp2_with (go_at_call 31; (with_reducible refine C1.mono ?_); rintro e w1 ⟨rfl, B1⟩; have E1 : B3 w1 tb v0 v1 v2 := (B1.block tb htl).trans htb; have E2 := (B1.block eb hel).trans heb; obtain ⟨c0, c1, c2⟩ := three_cells E1; obtain ⟨f0, f1, f2⟩ := frz3 E1; have k0 : w1.cell? ⟨eb, 0, none⟩ = some ev := Joins.cell_of_block E2 0; have g0 := Joins.unfrozen_of_block E2 0)
  have F := fr2_of (V := .int .i64 101) B1 E1 E2 hne nilS zI zI
  simp only [bodyPostS, results, Tryd.results35]
  simp
  exact F
set_option maxHeartbeats 2000000 in
theorem defer35_idle (tb eb : Nat) (w : World) :
    CallsD Tryd.prog 35 #[.pointer (some ⟨tb, 0, none⟩), .pointer (some ⟨eb, 0, none⟩)] .returning w fun e u' w' => e = .returned (.tuple #[]) ∧ u' = .returning ∧ w' = w := by
  refine callsD_of_wpS Tryd.func35 rfl fun c₀ cs hu => ?_
  apply wpS_seq
  apply wpS_region
  simp [wpOpsS, go_sem, recoverD, hu, Tryd.ntmps35, Exit.thenS]
  refine wpS_of_wp ?_
  have hfr : ∀ (x y v : Value), (#[x, y] ++ ((Array.replicate 7 undef).setIfInBounds 1 v).setIfInBounds 0 v : Array Value) = #[x, y, v, v, undef, undef, undef, undef, undef] := fun x y v => by
    apply Array.toList_inj.1
    simp [Array.replicate, List.replicate]
  rw [hfr]
  go_wp2
  simp only [bodyPostS, results, Tryd.results35]
  cases c₀
  simp_all
set_option maxHeartbeats 2000000 in
theorem defer30_gave (tb eb : Nat) (v0 v1 v2 ev : Value) (older : List PanicEntry) (w : World) (htb : B3 w tb v0 v1 v2) (heb : w.heap[eb]? = some (.cells #[ev] 30 (0, 0))) (hne : tb ≠ eb) :
    CallsD Tryd.prog 30 #[.pointer (some ⟨tb, 0, none⟩), .pointer (some ⟨eb, 0, none⟩)] (.panicking ({ v := .iface 77 (.agg #[]), recovered := false } :: older)) w fun e u' w' =>
      e = .returned (.tuple #[]) ∧ u' = .panicking ({ v := .iface 77 (.agg #[]), recovered := true } :: older) ∧ B3 w' tb nilS zI zI ∧ w'.heap[eb]? = some (.cells #[.int .i64 100] 30 (0, 0)) ∧ Fr2 w w' tb eb := by
  refine callsD_of_wpS Tryd.func30 rfl fun c₀ cs hu => ?_
  apply wpS_seq
  apply wpS_region
  simp [wpOpsS, go_sem, recoverD, hu, Tryd.ntmps30, Exit.thenS]
  refine wpS_of_wp ?_
  have hfr : ∀ (x y v : Value), (#[x, y] ++ ((Array.replicate 7 undef).setIfInBounds 1 v).setIfInBounds 0 v : Array Value) = #[x, y, v, v, undef, undef, undef, undef, undef] := fun x y v => by
    apply Array.toList_inj.1
    simp [Array.replicate, List.replicate]
  rw [hfr]
  have C1 := wantBroken31 w
  obtain ⟨htl, hel⟩ : tb < w.heap.size ∧ eb < w.heap.size := ⟨(Array.getElem?_eq_some_iff.1 htb).1, (Array.getElem?_eq_some_iff.1 heb).1⟩
  have HNE := hid hne
  have hne1 : tb ≠ eb := hne
  have hne2 : eb ≠ tb := Ne.symm hne
  go_wp2_with (go_at_call 31; (with_reducible refine C1.mono ?_); rintro e w1 ⟨rfl, B1⟩; have E1 : B3 w1 tb v0 v1 v2 := (B1.block tb htl).trans htb; have E2 := (B1.block eb hel).trans heb; obtain ⟨c0, c1, c2⟩ := three_cells E1; obtain ⟨f0, f1, f2⟩ := frz3 E1; have k0 : w1.cell? ⟨eb, 0, none⟩ = some ev := Joins.cell_of_block E2 0; have g0 := Joins.unfrozen_of_block E2 0)
  have F := fr2_of (V := .int .i64 100) B1 E1 E2 hne nilS zI zI
  simp only [bodyPostS, results, Tryd.results30]
  simp
  exact F
set_option maxHeartbeats 2000000 in
theorem defer30_idle (tb eb : Nat) (w : World) :
    CallsD Tryd.prog 30 #[.pointer (some ⟨tb, 0, none⟩), .pointer (some ⟨eb, 0, none⟩)] .returning w fun e u' w' => e = .returned (.tuple #[]) ∧ u' = .returning ∧ w' = w := by
  refine callsD_of_wpS Tryd.func30 rfl fun c₀ cs hu => ?_
  apply wpS_seq
  apply wpS_region
  simp [wpOpsS, go_sem, recoverD, hu, Tryd.ntmps30, Exit.thenS]
  refine wpS_of_wp ?_
  have hfr : ∀ (x y v : Value), (#[x, y] ++ ((Array.replicate 7 undef).setIfInBounds 1 v).setIfInBounds 0 v : Array Value) = #[x, y, v, v, undef, undef, undef, undef, undef] := fun x y v => by
    apply Array.toList_inj.1
    simp [Array.replicate, List.replicate]
  rw [hfr]
  go_wp2
  simp only [bodyPostS, results, Tryd.results30]
  cases c₀
  simp_all
end Go.Proofs.YteanndophopplaaDoor
