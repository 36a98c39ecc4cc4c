/- HELPERS: Load. -/
import Derived.Test.YteanndophopplaaDoorGi
namespace Go.Proofs.YteanndophopplaaDoor
open Go.RowKit Go.Extern.Stop Go.Stop Go.Extern
set_option linter.unusedVariables false
set_option linter.unusedSimpArgs false
theorem res19 (tmps : Array Value) (w : World) (tb eb : Nat) (v0 v1 v2 ev : Value) (h2 : tmps.getD 2 undef = .pointer (some ⟨tb, 0, none⟩)) (h3 : tmps.getD 3 undef = .pointer (some ⟨eb, 0, none⟩)) (ht : B3 w tb v0 v1 v2) (he : w.heap[eb]? = some (.cells #[ev] 30 (0, 0))) :
    (results Tryd.f19 tmps).run Tryd.prog w = .ok (.tuple #[.agg #[v0, v1, v2], ev]) w := by
  have h24 : (Tryd.prog.info? 24).map (fun i => i.size) = some (#[v0, v1, v2] : Array Value).size := by kernel_rfl
  have hl := run_loadVar_row (P := Tryd.prog) w tb 24 24 #[v0, v1, v2] (0, 0) _ ht Tryd.underlying24 rfl h24
  have h2' : tmps[2]?.getD undef = .pointer (some ⟨tb, 0, none⟩) := by simpa using h2
  have h3' : tmps[3]?.getD undef = .pointer (some ⟨eb, 0, none⟩) := by simpa using h3
  have hc := Joins.cell_of_block he 0
  simp at hc
  have hl2 : (loadVar 30 ⟨eb, 0, none⟩).run Tryd.prog w = .ok ev w := by simp [loadVar, isAgg, underlying, Tryd.underlying30, hc, Result.andThen]
  simp [results, Tryd.results19, h2', h3', asAddr, hl, hl2, Result.andThen]
/-- what comes of nothing -/
abbrev noP (code : Int) : Ending := .returned (.tuple #[.agg #[nilS, zI, zI], .int .i64 code])
set_option maxHeartbeats 2000000 in
theorem load19_long {w : World} {ad : Option Addr} {n c : Nat} (h : 8388608 < n) : Calls Tryd.prog 19 #[.slice ad n c] w fun e w' => e = noP 2 ∧ Below w.heap.size w w' := by
  have hb : decide (8388608 < (n : Int)) = true := by simp; omega
  have hb2 : (8388608 : Int) < (n : Int) := by omega
  go_enter_defers Tryd.func19, Tryd.ntmps19
  go_wp2
  refine ⟨_, res19 _ _ w.heap.size (w.heap.size + 1) nilS zI zI (.int .i64 2) rfl rfl ?_ ?_, rfl, ?_⟩
  · exact (heap_alloc_old _ _ (by simp)).trans (heap_alloc_new w _)
  · have := heap_alloc_new (w.alloc (.cells #[nilS, zI, zI] 24)) (.cells #[.int .i64 2] 30)
    simpa using this
  · exact Joins.below_alloc2 w _ _
/-- what is read is no program -/
theorem load19_gave {w : World} {ad : Option Addr} {n c : Nat} (h : ¬ 8388608 < n) (HR : ∀ W, Below w.heap.size w W → Calls Tryd.prog 36 #[.slice ad n c] W fun e w' => e = Broke ∧ Below W.heap.size W w') :
    Calls Tryd.prog 19 #[.slice ad n c] w fun e w' => e = noP 101 ∧ Below w.heap.size w w' := by
  have hb : decide (8388608 < (n : Int)) = false := by simp; omega
  have hb2 : ¬ (8388608 : Int) < (n : Int) := by omega
  have hmf : ∀ (fn : Fn) (first cap : Array Value) (w : World), (Instr.makeFunc fn first cap).run Tryd.prog w = .ok (.func fn first cap) w := fun _ _ _ _ => rfl
  have B0 : Below w.heap.size w ((w.alloc (.cells #[nilS, zI, zI] 24)).alloc (.cells #[zI] 30)) := Joins.below_alloc2 w _ _
  have C1 := HR _ B0
  go_enter_defers Tryd.func19, Tryd.ntmps19
  go_wp2_with (go_at_call 36; (with_reducible refine C1.mono ?_); rintro e w2 ⟨rfl, B2⟩)
  have htb : B3 w2 w.heap.size nilS zI zI := (B2.block _ (by simp; omega)).trans ((heap_alloc_old _ _ (by simp)).trans (heap_alloc_new w _))
  have heb : w2.heap[w.heap.size + 1]? = some (.cells #[zI] 30 (0, 0)) := (B2.block _ (by simp)).trans (by have := heap_alloc_new (w.alloc (.cells #[nilS, zI, zI] 24)) (.cells #[zI] 30); simpa using this)
  have BB : Below w.heap.size w w2 := B0.trans (Joins.below_le B2 (by simp; omega))
  refine leaves_cons (f := 35) (args := #[.pointer (some ⟨w.heap.size, 0, none⟩), .pointer (some ⟨w.heap.size + 1, 0, none⟩)]) (by simp) (by simp [go_sem]) ?_
  refine (defer35_gave w.heap.size (w.heap.size + 1) nilS zI zI zI [] w2 htb heb (by omega)).mono ?_
  rintro e u' w3 ⟨rfl, rfl, h1, h2, F3⟩
  refine ⟨_, res19 _ _ w.heap.size (w.heap.size + 1) nilS zI zI _ rfl rfl h1 h2, rfl, ⟨F3.os.trans BB.os, F3.tape.trans BB.tape, F3.output.trans BB.output, Nat.le_trans BB.size F3.size, fun j hj => ?_⟩⟩
  have := BB.size
  exact (F3.block j (by omega) (by omega) (by omega)).trans (BB.block j hj)
set_option maxHeartbeats 4000000 in
/-- what is read is a program -/
theorem load19_fine {w : World} {Q0 : List In → Int → Int → Prop} {ad : Option Addr} {n c : Nat} (h : ¬ 8388608 < n) (HR : ∀ W, Below w.heap.size w W → w.heap.size + 2 ≤ W.heap.size → Calls Tryd.prog 36 #[.slice ad n c] W fun e w' => ∃ g s k J MS, e = .returned (pv (some ⟨g, 0, none⟩) J.length J.length s k) ∧ Below W.heap.size W w' ∧ PO w' W.heap.size (rowv g J.length) J MS ∧ Q0 J s k) :
    Calls Tryd.prog 19 #[.slice ad n c] w fun e w' => ∃ g s k J MS, e = .returned (.tuple #[pv (some ⟨g, 0, none⟩) J.length J.length s k, zI]) ∧ Below w.heap.size w w' ∧ PO w' w.heap.size (rowv g J.length) J MS ∧ Q0 J s k := by
  have hb : decide (8388608 < (n : Int)) = false := by simp; omega
  have hb2 : ¬ (8388608 : Int) < (n : Int) := by omega
  have hmf : ∀ (fn : Fn) (first cap : Array Value) (w : World), (Instr.makeFunc fn first cap).run Tryd.prog w = .ok (.func fn first cap) w := fun _ _ _ _ => rfl
  have B0 : Below w.heap.size w ((w.alloc (.cells #[nilS, zI, zI] 24)).alloc (.cells #[zI] 30)) := Joins.below_alloc2 w _ _
  have C1 := HR _ B0 (by simp)
  go_enter_defers Tryd.func19, Tryd.ntmps19
  go_wp2_with (go_at_call 36; (with_reducible refine C1.mono ?_); rintro e w2 ⟨g, s, k, J, MS, rfl, B2, hpo, hq⟩; have htb : B3 w2 w.heap.size nilS zI zI := (B2.block _ (by simp; omega)).trans ((heap_alloc_old _ _ (by simp)).trans (heap_alloc_new w _)); have heb : w2.heap[w.heap.size + 1]? = some (.cells #[zI] 30 (0, 0)) := (B2.block _ (by simp)).trans (by have := heap_alloc_new (w.alloc (.cells #[nilS, zI, zI] 24)) (.cells #[zI] 30); simpa using this); have BB : Below w.heap.size w w2 := B0.trans (Joins.below_le B2 (by simp; omega)); obtain ⟨q0, q1, q2⟩ := three_cells htb; obtain ⟨f0, f1, f2⟩ := frz3 htb; have k0 : w2.cell? ⟨w.heap.size + 1, 0, none⟩ = some (.int .i64 0) := Joins.cell_of_block heb 0; have g0 := Joins.unfrozen_of_block heb 0)
  refine leaves_cons (f := 35) (args := #[.pointer (some ⟨w.heap.size, 0, none⟩), .pointer (some ⟨w.heap.size + 1, 0, none⟩)]) (by simp) (by simp [go_sem]) ?_
  have G3 := fr2_of (V := .int .i64 0) B2 htb heb (by omega) (.slice (some ⟨g, 0, none⟩) J.length J.length) (.int .i64 s) (.int .i64 k)
  refine (defer35_idle w.heap.size (w.heap.size + 1) _).mono ?_
  rintro e u' w3 ⟨rfl, rfl, rfl⟩
  refine ⟨_, res19 _ _ w.heap.size (w.heap.size + 1) _ _ _ _ rfl rfl G3.1 G3.2.1, g, s, k, J, MS, rfl, ?_, ?_, hq⟩
  · have F := G3.2.2
    refine ⟨F.os.trans B0.os, F.tape.trans B0.tape, F.output.trans B0.output, Nat.le_trans B0.size F.size, fun j hj => ?_⟩
    exact (F.block j (by have := B0.size; omega) (by omega) (by omega)).trans (B0.block j hj)
  · refine (hpo.kept (fun b h1 h2 => ?_)).wide (by simp; omega)
    simp at h1
    exact (Below.heap_setCell _ _ _ _ (show b ≠ w.heap.size + 1 by omega)).trans (set3_old (by omega) _ _ _)
/-- what Load answers -/
def LoadAns (l : List Nat) (w : World) (e : Ending) (w' : World) : Prop := Below w.heap.size w w' ∧
  ((8388608 < l.length ∧ e = noP 2) ∨ (l.length ≤ 8388608 ∧ loadP C3 5000 20000 l = none ∧ e = noP 101) ∨ (l.length ≤ 8388608 ∧ ∃ g s k J MS, loadP C3 5000 20000 l = some (J, s, k) ∧ e = .returned (.tuple #[pv (some ⟨g, 0, none⟩) J.length J.length s k, zI]) ∧ PO w' w.heap.size (rowv g J.length) J MS))
theorem load19 {w : World} {ad : Option Addr} {n c : Nat} {l : List Nat} (h : BA w w.heap.size ad l) (hn : n = l.length) (hcp : n ≤ c) (hcm : c ≤ 9223372036854775807) (hlt : ∀ x ∈ l, x < 256) : Calls Tryd.prog 19 #[.slice ad n c] w (LoadAns l w) := by
  by_cases h8 : 8388608 < n
  · refine (load19_long (ad := ad) (c := c) h8).mono ?_
    rintro e w' ⟨rfl, hb⟩
    exact ⟨hb, .inl ⟨by omega, rfl⟩⟩
  · have C36 : ∀ W, Below w.heap.size w W → _ := fun W hW => ofBytes36 (w := W) (ad := ad) (c := c) (h.kept hW.block hW.size) hn (by omega) hcp hcm hlt
    cases hl : loadP C3 5000 20000 l with
    | none =>
      refine (load19_gave (ad := ad) (c := c) h8 (fun W hW => (C36 W hW).mono ?_)).mono ?_
      · rintro e w' ⟨hb, ⟨_, rfl⟩ | ⟨J, s, k, g, MS, h2, _⟩⟩
        · exact ⟨rfl, hb⟩
        · rw [hl] at h2; cases h2
      · rintro e w' ⟨rfl, hb⟩
        exact ⟨hb, .inr (.inl ⟨by omega, hl, rfl⟩)⟩
    | some p =>
      obtain ⟨J0, s0, k0⟩ := p
      refine (load19_fine (ad := ad) (c := c) (Q0 := fun J s k => loadP C3 5000 20000 l = some (J, s, k)) h8 (fun W hW _ => (C36 W hW).mono ?_)).mono ?_
      · rintro e w' ⟨hb, ⟨h2, _⟩ | ⟨J, s, k, g, MS, h2, rfl, hpo⟩⟩
        · rw [hl] at h2; cases h2
        · exact ⟨g, s, k, J, MS, rfl, hb, hpo, h2⟩
      · rintro e w' ⟨g, s, k, J, MS, rfl, hb, hpo, hq⟩
        exact ⟨hb, .inr (.inr ⟨by omega, g, s, k, J, MS, hq, rfl, hpo⟩)⟩
end Go.Proofs.YteanndophopplaaDoor
