/- HELPERS: the map of what was done. -/
import Derived.Test.YtnpocciioedgpaaOb
import Derived.DeepKeys3
import Derived.MapKept
namespace Go.Proofs.Ytnpocciioedgpaa
open Go.RowKit Go.WideMaps
set_option linter.unusedVariables false
set_option linter.unusedSimpArgs false
abbrev dk (a b : Int) : Value := .agg #[.int .i64 a, .int .i64 b]
theorem law_of {P : Program} {k : TypeId} {fs : Array Field} (hu : P.underlying k = some (.struct fs)) (h1 : P.keyTypeAt 2 k = true) (h2 : P.tiled 2 k = true) : KeyLaw P k := deep_law (by decide : 2 + 1 ≤ 10000) h1 h2 (by rw [hu])
theorem key108 : Try.prog.keyTypeAt 2 108 = true := by kernel_rfl
theorem tiled108 : Try.prog.tiled 2 108 = true := by kernel_rfl
theorem law108 : KeyLaw Try.prog 108 := law_of Try.underlying108 key108 tiled108
theorem keyType108 : Try.prog.keyType 108 = true := by kernel_rfl
theorem size_types : Try.prog.types.size = 149 + 1 := by kernel_rfl
theorem cells108 : Try.prog.cellsOf 108 = 2 := by kernel_rfl
theorem cells3 : Try.prog.cellsOf 3 = 1 := by kernel_rfl
theorem keyOf_two {P : Program} {k e : TypeId} {f0 f1 : Field} {m : Nat} (hu : P.underlying k = some (.struct #[f0, f1])) (e0 : f0.type = e) (e1 : f1.type = e) (o0 : f0.offset = 0) (o1 : f1.offset = 1) (n0 : (f0.name != "_") = true) (n1 : (f1.name != "_") = true)
    (he : P.underlying e = some (.int .i64)) (hc : P.cellsOf k = 2) (hce : P.cellsOf e = 1) (hkt : P.keyType k = true) (hsz : P.types.size = m + 1) (a b : Int) (wa : (Lit.int .i64 a).wf = true) (wb : (Lit.int .i64 b).wf = true) :
    keyOf P k (dk a b) = some (.string (keyBytes [.int .i64 a, .int .i64 b])) := by
  unfold keyOf
  simp only [hu]
  rw [if_pos (by simp [hkt, Value.formed, hu, hc]), hsz]
  unfold Program.keyLits
  simp only [hu, Value.cells]
  rw [if_pos (by simp [hc, n0, n1])]
  simp [Program.keyLits, e0, e1, o0, o1, hce, he, wa, wb]
theorem key_dk (a b : Int) (wa : (Lit.int .i64 a).wf = true) (wb : (Lit.int .i64 b).wf = true) : keyOf Try.prog 108 (dk a b) = some (.string (keyBytes [.int .i64 a, .int .i64 b])) :=
  keyOf_two (m := 149) Try.underlying108 rfl rfl rfl rfl rfl rfl Try.underlying3 cells108 cells3 keyType108 size_types a b wa wb
theorem zero109 (w : World) : (zeroValue 109).run Try.prog w = .ok (.agg #[]) w := by kernel_rfl
def wf2 (x : Int × Int) : Prop := (Lit.int .i64 x.1).wf = true ∧ (Lit.int .i64 x.2).wf = true
/-- the map in block b holds just these pairs, in the order in which they came -/
def MP (w : World) (b : Nat) (D : List (Int × Int)) : Prop := ∃ es clock, w.heap[b]? = some (.map es clock) ∧ es.toList.map (·.key) = D.map (fun x => dk x.1 x.2) ∧ (∀ x ∈ es.toList, x.val = .agg #[]) ∧ ∀ x ∈ D, wf2 x
theorem MP.keys {D : List (Int × Int)} {es : List MapEntry} (h : es.map (·.key) = D.map (fun x => dk x.1 x.2)) (hD : ∀ x ∈ D, wf2 x) : ∀ e ∈ es, ∃ l, keyOf Try.prog 108 e.key = some l := by
  intro e he
  have : e.key ∈ D.map (fun x => dk x.1 x.2) := by rw [← h]; exact List.mem_map_of_mem he
  obtain ⟨x, hx, e1⟩ := List.mem_map.1 this
  rw [← e1]
  exact ⟨_, key_dk _ _ (hD x hx).1 (hD x hx).2⟩
theorem dk_inj {a b c d : Int} (h : dk a b = dk c d) : a = c ∧ b = d := by simpa using h
theorem MP.look {w : World} {b : Nat} {D : List (Int × Int)} (h : MP w b D) (a p : Int) (hw : wf2 (a, p)) : (Instr.lookup 82 (.map (some b)) (dk a p) true).run Try.prog w = .ok (.tuple #[.agg #[], .bool (decide ((a, p) ∈ D))]) w := by
  obtain ⟨es, clock, hb, hk, hv, hD⟩ := h
  have hkey := key_dk a p hw.1 hw.2
  rcases law108.find w hkey es.toList (MP.keys hk hD) with ⟨h1, h2⟩ | ⟨j, e0, h1, h2, h3⟩
  · have hn : decide ((a, p) ∈ D) = false := by
      rw [decide_eq_false_iff_not]
      intro hm
      have : dk a p ∈ es.toList.map (·.key) := by rw [hk]; exact List.mem_map.2 ⟨_, hm, rfl⟩
      obtain ⟨e, he, e1⟩ := List.mem_map.1 this
      exact h2 e he e1
    rw [hn]
    simp [Instr.lookup, run_underlying Try.underlying82, MapKept.run_getObj_map hb, law108.check w _ hkey, h1, zero109, Result.andThen]
  · have hm : e0 ∈ es.toList := List.mem_of_getElem? h2
    have hn : decide ((a, p) ∈ D) = true := by
      rw [decide_eq_true_eq]
      have : e0.key ∈ D.map (fun x => dk x.1 x.2) := by rw [← hk]; exact List.mem_map_of_mem hm
      obtain ⟨x, hx, e1⟩ := List.mem_map.1 this
      rw [h3] at e1
      obtain ⟨rfl, rfl⟩ := dk_inj e1
      exact hx
    rw [hn]
    simp [Instr.lookup, run_underlying Try.underlying82, MapKept.run_getObj_map hb, law108.check w _ hkey, h1, hv e0 hm, Result.andThen]
def putB (w : World) (b : Nat) (o : Obj) : World := { w with heap := w.heap.setIfInBounds b o }
theorem putB_size (w : World) (b : Nat) (o : Obj) : (putB w b o).heap.size = w.heap.size := by simp [putB]
theorem putB_other (w : World) {b k : Nat} (o : Obj) (h : k ≠ b) : (putB w b o).heap[k]? = w.heap[k]? := by
  simp only [putB]
  rw [Array.getElem?_setIfInBounds_ne (fun e => h e.symm)]
theorem MP.put {w : World} {b : Nat} {D : List (Int × Int)} (h : MP w b D) (a p : Int) (hw : wf2 (a, p)) (hn : (a, p) ∉ D) : ∃ o, (Instr.mapUpdate 82 (.map (some b)) (dk a p) (.agg #[])).run Try.prog w = .ok () (putB w b o) ∧ MP (putB w b o) b (D ++ [(a, p)]) := by
  obtain ⟨es, clock, hb, hk, hv, hD⟩ := h
  have hkey := key_dk a p hw.1 hw.2
  rcases law108.find w hkey es.toList (MP.keys hk hD) with ⟨h1, h2⟩ | ⟨j, e0, h1, h2, h3⟩
  · refine ⟨Obj.map (es.push ⟨dk a p, .agg #[], clock⟩) (clock + 1), ?_, es.push ⟨dk a p, .agg #[], clock⟩, clock + 1, ?_, ?_, ?_, ?_⟩
    · simp [Instr.mapUpdate, run_underlying Try.underlying82, MapKept.run_getObj_map hb, law108.check w false hkey, h1, MapKept.run_setObj_map _ hb, Result.andThen, putB]
    · have := (Array.getElem?_eq_some_iff.1 hb).1
      simp [putB, this]
    · simp [hk]
    · intro x hx
      simp only [Array.toList_push, List.mem_append, List.mem_singleton] at hx
      rcases hx with hx | rfl
      · exact hv x hx
      · rfl
    · intro x hx
      simp only [List.mem_append, List.mem_singleton] at hx
      rcases hx with hx | rfl
      · exact hD x hx
      · exact hw
  · exfalso
    have hm : e0 ∈ es.toList := List.mem_of_getElem? h2
    have : e0.key ∈ D.map (fun x => dk x.1 x.2) := by rw [← hk]; exact List.mem_map_of_mem hm
    obtain ⟨x, hx, e1⟩ := List.mem_map.1 this
    rw [h3] at e1
    obtain ⟨rfl, rfl⟩ := dk_inj e1
    exact hn hx
end Go.Proofs.Ytnpocciioedgpaa
