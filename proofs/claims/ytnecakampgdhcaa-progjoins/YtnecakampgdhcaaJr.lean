/- HELPERS: a row of programs that comes in. -/
import Derived.Test.YtnecakampgdhcaaPr
import Derived.Test.YtnecakampgdhcaaJb
namespace Go.Proofs.Ytnecakampgdhcaa
open Go.RowKit Go.Deep Go.ChangeShapes Go.WideShapes
set_option linter.unusedVariables false
set_option linter.unusedSimpArgs false
theorem bytes24 : Try.prog.bytesOf 24 = 40 := by kernel_rfl
set_option maxRecDepth 100000
section
variable {H : Type} {enc : TypeId × Value → H} {w : World} {base : Nat} {spare : Nat → Bool} {held : Bool}
/-- one program of a row -/
theorem open_prog {fuel : Nat} {cs : List Value} {x : DataW H × List MemPlace} (h : DataW.trod enc Try.prog w base spare held fuel 24 cs = some x) (hwt : ∀ n ∈ x.1.weights Try.prog 24, n ≤ reachBytes) : ∃ (ad : Option Addr) (n c : Nat) (P : Pg), cs = [.slice ad n c, .int .i64 P.s, .int .i64 P.k] ∧ PI w w.heap.size ad n P.l ∧ n * 56 ≤ 140737488351232 := by
  obtain ⟨xs, n, hfu, hd, hl, hxl, hfs⟩ := DataW.trod_struct Try.underlying24 h
  rw [cells24] at hl
  simp only [List.size_toArray, List.length_cons, List.length_nil] at hxl
  match xs, hxl, cs, hl with
  | [y0, y1, y2], _, [v0, v1, v2], _ =>
  have g0 := hfs 0 _ rfl
  have g1 := hfs 1 _ rfl
  have g2 := hfs 2 _ rfl
  simp [cells3a] at g1 g2
  simp [cells22] at g0
  have hd1 : x.1 = .agg ([y0, y1, y2].map (·.1)) := congrArg Prod.fst hd
  have hw0 : ∀ n ∈ y0.1.weights Try.prog 22, n ≤ reachBytes := fun n hn => hwt n (by
    rw [hd1]
    simp only [DataW.weights, Try.underlying24]
    exact DataW.weights_mem_each (j := 0) (by simp) (by simp) n hn)
  obtain ⟨a1, e1, _, _⟩ := DataW.trod_int Try.underlying3 g1
  obtain ⟨a2, e2, _, _⟩ := DataW.trod_int Try.underlying3 g2
  obtain ⟨ad, n', c, l, e0, h1, h2, h3, h4⟩ := open_insts g0 hw0
  simp only [List.cons.injEq, and_true] at e0 e1 e2
  subst e0 e1 e2
  exact ⟨ad, n', c, ⟨l, a1, a2⟩, rfl, h4, h3⟩
/-- a row of programs that came in -/
theorem progs_arg {W : World} {v : Value} {d : DataW H} {p : List MemPlace} (hok : Value.okWide Try.prog W .any base 32 v) (h0 : DataW.Trod enc Try.prog W 0 (fun _ => true) true 32 v d p) (hsz : ∀ n ∈ d.weights Try.prog 32, n ≤ reachBytes) :
    ∃ (ad : Option Addr) (n c : Nat) (L : List Pg), v = .slice ad n c ∧ n * 40 ≤ 140737488351232 ∧ LP W W.heap.size ad n L := by
  obtain ⟨a0, len0, cap0, rfl⟩ := okWide_slice Try.underlying32 hok
  obtain ⟨fuel, hf⟩ := h0
  rcases DataW.trod_slice Try.underlying32 hf with ⟨e, _⟩ | ⟨a, len, cap, elems, rest, n', hn', e, hx0, hb, hlc, hcm, hel, hx, _, _⟩
  · simp [Value.cells] at e
    obtain ⟨rfl, rfl, rfl⟩ := e
    exact ⟨none, 0, 0, [], rfl, by omega, rfl, fun hp => absurd hp (by simp)⟩
  · simp [Value.cells] at e
    obtain ⟨rfl, rfl, rfl⟩ := e
    have hd : d = _ := congrArg Prod.fst hx0
    rw [cells24] at hx
    have hw0 := hsz ((elems.length + rest.length) * Try.prog.bytesOf 24) (by rw [hd]; simp [DataW.weights, Try.underlying32])
    rw [bytes24, reach_eq] at hw0
    have each : ∀ i, i < len0 → ∃ q : (Option Addr × Nat × Nat) × Pg, (∀ j, j < 3 → W.cell? (a.add (i * 3 + j)) = ([.slice q.1.1 q.1.2.1 q.1.2.2, .int .i64 q.2.s, .int .i64 q.2.k] : List Value)[j]?) ∧ PI W W.heap.size q.1.1 q.1.2.1 q.2.l ∧ q.1.2.1 * 56 ≤ 140737488351232 := fun i hi => by
      have h1 := hx i hi
      rw [List.getElem?_eq_getElem (by omega)] at h1
      obtain ⟨cs', h2, h3⟩ := Option.bind_eq_some_iff.1 h1
      obtain ⟨ad, n, c, P, rfl, hp, hn⟩ := open_prog h3 (fun n hn => hsz n (by rw [hd]; simp only [DataW.weights, Try.underlying32]; exact List.mem_cons_of_mem _ (List.mem_append_left _ (weightsAll_mem (List.mem_map.2 ⟨_, List.getElem_mem _, rfl⟩) n hn))))
      obtain ⟨_, _, hc⟩ := World.cells?_some h2
      exact ⟨((ad, n, c), P), fun j hj => by have := hc j hj; rwa [add_add] at this, hp, hn⟩
    obtain ⟨q, hq⟩ := choose_lt each
    refine ⟨some a, len0, cap0, (List.range len0).map fun i => (q i).2, rfl, by omega, by simp, fun hp => ?_⟩
    have hc0 := (hq 0 hp).1 0 (by omega)
    simp only [List.getElem?_cons_zero] at hc0
    have hsp : a.spot = none := by simpa [Addr.add] using World.cell?_spot hc0
    obtain ⟨b, o, sp⟩ := a
    simp only at hsp
    subst hsp
    refine ⟨b, o, fun i => (q i).1.1, fun i => (q i).1.2.1, fun i => (q i).1.2.2, rfl, World.block_lt_of_cell? _ _ hc0, fun i hi => ?_⟩
    have hg : ((List.range len0).map fun i => (q i).2).getD i default = (q i).2 := by simp [List.getD_eq_getElem?_getD, hi]
    rw [hg]
    have h1 := (hq i hi).1
    simp only [add_plain, ← Nat.add_assoc] at h1
    exact ⟨⟨by simpa using h1 0 (by omega), by simpa using h1 1 (by omega), by simpa using h1 2 (by omega)⟩, (hq i hi).2.1, (hq i hi).2.2⟩
end
end Go.Proofs.Ytnecakampgdhcaa
