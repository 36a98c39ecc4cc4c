/- HELPERS: programs that come in as arguments. -/
import Derived.Test.YtpckbpimgoljoaaGreatZA
import Derived.Test.YtpckbpimgoljoaaGreatZC
namespace Go.Proofs.YtpckbpimgoljoaaGreat
open Go.RowKit Go.Deep Go.ChangeShapes Go.WideShapes
set_option linter.unusedVariables false
set_option linter.unusedSimpArgs false
theorem cells36 : Tryz.prog.cellsOf 22 = 1 := by kernel_rfl
theorem cells22 : Tryz.prog.cellsOf 26 = 1 := by kernel_rfl
theorem cells51 : Tryz.prog.cellsOf 69 = 5 := by kernel_rfl
theorem cells24 : Tryz.prog.cellsOf 28 = 3 := by kernel_rfl
theorem bytes49 : Tryz.prog.bytesOf 71 = 16 := by kernel_rfl
theorem bytes51 : Tryz.prog.bytesOf 69 = 56 := by kernel_rfl
theorem weightsAll_mem {H : Type} {P : Program} {e : TypeId} : ∀ {l : List (DataW H)} {d : DataW H}, d ∈ l → ∀ n ∈ d.weights P e, n ∈ DataW.weightsAll P e l
  | x :: l, d, hd, n, hn => by
    simp only [DataW.weightsAll, List.mem_append]
    rcases List.mem_cons.1 hd with rfl | h
    · exact .inl hn
    · exact .inr (weightsAll_mem h n hn)
theorem reach_eq : reachBytes = 140737488351232 := by decide
set_option maxRecDepth 100000
section
variable {H : Type} {enc : TypeId × Value → H} {w : World} {base : Nat} {spare : Nat → Bool} {held : Bool}
theorem ranges_small {fuel : Nat} {cs : List Value} {x : DataW H × List MemPlace} (h : DataW.trod enc Tryz.prog w base spare held fuel 22 cs = some x) (hw : ∀ n ∈ x.1.weights Tryz.prog 22, n ≤ reachBytes) {ad : Option Addr} {n c : Nat} (hc : cs = [.slice ad n c]) : n * 16 ≤ 140737488351232 := by
  rcases DataW.trod_slice Tryz.underlying22 h with ⟨e, _⟩ | ⟨a, len, cap, elems, rest, n', _, e, hx, _, _, _, hel, _⟩
  · rw [hc] at e
    simp at e
    omega
  · rw [hc] at e
    simp at e
    have := hw ((elems.length + rest.length) * Tryz.prog.bytesOf 71) (by rw [hx]; simp [DataW.weights, Tryz.underlying22])
    rw [bytes49, reach_eq] at this
    omega
theorem open_inst {fuel : Nat} {cs : List Value} {x : DataW H × List MemPlace} (h : DataW.trod enc Tryz.prog w base spare held fuel 69 cs = some x) (hwt : ∀ n ∈ x.1.weights Tryz.prog 69, n ≤ reachBytes) : ∃ (N : Iv) (I : In), cs = Iv.cs N ∧ IM w w.heap.size N I := by
  obtain ⟨xs, n, hf, rfl, hl, hxl, hfs⟩ := DataW.trod_struct Tryz.underlying69 h
  rw [cells51] at hl
  simp only [List.size_toArray, List.length_cons, List.length_nil] at hxl
  match xs, hxl, cs, hl with
  | [y0, y1, y2, y3, y4], _, [v0, v1, v2, v3, v4], _ =>
  have g0 := hfs 0 _ rfl
  have g1 := hfs 1 _ rfl
  have g2 := hfs 2 _ rfl
  have g3 := hfs 3 _ rfl
  have g4 := hfs 4 _ rfl
  simp [cells3a] at g0 g1 g2 g3
  simp [cells36] at g4
  have hw4 : ∀ n ∈ y4.1.weights Tryz.prog 22, n ≤ reachBytes := fun n hn => hwt n (by
    simp only [DataW.weights, Tryz.underlying69]
    exact DataW.weights_mem_each (j := 4) (by simp) (by simp) n hn)
  obtain ⟨a0, e0, _, w0⟩ := DataW.trod_int Tryz.underlying3 g0
  obtain ⟨a1, e1, _, w1⟩ := DataW.trod_int Tryz.underlying3 g1
  obtain ⟨a2, e2, _, w2⟩ := DataW.trod_int Tryz.underlying3 g2
  obtain ⟨a3, e3, _, w3⟩ := DataW.trod_int Tryz.underlying3 g3
  obtain ⟨r1, r2, r3, R, e4, hr, hrc, hrm, hR, hRk⟩ := open_rng rgTy g4
  have hsm := ranges_small g4 hw4 e4
  simp only [List.cons.injEq, and_true] at e0 e1 e2 e3 e4
  subst e0 e1 e2 e3 e4
  refine ⟨⟨a0, a1, a2, a3, r1, r2, r3⟩, ⟨a0, a1, a2, a3, R⟩, rfl, ⟨rfl, rfl, rfl, rfl, hr, hsm, ?_⟩⟩
  exact R2.row (N := ⟨0, r1, r2, r3, 0, none, 0, 0, 0, 0, false, 0, ⟨#[]⟩⟩) hR hr
theorem open_insts {fuel : Nat} {cs : List Value} {x : DataW H × List MemPlace} (h : DataW.trod enc Tryz.prog w base spare held fuel 26 cs = some x) (hwt : ∀ n ∈ x.1.weights Tryz.prog 26, n ≤ reachBytes) : ∃ (ad : Option Addr) (n c : Nat) (l : List In), cs = [.slice ad n c] ∧ n ≤ c ∧ c ≤ maxLen ∧ n * 56 ≤ 140737488351232 ∧ PI w w.heap.size ad n l := by
  rcases DataW.trod_slice Tryz.underlying26 h with ⟨e, _⟩ | ⟨a, len, cap, elems, rest, n', hn', e, hx0, hb, hlc, hcm, hel, hx, _, _⟩
  · exact ⟨none, 0, 0, [], e, Nat.le_refl _, by simp [maxLen], by omega, rfl, fun hp => absurd hp (by simp)⟩
  · rw [cells51] at hx
    have hw0 := hwt ((elems.length + rest.length) * Tryz.prog.bytesOf 69) (by rw [hx0]; simp [DataW.weights, Tryz.underlying26])
    rw [bytes51, reach_eq] at hw0
    have each : ∀ i, i < len → ∃ q : Iv × In, (∀ j, j < 5 → w.cell? (a.add (i * 5 + j)) = (Iv.cs q.1)[j]?) ∧ IM w w.heap.size q.1 q.2 := fun i hi => by
      have h1 := hx i hi
      rw [List.getElem?_eq_getElem (by omega)] at h1
      obtain ⟨cs', h2, h3⟩ := Option.bind_eq_some_iff.1 h1
      obtain ⟨N, I, rfl, ht⟩ := open_inst h3 (fun n hn => hwt n (by rw [hx0]; simp only [DataW.weights, Tryz.underlying26]; exact List.mem_cons_of_mem _ (List.mem_append_left _ (weightsAll_mem (List.mem_map.2 ⟨_, List.getElem_mem _, rfl⟩) n hn))))
      obtain ⟨_, _, hc⟩ := World.cells?_some h2
      exact ⟨(N, I), fun j hj => by have := hc j hj; rwa [add_add] at this, ht⟩
    obtain ⟨q, hq⟩ := choose_lt each
    refine ⟨some a, len, cap, (List.range len).map fun i => (q i).2, e, hlc, hcm, by omega, by simp, fun hp => ?_⟩
    have hc0 := (hq 0 hp).1 0 (by omega)
    simp only [Iv.cs, List.getElem?_cons_zero] at hc0
    have hsp : a.spot = none := by simpa [Addr.add] using World.cell?_spot hc0
    obtain ⟨b, o, sp⟩ := a
    simp only at hsp
    subst hsp
    refine ⟨b, o, fun i => (q i).1, rfl, World.block_lt_of_cell? _ _ hc0, fun i hi => ⟨?_, ?_⟩⟩
    · simp only [List.length_map, List.length_range] at hi
      have h1 := (hq i hi).1
      simp only [add_plain, ← Nat.add_assoc] at h1
      exact ⟨by simpa using h1 0 (by omega), by simpa using h1 1 (by omega), by simpa using h1 2 (by omega), by simpa using h1 3 (by omega), by simpa using h1 4 (by omega)⟩
    · simp only [List.length_map, List.length_range] at hi
      simpa using (hq i hi).2
end
theorem cells27 : Tryz.prog.cellsOf 31 = 6 := by kernel_rfl
theorem cells25 : Tryz.prog.cellsOf 29 = 1 := by kernel_rfl
theorem cells4 : Tryz.prog.cellsOf 4 = 1 := by kernel_rfl
theorem open_text {H : Type} {enc : TypeId × Value → H} {w : World} {base : Nat} {fuel : Nat} {cs : List Value} {x : DataW H × List MemPlace} (h : DataW.trod enc Tryz.prog w base (fun _ => true) true fuel 29 cs = some x) (hw : ∀ n ∈ x.1.weights Tryz.prog 29, n ≤ reachBytes) :
    ∃ (l : List Int) (ad : Option Addr) (n cap : Nat), cs = [.slice ad n cap] ∧ TextAt w.heap.size w ad n l ∧ n ≤ 17592186043904 ∧ (n = 0 → cap = 0 ∨ True) := by
  rcases open_ints Tryz.underlying29 Tryz.underlying3 cells3a h with ⟨hcs, hx⟩ | ⟨a, len', cap', zs, hcs, _, hl, hm, hz, hx, hcell, hwz⟩
  · exact ⟨[], none, 0, 0, hcs, ⟨rfl, by omega, .inl rfl⟩, by omega, fun _ => .inr trivial⟩
  · simp only [if_true] at hz
    subst hx
    have hb3 : Tryz.prog.bytesOf 3 = 8 := by kernel_rfl
    have hs := hw (((lits (H := H) .i64 (zs.take len')).length + (lits (H := H) .i64 (zs.drop len')).length) * Tryz.prog.bytesOf 3) (by simp [DataW.weights, Tryz.underlying29, lits])
    rw [hb3, reach_eq] at hs
    simp only [lits, List.length_map, List.length_take, List.length_drop] at hs
    have htl : (zs.take len').length = len' := by rw [List.length_take]; omega
    refine ⟨zs.take len', some a, len', cap', hcs, ⟨htl.symm, by omega, ?_⟩, by omega, fun _ => .inr trivial⟩
    rcases Nat.eq_zero_or_pos len' with h0 | h0
    · exact .inl h0
    · right
      obtain ⟨b, off, rfl, hc⟩ := ints_at hcell (by omega)
      refine ⟨b, off, rfl, lt_of_cell (hc 0 (by omega)), fun k hk => ?_⟩
      have hk' : k < zs.length := by omega
      rw [hc k hk']
      simp [List.getD_eq_getElem?_getD, List.getElem?_take_of_lt hk, List.getElem?_eq_getElem hk']
theorem open_prog {H : Type} {enc : TypeId × Value → H} {w : World} {base : Nat} {spare : Nat → Bool} {held : Bool} {fuel : Nat} {cs : List Value} {x : DataW H × List MemPlace} (h : DataW.trod enc Tryz.prog w base spare held fuel 28 cs = some x) (hsz : ∀ n ∈ x.1.weights Tryz.prog 28, n ≤ reachBytes) :
    ∃ (ad : Option Addr) (n c : Nat) (s k : Int) (l : List In), cs = [.slice ad n c, .int .i64 s, .int .i64 k] ∧ n ≤ c ∧ c ≤ maxLen ∧ n * 56 ≤ 140737488351232 ∧ PI w w.heap.size ad n l := by
  obtain ⟨xs, n, hfu, rfl, hl, hxl, hfs⟩ := DataW.trod_struct Tryz.underlying28 h
  rw [cells24] at hl
  simp only [List.size_toArray, List.length_cons, List.length_nil] at hxl
  match xs, hxl, cs, hl with
  | [y0, y1, y2], _, [v0, v1, v2], _ =>
  have g0 := hfs 0 _ rfl
  have g1 := hfs 1 _ rfl
  have g2 := hfs 2 _ rfl
  simp [cells3a] at g1 g2
  simp [cells22] at g0
  have hw0 : ∀ n ∈ y0.1.weights Tryz.prog 26, n ≤ reachBytes := fun n hn => hsz n (by
    simp only [DataW.weights, Tryz.underlying28]
    exact DataW.weights_mem_each (j := 0) (by simp) (by simp) n hn)
  obtain ⟨a1, e1, _, _⟩ := DataW.trod_int Tryz.underlying3 g1
  obtain ⟨a2, e2, _, _⟩ := DataW.trod_int Tryz.underlying3 g2
  obtain ⟨ad, n', c, l, e0, h1, h2, h3, h4⟩ := open_insts g0 hw0
  simp only [List.cons.injEq, and_true] at e0 e1 e2
  subst e0 e1 e2
  exact ⟨ad, n', c, a1, a2, l, rfl, h1, h2, h3, h4⟩
abbrev kv (ad : Option Addr) (n c : Nat) (s k : Int) (tad : Option Addr) (tn tc : Nat) (a : Int) (anch : Bool) : Value := .agg #[.slice ad n c, .int .i64 s, .int .i64 k, .slice tad tn tc, .int .i64 a, .bool anch]
/-- a program, a text, a place, anchored or not, that came in -/
theorem ask_arg {H : Type} {enc : TypeId × Value → H} {base : Nat} {W : World} {v : Value} {d : DataW H} {p : List MemPlace} (hok : Value.okWide Tryz.prog W .any base 31 v) (h0 : DataW.Trod enc Tryz.prog W 0 (fun _ => true) true 31 v d p) (hsz : ∀ n ∈ d.weights Tryz.prog 31, n ≤ reachBytes) :
    ∃ (ad : Option Addr) (n c : Nat) (s k : Int) (l : List In) (tad : Option Addr) (tn tc : Nat) (a : Int) (anch : Bool) (tx : List Int), v = kv ad n c s k tad tn tc a anch ∧ n * 56 ≤ 140737488351232 ∧ PI W W.heap.size ad n l ∧ TextAt W.heap.size W tad tn tx ∧ tn ≤ 17592186043904 := by
  obtain ⟨cs, rfl, hs⟩ := okWide_struct Tryz.underlying31 hok
  obtain ⟨fuel, hf⟩ := h0
  obtain ⟨xs, n, hfu, hd, hl, hxl, hfs⟩ := DataW.trod_struct Tryz.underlying31 hf
  obtain ⟨L, hL⟩ : ∃ L, L = (Value.agg cs).cells.toList := ⟨_, rfl⟩
  have hL' : cs.toList = L := by rw [hL]; rfl
  rw [← hL] at hl hfs
  rw [cells27] at hl
  simp only [List.size_toArray, List.length_cons, List.length_nil] at hxl
  match xs, hxl, L, hl, hL' with
  | [y0, y1, y2, y3], _, [v0, v1, v2, v3, v4, v5], _, hL' =>
  have g0 := hfs 0 _ rfl
  have g1 := hfs 1 _ rfl
  have g2 := hfs 2 _ rfl
  have g3 := hfs 3 _ rfl
  simp [cells24] at g0
  simp [cells25] at g1
  simp [cells3a] at g2
  simp [cells4] at g3
  have hd1 : d = .agg ([y0, y1, y2, y3].map (·.1)) := congrArg Prod.fst hd
  have hw0 : ∀ n ∈ y0.1.weights Tryz.prog 28, n ≤ reachBytes := fun n hn => hsz n (by
    rw [hd1]
    simp only [DataW.weights, Tryz.underlying31]
    exact DataW.weights_mem_each (j := 0) (by simp) (by simp) n hn)
  have hw1 : ∀ n ∈ y1.1.weights Tryz.prog 29, n ≤ reachBytes := fun n hn => hsz n (by
    rw [hd1]
    simp only [DataW.weights, Tryz.underlying31]
    exact DataW.weights_mem_each (j := 1) (by simp) (by simp) n hn)
  obtain ⟨a1, e2, _, _⟩ := DataW.trod_int Tryz.underlying3 g2
  obtain ⟨a2, e3, _⟩ := DataW.trod_bool Tryz.underlying4 g3
  obtain ⟨tx, tad, tn, tc, e1, h1, h2, _⟩ := open_text g1 hw1
  obtain ⟨ad, n', c, s, k, l, e0, h3, h4, h5, h6⟩ := open_prog g0 hw0
  simp only [List.cons.injEq, and_true] at e0 e1 e2 e3
  obtain ⟨rfl, rfl, rfl⟩ := e0
  subst e1 e2 e3
  refine ⟨ad, n', c, s, k, l, tad, tn, tc, a1, a2, tx, ?_, h5, h6, h1, h2⟩
  have : cs = [Value.slice ad n' c, .int .i64 s, .int .i64 k, .slice tad tn tc, .int .i64 a1, .bool a2].toArray := by rw [← hL']
  rw [this]
end Go.Proofs.YtpckbpimgoljoaaGreat

