/- HELPERS: a world in which the tables lie as their initialisers lay them: for the row's witness. -/
import Derived.Test.YteanndophopplaaDoorQQ
import Derived.Test.YteanndophopplaaDoorRows
import Derived.Deep.SlicePairs
import Derived.JoinedCond
import Derived.OpenShut
import Derived.SizedLaws
import Derived.Lib.LaidTab
import Derived.Deep.Strs
import Derived.Deep.DeepHandedRow
/- HELPERS: programs and bytes that come in as arguments; the table of words. -/
namespace Go.Proofs.YteanndophopplaaDoor
open Go.ChangeShapes Go.WideShapes Go.ChangeAt Go.RowKit
set_option linter.unusedVariables false
set_option linter.unusedSimpArgs false
theorem laidOut : laidOutB Tryd.prog = true := by kernel_rfl
theorem cellsA3 : Tryd.prog.cellsOf 3 = 1 := by kernel_rfl
theorem cellsA5 : Tryd.prog.cellsOf 5 = 1 := by kernel_rfl
theorem cellsA9 : Tryd.prog.cellsOf 9 = 1 := by kernel_rfl
theorem cellsA51 : Tryd.prog.cellsOf 51 = 2 := by kernel_rfl
theorem cellsA47 : Tryd.prog.cellsOf 47 = 1 := by kernel_rfl
theorem cellsA22 : Tryd.prog.cellsOf 22 = 1 := by kernel_rfl
theorem cellsA49 : Tryd.prog.cellsOf 49 = 5 := by kernel_rfl
theorem cellsA24 : Tryd.prog.cellsOf 24 = 3 := by kernel_rfl
theorem cellsA92 : Tryd.prog.cellsOf 92 = 8 := by kernel_rfl
theorem lt_of_cellA {w : World} {b o : Nat} {v : Value} (h : w.cell? ⟨b, o, none⟩ = some v) : b < w.heap.size := by
  rcases Nat.lt_or_ge b w.heap.size with h1 | h1
  · exact h1
  · have : w.heap[b]? = none := Array.getElem?_eq_none h1
    simp [World.cell?, this] at h
theorem bulk_pos {H : Type} (d : DataW H) : 1 ≤ Rows.uptoBulk d := by
  cases d with
  | lit l => cases l <;> simp [Rows.uptoBulk]
  | nil => simp [Rows.uptoBulk]
  | ptr d => simp [Rows.uptoBulk]
  | slice elems spare => simp [Rows.uptoBulk]
  | agg parts => simp [Rows.uptoBulk]
  | iface t d => simp [Rows.uptoBulk]
  | map entries => simp [Rows.uptoBulk]
  | held h => simp [Rows.uptoBulk]
theorem bulk_len {H : Type} (l : List (DataW H)) : l.length ≤ Rows.uptoBulkAll l := by
  induction l with
  | nil => simp
  | cons x r ih => have := bulk_pos x; simp only [Rows.uptoBulkAll, List.length_cons]; omega
theorem bulk_mem {H : Type} : ∀ {l : List (DataW H)} {d : DataW H}, d ∈ l → Rows.uptoBulk d ≤ Rows.uptoBulkAll l
  | x :: l, d, hd => by
    simp only [Rows.uptoBulkAll]
    rcases List.mem_cons.1 hd with rfl | h
    · omega
    · have := bulk_mem h; omega
theorem bulk_slice {H : Type} (elems spare : List (DataW H)) : elems.length + spare.length + 1 ≤ Rows.uptoBulk (.slice elems spare) := by
  have h1 := bulk_len elems
  have h2 := bulk_len spare
  simp only [Rows.uptoBulk]
  omega
theorem bulk_bound {H : Type} {l : List (DataW H)} (hk : Rows.uptoSmall H l = true) : Rows.uptoBulkAll l ≤ 1048576 := of_decide_eq_true hk
set_option maxRecDepth 100000
section
variable {H : Type} {enc : TypeId × Value → H} {W : World}
/-- a []byte that came in -/
theorem bytes_arg {base B : Nat} {v : Value} {d : DataW H} {p : List MemPlace} (hok : Value.okWide Tryd.prog W .any base 36 v)
    (h0 : DataW.Trod enc Tryd.prog W 0 (fun _ => true) true 36 v d p) (hsz : Rows.uptoBulk d ≤ B) :
    ∃ (l : List Nat) (ad : Option Addr) (n cap : Nat), v = .slice ad n cap ∧ n = l.length ∧ n ≤ cap ∧ n ≤ B ∧ (ad = none → cap = 0) ∧ BA W W.heap.size ad l ∧ (∀ x ∈ l, x < 256) := by
  obtain ⟨a0, len, cap, rfl⟩ := okWide_slice Tryd.underlying36 hok
  obtain ⟨fuel, hf⟩ := h0
  rcases open_ints Tryd.underlying36 Tryd.underlying5 cellsA5 hf with ⟨hcs, hx⟩ | ⟨a, len', cap', zs, hcs, _, hl, hm, hz, hx, hcell, hwz⟩
  · simp [Value.cells] at hcs
    obtain ⟨rfl, rfl, rfl⟩ := hcs
    exact ⟨[], none, 0, 0, rfl, rfl, by omega, by omega, fun _ => rfl, .inl rfl, by simp⟩
  · simp [Value.cells] at hcs
    obtain ⟨rfl, rfl, rfl⟩ := hcs
    simp only [if_true] at hz
    obtain ⟨rfl, rfl⟩ := Prod.mk.inj hx
    have hs := Nat.le_trans (bulk_slice _ _) hsz
    simp only [lits, List.length_map, List.length_take, List.length_drop] at hs
    have htl : (zs.take len).length = len := by rw [List.length_take]; omega
    have hb : ∀ z ∈ zs, 0 ≤ z ∧ z ≤ 255 := fun z hz => bounds_u8 (hwz z hz)
    refine ⟨(zs.take len).map Int.toNat, some a, len, cap, rfl, by rw [List.length_map, htl], hl, by omega, (fun h => by cases h), ?_, ?_⟩
    · by_cases h0 : len = 0
      · left; subst h0; simp
      · right
        obtain ⟨b, off, rfl, hc⟩ := ints_at hcell (by omega)
        refine ⟨b, off, rfl, lt_of_cellA (hc 0 (by omega)), fun k hk => ?_⟩
        rw [List.length_map, htl] at hk
        rw [hc k (by omega)]
        have hk' : k < zs.length := by omega
        have := hb zs[k] (List.getElem_mem hk')
        simp [List.getD_eq_getElem?_getD, hk']
        omega
    · intro x hx
      obtain ⟨z, hz, rfl⟩ := List.mem_map.1 hx
      have := hb z (List.mem_of_mem_take hz)
      omega
/-- a []Range that came in -/
theorem rng_arg {fuel : Nat} {v : Value} {x : DataW H × List MemPlace} (hf : DataW.trod enc Tryd.prog W 0 (fun _ => true) true fuel 47 [v] = some x) (hsz : Rows.uptoBulk x.1 ≤ 1048576) :
    ∃ (L : List (Int × Int)) (ad : Option Addr) (n cap : Nat), v = .slice ad n cap ∧ n = L.length ∧ n ≤ 1048576 ∧ RowAt W.heap.size W (.slice ad n cap) L := by
  rcases Deep.open_slice_pairs Tryd.underlying47 Tryd.underlying51 cellsA51 rfl rfl cellsA3 cellsA3 hf with ⟨hcs, hx⟩ | ⟨a, len, cap, m, k, V0, V1, D0, D1, P0, P1, hcs, _, hl, hm, hmm, hx, hc⟩
  · simp at hcs
    subst hcs
    exact ⟨[], none, 0, 0, rfl, rfl, by omega, ⟨none, 0, rfl, .inl rfl⟩⟩
  · simp at hcs
    subst hcs
    simp only [if_true] at hmm
    subst hmm
    rw [hx] at hsz
    have hs := Nat.le_trans (bulk_slice _ _) hsz
    simp only [List.length_map, List.length_range] at hs
    have hz : ∀ i, i < m → ∃ q : Int × Int, V0 i = .int .i64 q.1 ∧ V1 i = .int .i64 q.2 := by
      intro i hi
      obtain ⟨_, _, t0, t1⟩ := hc i hi
      obtain ⟨z0, e0, _, _⟩ := DataW.trod_int Tryd.underlying3 t0
      obtain ⟨z1, e1, _, _⟩ := DataW.trod_int Tryd.underlying3 t1
      simp at e0 e1
      exact ⟨(z0, z1), e0, e1⟩
    obtain ⟨q, hq⟩ := Deep.choose_lt hz
    have hlen : ((List.range len).map q).length = len := by simp
    have hget : ∀ i, i < len → ((List.range len).map q).getD i (0, 0) = q i := by
      intro i hi
      simp [List.getD_eq_getElem?_getD, hi]
    refine ⟨(List.range len).map q, some a, len, m, rfl, hlen.symm, by omega, some a, m, by rw [hlen], ?_⟩
    rw [hlen]
    by_cases h0 : len = 0
    · exact .inl h0
    · right
      obtain ⟨b, off, spot⟩ := a
      have hspot : spot = none := by simpa [Addr.add] using World.cell?_spot (hc 0 (by omega)).1
      subst hspot
      have hcell0 : ∀ i, i < len → W.cell? ⟨b, off + i * 2, none⟩ = some (.int .i64 (q i).1) := fun i hi => by
        have h1 := (hc i (by omega)).1
        rw [Go.WideShapes.add_plain, (hq i (by omega)).1] at h1
        exact h1
      have hcell1 : ∀ i, i < len → W.cell? ⟨b, off + i * 2 + 1, none⟩ = some (.int .i64 (q i).2) := fun i hi => by
        have h1 := (hc i (by omega)).2.1
        rw [Go.WideShapes.add_plain, (hq i (by omega)).2] at h1
        exact h1
      exact ⟨b, off, rfl, lt_of_cellA (hcell0 0 (by omega)), fun i hi => by rw [hget i hi]; exact hcell0 i hi, fun i hi => by rw [hget i hi]; exact hcell1 i hi⟩
/-- an instruction that came in -/
theorem open_inst {fuel : Nat} {cs : List Value} {x : DataW H × List MemPlace} (h : DataW.trod enc Tryd.prog W 0 (fun _ => true) true fuel 49 cs = some x) (hwt : Rows.uptoBulk x.1 ≤ 1048576) : ∃ (N : Iv) (I : In), cs = [.int .i64 N.op, .int .i64 N.x, .int .i64 N.y, .int .i64 N.a, .slice N.r1 N.r2 N.r3] ∧ IM W W.heap.size N I := by
  obtain ⟨xs, n, hf, rfl, hl, hxl, hfs⟩ := DataW.trod_struct Tryd.underlying49 h
  rw [cellsA49] at hl
  simp only [List.size_toArray, List.length_cons, List.length_nil] at hxl
  match xs, hxl, cs, hl with
  | [y0, y1, y2, y3, y4], _, [v0, v1, v2, v3, v4], _ =>
  have g0 := hfs 0 _ rfl
  have g1 := hfs 1 _ rfl
  have g2 := hfs 2 _ rfl
  have g3 := hfs 3 _ rfl
  have g4 := hfs 4 _ rfl
  simp [cellsA3] at g0 g1 g2 g3
  simp [cellsA47] at g4
  have hw4 : Rows.uptoBulk y4.1 ≤ 1048576 := by
    simp only [Rows.uptoBulk] at hwt
    have := bulk_mem (l := [y0, y1, y2, y3, y4].map (·.1)) (d := y4.1) (by simp)
    omega
  obtain ⟨a0, e0, _, w0⟩ := DataW.trod_int Tryd.underlying3 g0
  obtain ⟨a1, e1, _, w1⟩ := DataW.trod_int Tryd.underlying3 g1
  obtain ⟨a2, e2, _, w2⟩ := DataW.trod_int Tryd.underlying3 g2
  obtain ⟨a3, e3, _, w3⟩ := DataW.trod_int Tryd.underlying3 g3
  obtain ⟨R, r1, r2, r3, rfl, hr, hs, hR⟩ := rng_arg g4 hw4
  simp only [List.cons.injEq, and_true] at e0 e1 e2 e3
  subst e0 e1 e2 e3
  exact ⟨⟨a0, a1, a2, a3, r1, r2, r3⟩, ⟨a0, a1, a2, a3, R⟩, rfl, ⟨rfl, rfl, rfl, rfl, hr, by show r2 * 16 ≤ _; omega, hR⟩⟩
theorem open_insts {fuel : Nat} {cs : List Value} {x : DataW H × List MemPlace} (h : DataW.trod enc Tryd.prog W 0 (fun _ => true) true fuel 22 cs = some x) (hwt : Rows.uptoBulk x.1 ≤ 1048576) : ∃ (ad : Option Addr) (n c : Nat) (l : List In), cs = [.slice ad n c] ∧ PI W W.heap.size ad n l := by
  rcases DataW.trod_slice Tryd.underlying22 h with ⟨e, _⟩ | ⟨a, len, cap, elems, rest, n', hn', e, hx0, hb, hlc, hcm, hel, hx, _, _⟩
  · exact ⟨none, 0, 0, [], e, rfl, fun hp => absurd hp (by simp)⟩
  · rw [cellsA49] at hx
    rw [hx0] at hwt
    simp only [Rows.uptoBulk] at hwt
    have each : ∀ i, i < len → ∃ q : Iv × In, (∀ j, j < 5 → W.cell? (a.add (i * 5 + j)) = ([.int .i64 q.1.op, .int .i64 q.1.x, .int .i64 q.1.y, .int .i64 q.1.a, .slice q.1.r1 q.1.r2 q.1.r3] : List Value)[j]?) ∧ IM W W.heap.size q.1 q.2 := fun i hi => by
      have h1 := hx i hi
      rw [List.getElem?_eq_getElem (by omega)] at h1
      obtain ⟨cs', h2, h3⟩ := Option.bind_eq_some_iff.1 h1
      have hm := bulk_mem (l := elems.map (·.1)) (List.mem_map.2 ⟨_, List.getElem_mem (h := by omega), rfl⟩ : (elems[i]'(by omega)).1 ∈ elems.map (·.1))
      obtain ⟨N, I, rfl, ht⟩ := open_inst h3 (by omega)
      obtain ⟨_, _, hc⟩ := World.cells?_some h2
      exact ⟨(N, I), fun j hj => by have := hc j hj; rwa [Deep.add_add] at this, ht⟩
    obtain ⟨q, hq⟩ := Deep.choose_lt each
    refine ⟨some a, len, cap, (List.range len).map fun i => (q i).2, e, by simp, fun hp => ?_⟩
    have hc0 := (hq 0 hp).1 0 (by omega)
    simp only [List.getElem?_cons_zero] at hc0
    have hsp : a.spot = none := by simpa [Addr.add] using World.cell?_spot hc0
    obtain ⟨b, o, sp⟩ := a
    simp only at hsp
    subst hsp
    refine ⟨b, o, fun i => (q i).1, rfl, World.block_lt_of_cell? _ _ hc0, fun i hi => ⟨?_, ?_⟩⟩
    · simp only [List.length_map, List.length_range] at hi
      have h1 := (hq i hi).1
      simp only [Go.WideShapes.add_plain, ← Nat.add_assoc] at h1
      exact ⟨by simpa using h1 0 (by omega), by simpa using h1 1 (by omega), by simpa using h1 2 (by omega), by simpa using h1 3 (by omega), by simpa using h1 4 (by omega)⟩
    · simp only [List.length_map, List.length_range] at hi
      simpa using (hq i hi).2
/-- a program that came in -/
theorem prog_arg {base : Nat} {v : Value} {d : DataW H} {p : List MemPlace} (hok : Value.okWide Tryd.prog W .any base 24 v) (h0 : DataW.Trod enc Tryd.prog W 0 (fun _ => true) true 24 v d p) (hsz : Rows.uptoBulk d ≤ 1048576) :
    ∃ (ad : Option Addr) (n c : Nat) (s k : Int) (l : List In), v = pv ad n c s k ∧ PI W W.heap.size ad n l := by
  obtain ⟨cs, rfl, hs⟩ := okWide_struct Tryd.underlying24 hok
  obtain ⟨fuel, hf⟩ := h0
  obtain ⟨xs, n, hfu, hd, hl, hxl, hfs⟩ := DataW.trod_struct Tryd.underlying24 hf
  obtain ⟨L, hL⟩ : ∃ L, L = (Value.agg cs).cells.toList := ⟨_, rfl⟩
  have hL' : cs.toList = L := by rw [hL]; rfl
  rw [← hL] at hl hfs
  rw [cellsA24] at hl
  simp only [List.size_toArray, List.length_cons, List.length_nil] at hxl
  match xs, hxl, L, hl, hL' with
  | [y0, y1, y2], _, [v0, v1, v2], _, hL' =>
  have g0 := hfs 0 _ rfl
  have g1 := hfs 1 _ rfl
  have g2 := hfs 2 _ rfl
  simp [cellsA3] at g1 g2
  simp [cellsA22] at g0
  have hd1 : d = .agg ([y0, y1, y2].map (·.1)) := congrArg Prod.fst hd
  have hw0 : Rows.uptoBulk y0.1 ≤ 1048576 := by
    rw [hd1] at hsz
    simp only [Rows.uptoBulk] at hsz
    have := bulk_mem (l := [y0, y1, y2].map (·.1)) (d := y0.1) (by simp)
    omega
  obtain ⟨a1, e1, _, _⟩ := DataW.trod_int Tryd.underlying3 g1
  obtain ⟨a2, e2, _, _⟩ := DataW.trod_int Tryd.underlying3 g2
  obtain ⟨ad, n', c, l, e0, h4⟩ := open_insts g0 hw0
  simp only [List.cons.injEq, and_true] at e0 e1 e2
  subst e0 e1 e2
  refine ⟨ad, n', c, a1, a2, l, ?_, h4⟩
  have : cs = [Value.slice ad n' c, .int .i64 a1, .int .i64 a2].toArray := by rw [← hL']
  rw [this]
end
end Go.Proofs.YteanndophopplaaDoor
/- HELPERS: programs and bytes that come in as arguments, by their weights: for the first form. -/
namespace Go.Proofs.YteanndophopplaaDoor
open Go.ChangeShapes Go.WideShapes Go.ChangeAt Go.RowKit
set_option linter.unusedVariables false
set_option linter.unusedSimpArgs false
theorem bytesA5 : Tryd.prog.bytesOf 5 = 1 := by kernel_rfl
theorem bytesA51 : Tryd.prog.bytesOf 51 = 16 := by kernel_rfl
theorem reach_eq : reachBytes = 140737488351232 := by decide
theorem weightsAll_mem {H : Type} {P : Program} {e : TypeId} : ∀ {l : List (DataW H)} {d : DataW H}, d ∈ l → ∀ n ∈ d.weights P e, n ∈ DataW.weightsAll P e l
  | x :: l, d, hd, n, hn => by
    simp only [DataW.weightsAll, List.mem_append]
    rcases List.mem_cons.1 hd with rfl | h
    · exact .inl hn
    · exact .inr (weightsAll_mem h n hn)
set_option maxRecDepth 100000
section
variable {H : Type} {enc : TypeId × Value → H} {W : World}
/-- a []byte that came in -/
theorem bytes_argW {base : Nat} {v : Value} {d : DataW H} {p : List MemPlace} (hok : Value.okWide Tryd.prog W .any base 36 v)
    (h0 : DataW.Trod enc Tryd.prog W 0 (fun _ => true) true 36 v d p) (hsz : ∀ n ∈ d.weights Tryd.prog 36, n ≤ reachBytes) :
    ∃ (l : List Nat) (ad : Option Addr) (n cap : Nat), v = .slice ad n cap ∧ n = l.length ∧ n ≤ cap ∧ n ≤ 140737488355328 ∧ (ad = none → cap = 0) ∧ BA W W.heap.size ad l ∧ (∀ x ∈ l, x < 256) := by
  obtain ⟨a0, len, cap, rfl⟩ := okWide_slice Tryd.underlying36 hok
  obtain ⟨fuel, hf⟩ := h0
  rcases open_ints Tryd.underlying36 Tryd.underlying5 cellsA5 hf with ⟨hcs, hx⟩ | ⟨a, len', cap', zs, hcs, _, hl, hm, hz, hx, hcell, hwz⟩
  · simp [Value.cells] at hcs
    obtain ⟨rfl, rfl, rfl⟩ := hcs
    exact ⟨[], none, 0, 0, rfl, rfl, by omega, by omega, fun _ => rfl, .inl rfl, by simp⟩
  · simp [Value.cells] at hcs
    obtain ⟨rfl, rfl, rfl⟩ := hcs
    simp only [if_true] at hz
    obtain ⟨rfl, rfl⟩ := Prod.mk.inj hx
    have hs := hsz (((lits .u8 (zs.take len) : List (DataW H)).length + (lits .u8 (zs.drop len) : List (DataW H)).length) * Tryd.prog.bytesOf 5) (by simp [DataW.weights, Tryd.underlying36])
    rw [bytesA5, reach_eq] at hs
    simp only [lits, List.length_map, List.length_take, List.length_drop] at hs
    have htl : (zs.take len).length = len := by rw [List.length_take]; omega
    have hb : ∀ z ∈ zs, 0 ≤ z ∧ z ≤ 255 := fun z hz => bounds_u8 (hwz z hz)
    refine ⟨(zs.take len).map Int.toNat, some a, len, cap, rfl, by rw [List.length_map, htl], hl, by omega, (fun h => by cases h), ?_, ?_⟩
    · by_cases h0 : len = 0
      · left; subst h0; simp
      · right
        obtain ⟨b, off, rfl, hc⟩ := ints_at hcell (by omega)
        refine ⟨b, off, rfl, lt_of_cellA (hc 0 (by omega)), fun k hk => ?_⟩
        rw [List.length_map, htl] at hk
        rw [hc k (by omega)]
        have hk' : k < zs.length := by omega
        have := hb zs[k] (List.getElem_mem hk')
        simp [List.getD_eq_getElem?_getD, hk']
        omega
    · intro x hx
      obtain ⟨z, hz, rfl⟩ := List.mem_map.1 hx
      have := hb z (List.mem_of_mem_take hz)
      omega
/-- a []Range that came in -/
theorem rng_argW {fuel : Nat} {v : Value} {x : DataW H × List MemPlace} (hf : DataW.trod enc Tryd.prog W 0 (fun _ => true) true fuel 47 [v] = some x) (hsz : ∀ n ∈ x.1.weights Tryd.prog 47, n ≤ reachBytes) :
    ∃ (L : List (Int × Int)) (ad : Option Addr) (n cap : Nat), v = .slice ad n cap ∧ n = L.length ∧ n * 16 ≤ 140737488351232 ∧ RowAt W.heap.size W (.slice ad n cap) L := by
  rcases Deep.open_slice_pairs Tryd.underlying47 Tryd.underlying51 cellsA51 rfl rfl cellsA3 cellsA3 hf with ⟨hcs, hx⟩ | ⟨a, len, cap, m, k, V0, V1, D0, D1, P0, P1, hcs, _, hl, hm, hmm, hx, hc⟩
  · simp at hcs
    subst hcs
    exact ⟨[], none, 0, 0, rfl, rfl, by omega, ⟨none, 0, rfl, .inl rfl⟩⟩
  · simp at hcs
    subst hcs
    simp only [if_true] at hmm
    subst hmm
    rw [hx] at hsz
    have hs := hsz _ (by simp only [DataW.weights, Tryd.underlying47]; exact List.mem_cons_self)
    rw [bytesA51, reach_eq] at hs
    simp only [List.length_map, List.length_range] at hs
    have hz : ∀ i, i < m → ∃ q : Int × Int, V0 i = .int .i64 q.1 ∧ V1 i = .int .i64 q.2 := by
      intro i hi
      obtain ⟨_, _, t0, t1⟩ := hc i hi
      obtain ⟨z0, e0, _, _⟩ := DataW.trod_int Tryd.underlying3 t0
      obtain ⟨z1, e1, _, _⟩ := DataW.trod_int Tryd.underlying3 t1
      simp at e0 e1
      exact ⟨(z0, z1), e0, e1⟩
    obtain ⟨q, hq⟩ := Deep.choose_lt hz
    have hlen : ((List.range len).map q).length = len := by simp
    have hget : ∀ i, i < len → ((List.range len).map q).getD i (0, 0) = q i := by
      intro i hi
      simp [List.getD_eq_getElem?_getD, hi]
    refine ⟨(List.range len).map q, some a, len, m, rfl, hlen.symm, by omega, some a, m, by rw [hlen], ?_⟩
    rw [hlen]
    by_cases h0 : len = 0
    · exact .inl h0
    · right
      obtain ⟨b, off, spot⟩ := a
      have hspot : spot = none := by simpa [Addr.add] using World.cell?_spot (hc 0 (by omega)).1
      subst hspot
      have hcell0 : ∀ i, i < len → W.cell? ⟨b, off + i * 2, none⟩ = some (.int .i64 (q i).1) := fun i hi => by
        have h1 := (hc i (by omega)).1
        rw [Go.WideShapes.add_plain, (hq i (by omega)).1] at h1
        exact h1
      have hcell1 : ∀ i, i < len → W.cell? ⟨b, off + i * 2 + 1, none⟩ = some (.int .i64 (q i).2) := fun i hi => by
        have h1 := (hc i (by omega)).2.1
        rw [Go.WideShapes.add_plain, (hq i (by omega)).2] at h1
        exact h1
      exact ⟨b, off, rfl, lt_of_cellA (hcell0 0 (by omega)), fun i hi => by rw [hget i hi]; exact hcell0 i hi, fun i hi => by rw [hget i hi]; exact hcell1 i hi⟩
/-- an instruction that came in -/
theorem open_instW {fuel : Nat} {cs : List Value} {x : DataW H × List MemPlace} (h : DataW.trod enc Tryd.prog W 0 (fun _ => true) true fuel 49 cs = some x) (hwt : ∀ n ∈ x.1.weights Tryd.prog 49, n ≤ reachBytes) : ∃ (N : Iv) (I : In), cs = [.int .i64 N.op, .int .i64 N.x, .int .i64 N.y, .int .i64 N.a, .slice N.r1 N.r2 N.r3] ∧ IM W W.heap.size N I := by
  obtain ⟨xs, n, hf, rfl, hl, hxl, hfs⟩ := DataW.trod_struct Tryd.underlying49 h
  rw [cellsA49] at hl
  simp only [List.size_toArray, List.length_cons, List.length_nil] at hxl
  match xs, hxl, cs, hl with
  | [y0, y1, y2, y3, y4], _, [v0, v1, v2, v3, v4], _ =>
  have g0 := hfs 0 _ rfl
  have g1 := hfs 1 _ rfl
  have g2 := hfs 2 _ rfl
  have g3 := hfs 3 _ rfl
  have g4 := hfs 4 _ rfl
  simp [cellsA3] at g0 g1 g2 g3
  simp [cellsA47] at g4
  have hw4 : ∀ n ∈ y4.1.weights Tryd.prog 47, n ≤ reachBytes := fun n hn => hwt n (by
    simp only [DataW.weights, Tryd.underlying49]
    exact DataW.weights_mem_each (j := 4) (by simp) (by simp) n hn)
  obtain ⟨a0, e0, _, w0⟩ := DataW.trod_int Tryd.underlying3 g0
  obtain ⟨a1, e1, _, w1⟩ := DataW.trod_int Tryd.underlying3 g1
  obtain ⟨a2, e2, _, w2⟩ := DataW.trod_int Tryd.underlying3 g2
  obtain ⟨a3, e3, _, w3⟩ := DataW.trod_int Tryd.underlying3 g3
  obtain ⟨R, r1, r2, r3, rfl, hr, hs, hR⟩ := rng_argW g4 hw4
  simp only [List.cons.injEq, and_true] at e0 e1 e2 e3
  subst e0 e1 e2 e3
  exact ⟨⟨a0, a1, a2, a3, r1, r2, r3⟩, ⟨a0, a1, a2, a3, R⟩, rfl, ⟨rfl, rfl, rfl, rfl, hr, by show r2 * 16 ≤ _; omega, hR⟩⟩
theorem open_instsW {fuel : Nat} {cs : List Value} {x : DataW H × List MemPlace} (h : DataW.trod enc Tryd.prog W 0 (fun _ => true) true fuel 22 cs = some x) (hwt : ∀ n ∈ x.1.weights Tryd.prog 22, n ≤ reachBytes) : ∃ (ad : Option Addr) (n c : Nat) (l : List In), cs = [.slice ad n c] ∧ PI W W.heap.size ad n l := by
  rcases DataW.trod_slice Tryd.underlying22 h with ⟨e, _⟩ | ⟨a, len, cap, elems, rest, n', hn', e, hx0, hb, hlc, hcm, hel, hx, _, _⟩
  · exact ⟨none, 0, 0, [], e, rfl, fun hp => absurd hp (by simp)⟩
  · rw [cellsA49] at hx
    have each : ∀ i, i < len → ∃ q : Iv × In, (∀ j, j < 5 → W.cell? (a.add (i * 5 + j)) = ([.int .i64 q.1.op, .int .i64 q.1.x, .int .i64 q.1.y, .int .i64 q.1.a, .slice q.1.r1 q.1.r2 q.1.r3] : List Value)[j]?) ∧ IM W W.heap.size q.1 q.2 := fun i hi => by
      have h1 := hx i hi
      rw [List.getElem?_eq_getElem (by omega)] at h1
      obtain ⟨cs', h2, h3⟩ := Option.bind_eq_some_iff.1 h1
      obtain ⟨N, I, rfl, ht⟩ := open_instW h3 (fun n hn => hwt n (by rw [hx0]; simp only [DataW.weights, Tryd.underlying22]; exact List.mem_cons_of_mem _ (List.mem_append_left _ (weightsAll_mem (List.mem_map.2 ⟨_, List.getElem_mem _, rfl⟩) n hn))))
      obtain ⟨_, _, hc⟩ := World.cells?_some h2
      exact ⟨(N, I), fun j hj => by have := hc j hj; rwa [Deep.add_add] at this, ht⟩
    obtain ⟨q, hq⟩ := Deep.choose_lt each
    refine ⟨some a, len, cap, (List.range len).map fun i => (q i).2, e, by simp, fun hp => ?_⟩
    have hc0 := (hq 0 hp).1 0 (by omega)
    simp only [List.getElem?_cons_zero] at hc0
    have hsp : a.spot = none := by simpa [Addr.add] using World.cell?_spot hc0
    obtain ⟨b, o, sp⟩ := a
    simp only at hsp
    subst hsp
    refine ⟨b, o, fun i => (q i).1, rfl, World.block_lt_of_cell? _ _ hc0, fun i hi => ⟨?_, ?_⟩⟩
    · simp only [List.length_map, List.length_range] at hi
      have h1 := (hq i hi).1
      simp only [Go.WideShapes.add_plain, ← Nat.add_assoc] at h1
      exact ⟨by simpa using h1 0 (by omega), by simpa using h1 1 (by omega), by simpa using h1 2 (by omega), by simpa using h1 3 (by omega), by simpa using h1 4 (by omega)⟩
    · simp only [List.length_map, List.length_range] at hi
      simpa using (hq i hi).2
/-- a program that came in -/
theorem prog_argW {base : Nat} {v : Value} {d : DataW H} {p : List MemPlace} (hok : Value.okWide Tryd.prog W .any base 24 v) (h0 : DataW.Trod enc Tryd.prog W 0 (fun _ => true) true 24 v d p) (hsz : ∀ n ∈ d.weights Tryd.prog 24, n ≤ reachBytes) :
    ∃ (ad : Option Addr) (n c : Nat) (s k : Int) (l : List In), v = pv ad n c s k ∧ PI W W.heap.size ad n l := by
  obtain ⟨cs, rfl, hs⟩ := okWide_struct Tryd.underlying24 hok
  obtain ⟨fuel, hf⟩ := h0
  obtain ⟨xs, n, hfu, hd, hl, hxl, hfs⟩ := DataW.trod_struct Tryd.underlying24 hf
  obtain ⟨L, hL⟩ : ∃ L, L = (Value.agg cs).cells.toList := ⟨_, rfl⟩
  have hL' : cs.toList = L := by rw [hL]; rfl
  rw [← hL] at hl hfs
  rw [cellsA24] at hl
  simp only [List.size_toArray, List.length_cons, List.length_nil] at hxl
  match xs, hxl, L, hl, hL' with
  | [y0, y1, y2], _, [v0, v1, v2], _, hL' =>
  have g0 := hfs 0 _ rfl
  have g1 := hfs 1 _ rfl
  have g2 := hfs 2 _ rfl
  simp [cellsA3] at g1 g2
  simp [cellsA22] at g0
  have hd1 : d = .agg ([y0, y1, y2].map (·.1)) := congrArg Prod.fst hd
  have hw0 : ∀ n ∈ y0.1.weights Tryd.prog 22, n ≤ reachBytes := fun n hn => hsz n (by
    rw [hd1]
    simp only [DataW.weights, Tryd.underlying24]
    exact DataW.weights_mem_each (j := 0) (by simp) (by simp) n hn)
  obtain ⟨a1, e1, _, _⟩ := DataW.trod_int Tryd.underlying3 g1
  obtain ⟨a2, e2, _, _⟩ := DataW.trod_int Tryd.underlying3 g2
  obtain ⟨ad, n', c, l, e0, h4⟩ := open_instsW g0 hw0
  simp only [List.cons.injEq, and_true] at e0 e1 e2
  subst e0 e1 e2
  refine ⟨ad, n', c, a1, a2, l, ?_, h4⟩
  have : cs = [Value.slice ad n' c, .int .i64 a1, .int .i64 a2].toArray := by rw [← hL']
  rw [this]
end
end Go.Proofs.YteanndophopplaaDoor
/- HELPERS: what the row's condition on the package's words gives. -/
namespace Go.Proofs.YteanndophopplaaDoor
open Go.ChangeShapes Go.WideShapes Go.ChangeAt Go.RowKit
set_option linter.unusedVariables false
set_option linter.unusedSimpArgs false
set_option maxRecDepth 100000
theorem words_cell {H : Type} {enc : TypeId × Value → H} {w : World} {base fuel : Nat} {sp : Nat → Bool} {held : Bool} {cs : List Value} {p : List MemPlace}
    (h : DataW.trod enc Tryd.prog w base sp held fuel 92 cs = some (Rows.laid_heron_code_words, p)) : cs[5]? = some (.string ⟨#[109, 97, 116, 99, 104]⟩) := by
  obtain ⟨xs, m, _, hx, hl, hxl, he⟩ := DataW.trod_array Tryd.underlying92 h
  rw [cellsA92] at hl
  simp only [cellsA9] at he
  match xs, hxl with
  | [x0, x1, x2, x3, x4, x5, x6, x7], _ =>
    simp only [Rows.laid_heron_code_words, Prod.mk.injEq, DataW.agg.injEq, List.map_cons, List.map_nil, List.cons.injEq, and_true] at hx
    obtain ⟨⟨e0, e1, e2, e3, e4, e5, e6, e7⟩, _⟩ := hx
    have k5 := he 5 (by decide)
    match cs, hl with
    | [c0, c1, c2, c3, c4, c5, c6, c7], _ =>
      simp at k5
      obtain ⟨s, e, hs, _⟩ := DataW.trod_string Tryd.underlying9 k5
      rw [hs] at e5
      simp only [List.cons.injEq, and_true] at e
      simp at e5
      have e6 : s = ⟨#[109, 97, 116, 99, 104]⟩ := by
        cases s with
        | mk a => congr 1; exact Array.toList_inj.1 (by simpa using e5.symm)
      simp [e, e6]
theorem gw_of_laid {W : World} (h : laidMetH Tryd.prog Rows.codeSpoiltUptoRow.laid W) : Gw W ∧ 0 < W.heap.size := by
  have h' : laidMet Tryd.prog Rows.codeSpoiltUptoRow.laid W := h
  obtain ⟨ps, ⟨g1, t1, cs1, fuel1, p1, q1, hg1, ht1, hvar1, hd1, hrest1, _⟩, _⟩ := h'
  obtain ⟨g2, t2, cs2, fuel2, p2, q2, hg2, ht2, hvar2, hd2, hrest2, _⟩ := hrest1
  obtain ⟨g3, t3, cs3, fuel3, p3, q3, hg3, ht3, hvar3, hd3, hrest3, _⟩ := hrest2
  obtain ⟨g4, t4, cs4, fuel4, p4, q4, hg4, ht4, hvar4, hd4, _, _⟩ := hrest3
  obtain rfl : g4 = 0 := Option.some.inj (hg4.symm.trans (by kernel_rfl))
  obtain rfl : t4 = 92 := Option.some.inj (ht4.symm.trans (by kernel_rfl))
  have hc : W.cell? ⟨0, 5, none⟩ = some (.string ⟨#[109, 97, 116, 99, 104]⟩) := by
    rw [World.var?_cell hg4 hvar4 5, ← Array.getElem?_toList, words_cell hd4]
  exact ⟨hc, by have := lt_of_cellA hc; exact this⟩
end Go.Proofs.YteanndophopplaaDoor
namespace Go.Proofs.YteanndophopplaaDoor
open Go.ChangeShapes Go.WideShapes Go.ChangeAt Go.RowKit
def tabP : Array Value := #[.int .u64 1, .int .u64 10, .int .u64 100, .int .u64 1000, .int .u64 10000, .int .u64 100000, .int .u64 1000000, .int .u64 10000000, .int .u64 100000000, .int .u64 1000000000, .int .u64 10000000000, .int .u64 100000000000, .int .u64 1000000000000, .int .u64 10000000000000, .int .u64 100000000000000, .int .u64 1000000000000000, .int .u64 10000000000000000, .int .u64 100000000000000000, .int .u64 1000000000000000000, .int .u64 10000000000000000000]
def tabX : Array Value := #[.int .u8 0, .int .u8 1, .int .u8 28, .int .u8 2, .int .u8 29, .int .u8 14, .int .u8 24, .int .u8 3, .int .u8 30, .int .u8 22, .int .u8 20, .int .u8 15, .int .u8 25, .int .u8 17, .int .u8 4, .int .u8 8, .int .u8 31, .int .u8 27, .int .u8 13, .int .u8 23, .int .u8 21, .int .u8 19, .int .u8 16, .int .u8 7, .int .u8 26, .int .u8 12, .int .u8 18, .int .u8 6, .int .u8 11, .int .u8 5, .int .u8 10, .int .u8 9]
def tabY : Array Value := #[.int .u8 0, .int .u8 1, .int .u8 56, .int .u8 2, .int .u8 57, .int .u8 49, .int .u8 28, .int .u8 3, .int .u8 61, .int .u8 58, .int .u8 42, .int .u8 50, .int .u8 38, .int .u8 29, .int .u8 17, .int .u8 4, .int .u8 62, .int .u8 47, .int .u8 59, .int .u8 36, .int .u8 45, .int .u8 43, .int .u8 51, .int .u8 22, .int .u8 53, .int .u8 39, .int .u8 33, .int .u8 30, .int .u8 24, .int .u8 18, .int .u8 12, .int .u8 5, .int .u8 63, .int .u8 55, .int .u8 48, .int .u8 27, .int .u8 60, .int .u8 41, .int .u8 37, .int .u8 16, .int .u8 46, .int .u8 35, .int .u8 44, .int .u8 21, .int .u8 52, .int .u8 32, .int .u8 23, .int .u8 11, .int .u8 54, .int .u8 26, .int .u8 40, .int .u8 15, .int .u8 34, .int .u8 20, .int .u8 31, .int .u8 10, .int .u8 25, .int .u8 14, .int .u8 19, .int .u8 9, .int .u8 13, .int .u8 8, .int .u8 7, .int .u8 6]
def tabW : Array Value := #[.string ⟨#[]⟩, .string ⟨#[114, 117, 110, 101]⟩, .string ⟨#[97, 108, 116]⟩, .string ⟨#[99, 97, 112]⟩, .string ⟨#[97, 115, 115, 101, 114, 116]⟩, .string ⟨#[109, 97, 116, 99, 104]⟩, .string ⟨#[102, 97, 105, 108]⟩, .string ⟨#[110, 111, 112]⟩]
example : Tryd.prog.globalNamed "heron/code.words" = some 0 := by kernel_rfl
example : Tryd.prog.globalNamed "internal/strconv.uint64pow10" = some 1 := by kernel_rfl
example : Tryd.prog.globalNamed "math/bits.deBruijn32tab" = some 2 := by kernel_rfl
example : Tryd.prog.globalNamed "math/bits.deBruijn64tab" = some 3 := by kernel_rfl
/-- a world for the witness: the tables hold what their initialisers lay -/
def fixWorld (w : World) : World :=
  { w with heap := (((w.heap.modify 0 fun
      | .cells _ t frozen => .cells tabW t frozen
      | o => o).modify 1 fun
      | .cells _ t frozen => .cells tabP t frozen
      | o => o).modify 2 fun
      | .cells _ t frozen => .cells tabX t frozen
      | o => o).modify 3 fun
      | .cells _ t frozen => .cells tabY t frozen
      | o => o }
end Go.Proofs.YteanndophopplaaDoor
