/- HELPERS: a tree that came in has no list of ranges beyond the form's bound. -/
import Derived.Test.YtdidopgenhpakaaHa
import Derived.Test.YtdidopgenhpakaaAr
namespace Go.Proofs.Ytdidopgenhpakaa
open Go.RowKit Go.Deep Go.ChangeShapes Go.WideShapes
set_option linter.unusedVariables false
set_option linter.unusedSimpArgs false
theorem smallL_of : ∀ {ts : List Tn}, (∀ t ∈ ts, t.small = true) → smallL ts = true
  | [], _ => rfl
  | t :: ts, h => by simp only [smallL, Bool.and_eq_true]; exact ⟨h t (by simp), smallL_of fun u hu => h u (by simp [hu])⟩
theorem weightsAll_mem {H : Type} {P : Program} {e : TypeId} : ∀ {l : List (DataW H)} {d : DataW H}, d ∈ l → ∀ n ∈ d.weights P e, n ∈ DataW.weightsAll P e l
  | x :: l, d, hd, n, hn => by
    simp only [DataW.weightsAll, List.mem_append]
    rcases List.mem_cons.1 hd with rfl | h
    · exact .inl hn
    · exact .inr (weightsAll_mem h n hn)
section
variable {H : Type} {enc : TypeId × Value → H} {P : Program} {w : World} {base : Nat} {spare : Nat → Bool} {held : Bool} {tn ts tr te ti tb tg : TypeId} {f : Nat → Field} {g0 g1 : Field}
theorem ranges_small (S : NodeTy P tn ts tr te ti tb tg f g0 g1) (hby : P.bytesOf te = 16) {fuel : Nat} {cs : List Value} {x : DataW H × List MemPlace} (h : DataW.trod enc P w base spare held fuel tr cs = some x) (hw : ∀ n ∈ x.1.weights P tr, n ≤ reachBytes) {ad : Option Addr} {n c : Nat} (hc : cs = [.slice ad n c]) : n * 16 ≤ 140737488351232 := by
  rcases DataW.trod_slice S.hr h with ⟨e, _⟩ | ⟨a, len, cap, elems, rest, n', _, e, hx, _, _, _, hel, _⟩
  · rw [hc] at e
    simp at e
    omega
  · rw [hc] at e
    simp at e
    have := hw ((elems.length + rest.length) * P.bytesOf te) (by rw [hx]; simp [DataW.weights, S.hr])
    rw [hby] at this
    have hr : reachBytes = 140737488351232 := by decide
    omega
theorem open_nodeS (S : NodeTy P tn ts tr te ti tb tg f g0 g1) (hby : P.bytesOf te = 16) : ∀ (fuel : Nat) (cs : List Value) (x : DataW H × List MemPlace), DataW.trod enc P w base spare held fuel tn cs = some x → (∀ n ∈ x.1.weights P tn, n ≤ reachBytes) → ∃ N t, cs = Nv.cs N ∧ TI w w.heap.size N t ∧ t.small = true := by
  intro fuel
  induction fuel using Nat.strongRecOn with
  | _ fuel ih =>
  intro cs x h hwt
  obtain ⟨xs, n, hf, rfl, hl, hxl, hfs⟩ := DataW.trod_struct S.hn h
  rw [S.cn] at hl
  simp only [List.size_toArray, List.length_cons, List.length_nil] at hxl
  obtain ⟨t0, t1, t2, t3, t4, t5, t6, t7, t8⟩ := S.ty
  match xs, hxl, cs, hl with
  | [y0, y1, y2, y3, y4, y5, y6, y7, y8], _, [v0, v1, v2, v3, v4, v5, v6, v7, v8], _ =>
  have g0 := hfs 0 (f 0) rfl
  have g1 := hfs 1 (f 1) rfl
  have g2 := hfs 2 (f 2) rfl
  have g3 := hfs 3 (f 3) rfl
  have g4 := hfs 4 (f 4) rfl
  have g5 := hfs 5 (f 5) rfl
  have g6 := hfs 6 (f 6) rfl
  have g7 := hfs 7 (f 7) rfl
  have g8 := hfs 8 (f 8) rfl
  simp [t0, S.of, S.ci] at g0
  simp [t1, S.of, S.cr] at g1
  simp [t2, S.of, S.ci] at g2
  simp [t3, S.of, S.cs] at g3
  simp [t4, S.of, S.ci] at g4
  simp [t5, S.of, S.ci] at g5
  simp [t6, S.of, S.cb] at g6
  simp [t7, S.of, S.ci] at g7
  simp [t8, S.of, S.cg] at g8
  have hw1 : ∀ n ∈ y1.1.weights P tr, n ≤ reachBytes := fun n hn => hwt n (by
    simp only [DataW.weights, S.hn]
    exact DataW.weights_mem_each (j := 1) (by simp [t1]) (by simp) n hn)
  have hw3 : ∀ n ∈ y3.1.weights P ts, n ≤ reachBytes := fun n hn => hwt n (by
    simp only [DataW.weights, S.hn]
    exact DataW.weights_mem_each (j := 3) (by simp [t3]) (by simp) n hn)
  obtain ⟨k, e0, _, w0⟩ := DataW.trod_int S.hi g0
  obtain ⟨a2, e2, _, w2⟩ := DataW.trod_int S.hi g2
  obtain ⟨a4, e4, _, w4⟩ := DataW.trod_int S.hi g4
  obtain ⟨a5, e5, _, w5⟩ := DataW.trod_int S.hi g5
  obtain ⟨a7, e7, _, w7⟩ := DataW.trod_int S.hi g7
  obtain ⟨a6, e6, _⟩ := DataW.trod_bool S.hb g6
  obtain ⟨a8, e8, _, w8⟩ := DataW.trod_string S.hg g8
  obtain ⟨r1, r2, r3, R, e1, hr, hrc, hrm, hR, hRk⟩ := open_ranges S g1
  have hsr : R.length * 16 ≤ 140737488351232 := by rw [← hr]; exact ranges_small S hby g1 hw1 e1
  simp only [List.cons.injEq, and_true] at e0 e1 e2 e4 e5 e6 e7 e8
  subst e0 e1 e2 e4 e5 e6 e7 e8
  rcases DataW.trod_slice S.hs g3 with ⟨e3, _⟩ | ⟨a, len, cap, elems, rest, n', hn', e3, hy3, hb, hlc, hcm, hel, hx, _, _⟩
  · simp only [List.cons.injEq, and_true] at e3
    subst e3
    exact ⟨⟨k, r1, r2, r3, a2, none, 0, 0, a4, a5, a6, a7, a8⟩, _, rfl, .mk (ts := []) (ND := fun _ => default) ⟨i64ok w0, i64ok w2, i64ok w4, i64ok w5, i64ok w7, w8, ⟨hrc, hrm⟩, ⟨Nat.le_refl _, by simp [maxLen]⟩⟩ hr hR hRk rfl (fun hp => absurd hp (by simp)) (fun i hi => absurd hi (by simp)), by simp only [Tn.small, smallL, Bool.and_true, decide_eq_true_eq]; exact hsr⟩
  · simp only [List.cons.injEq, and_true] at e3
    subst e3
    rw [S.cn] at hx
    have each : ∀ i, i < len → ∃ q : Nv × Tn, (∀ j, j < 9 → w.cell? (a.add (i * 9 + j)) = (Nv.cs q.1)[j]?) ∧ TI w w.heap.size q.1 q.2 ∧ q.2.small = true := fun i hi => by
      have h1 := hx i hi
      rw [List.getElem?_eq_getElem (by omega)] at h1
      obtain ⟨cs', h2, h3⟩ := Option.bind_eq_some_iff.1 h1
      obtain ⟨N, t, rfl, ht, hts⟩ := ih n' (by omega) cs' _ h3 (fun n hn => hw3 n (by rw [hy3]; simp only [DataW.weights, S.hs]; exact List.mem_cons_of_mem _ (List.mem_append_left _ (weightsAll_mem (List.mem_map.2 ⟨_, List.getElem_mem _, rfl⟩) n hn))))
      obtain ⟨_, _, hc⟩ := World.cells?_some h2
      exact ⟨(N, t), fun j hj => by have := hc j hj; rwa [add_add] at this, ht, hts⟩
    obtain ⟨q, hq⟩ := choose_lt each
    refine ⟨⟨k, r1, r2, r3, a2, some a, len, cap, a4, a5, a6, a7, a8⟩, _, rfl, .mk (ts := (List.range len).map fun i => (q i).2) (ND := fun i => (q i).1) ⟨i64ok w0, i64ok w2, i64ok w4, i64ok w5, i64ok w7, w8, ⟨hrc, hrm⟩, ⟨hlc, hcm⟩⟩ hr hR hRk (by simp) (fun hp => ?_) (fun i hi => ?_), ?_⟩
    · simp only [List.length_map, List.length_range] at hp ⊢
      have hc0 := (hq 0 hp).1 0 (by omega)
      simp only [Nv.cs, List.getElem?_cons_zero] at hc0
      have hsp : a.spot = none := by simpa [Addr.add] using World.cell?_spot hc0
      obtain ⟨b, o, sp⟩ := a
      simp only at hsp
      subst hsp
      refine ⟨b, o, rfl, World.block_lt_of_cell? _ _ hc0, fun i hi => ?_⟩
      have h1 := (hq i hi).1
      simp only [add_plain, ← Nat.add_assoc] at h1
      exact ⟨by simpa using h1 0 (by omega), by simpa using h1 1 (by omega), by simpa using h1 2 (by omega), by simpa using h1 3 (by omega), by simpa using h1 4 (by omega), by simpa using h1 5 (by omega), by simpa using h1 6 (by omega), by simpa using h1 7 (by omega), by simpa using h1 8 (by omega)⟩
    · simp only [List.length_map, List.length_range] at hi
      simpa using (hq i hi).2.1
    · simp only [Tn.small, Bool.and_eq_true, decide_eq_true_eq]
      refine ⟨hsr, smallL_of fun t ht => ?_⟩
      obtain ⟨i, hi, rfl⟩ := List.mem_map.1 ht
      exact (hq i (List.mem_range.1 hi)).2.2
end
set_option maxRecDepth 100000
section
variable {H : Type} {enc : TypeId × Value → H} {W : World} {base : Nat} {v : Value} {d : DataW H} {p : List MemPlace}
/-- a tree that came in, with its sizes -/
theorem node_argS (hok : Value.okWide Try.prog W .any base 25 v) (h0 : DataW.Trod enc Try.prog W 0 (fun _ => true) true 25 v d p) (hsz : ∀ n ∈ d.weights Try.prog 25, n ≤ reachBytes) : ∃ N t, v = Nv.v N ∧ TI W W.heap.size N t ∧ t.small = true := by
  obtain ⟨cs, rfl, hs⟩ := okWide_struct Try.underlying25 hok
  obtain ⟨fuel, hf⟩ := h0
  obtain ⟨N, t, h1, h2, h3⟩ := open_nodeS nodeTy (by kernel_rfl) fuel _ _ hf hsz
  have h1' : cs.toList = Nv.cs N := h1
  refine ⟨N, t, ?_, h2, h3⟩
  have : cs = (Nv.cs N).toArray := by rw [← h1']
  rw [this]
end
end Go.Proofs.Ytdidopgenhpakaa
