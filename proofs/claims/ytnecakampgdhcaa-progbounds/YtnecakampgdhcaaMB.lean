/- HELPERS: the whole program of a simple tree; a new row. -/
import Derived.Test.YtnecakampgdhcaaBb
import Derived.Test.YtnecakampgdhcaaAe
import Derived.Test.YtnecakampgdhcaaSc
/- HELPERS: the maker's row as instructions; leaves, groups, rows laid down. -/
namespace Go.Proofs.Ytnecakampgdhcaa
open Go.RowKit
set_option linter.unusedVariables false
set_option linter.unusedSimpArgs false
theorem Fr.bel {base : Nat} {A : Nat → Prop} {w w' : World} (h : Fr base w w') (hA : ∀ b, A b → b < base) : ∀ b, A b → w'.heap[b]? = w.heap[b]? := fun b hb => h.low b (hA b hb)
/-- an instruction whose ranges lie in blocks of A -/
structure IMp (w : World) (A : Nat → Prop) (N : Iv) (I : In) : Prop where
  op : N.op = I.op
  x : N.x = I.x
  y : N.y = I.y
  a : N.a = I.a
  len : N.r2 = I.R.length
  sm : N.r2 * 16 ≤ 140737488351232
  rp : RP w A N.r1 I.R
theorem IMp.kept {w w' : World} {A : Nat → Prop} {N : Iv} {I : In} (h : IMp w A N I) (hk : ∀ b, A b → w'.heap[b]? = w.heap[b]?) : IMp w' A N I := ⟨h.op, h.x, h.y, h.a, h.len, h.sm, h.rp.kept hk (fun _ h => h)⟩
/-- the maker's row of instructions -/
def MKL (w : World) (m base : Nat) (A : Nat → Prop) (l : List In) : Prop := ∃ is : List Iv, MK w m base l.length (is.flatMap Iv.cs) ∧ is.length = l.length ∧ ∀ k (h : k < is.length) (h' : k < l.length), IMp w A is[k] l[k]
theorem MKL.below {w w' : World} {m base : Nat} {A : Nat → Prop} {l : List In} (h : MKL w m base A l) (hb : Below w.heap.size w w') (hA : ∀ b, A b → b < base) (hs : base ≤ w.heap.size) : MKL w' m base A l := by
  obtain ⟨is, h1, h2, h3⟩ := h
  exact ⟨is, h1.below hb, h2, fun k hk hk' => (h3 k hk hk').kept fun b hb' => hb.block b (by have := hA b hb'; omega)⟩
theorem MKL.cell {w : World} {m base : Nat} {A : Nat → Prop} {l : List In} (h : MKL w m base A l) : ∃ z1 c, w.cell? ⟨m, 0, none⟩ = some (.slice z1 l.length c) := by
  obtain ⟨is, ⟨z1, c, h1, _⟩, _⟩ := h
  exact ⟨z1, c, Joins.cell_of_block h1 0⟩
theorem MKL.lt {w : World} {m base : Nat} {A : Nat → Prop} {l : List In} (h : MKL w m base A l) : m < w.heap.size := by
  obtain ⟨is, ⟨z1, c, h1, _⟩, _⟩ := h
  exact (Array.getElem?_eq_some_iff.1 h1).1
theorem next65l {w : World} {m base : Nat} {A : Nat → Prop} {l : List In} (h : MKL w m base A l) : Calls Try.prog 65 #[pt m] w fun e w' => e = .returned (.int .i64 (l.length : Int)) ∧ w' = w := by
  obtain ⟨z1, c, hc⟩ := h.cell
  exact next65c m 0 z1 l.length c w hc
theorem im_bare (w : World) (A : Nat → Prop) (op x y a : Int) : IMp w A ⟨op, x, y, a, none, 0, 0⟩ ⟨op, x, y, a, []⟩ := ⟨rfl, rfl, rfl, rfl, rfl, by simp, fun h => absurd rfl h⟩
theorem MKL.snoc {w w' : World} {m base : Nat} {A : Nat → Prop} {l : List In} {is : List Iv} {N : Iv} {I : In} (h2 : is.length = l.length) (h3 : ∀ k (h : k < is.length) (h' : k < l.length), IMp w A is[k] l[k]) (hI : IMp w A N I) (hM : MK w' m base (l.length + 1) (is.flatMap Iv.cs ++ Iv.cs N)) (hb : ∀ b, A b → w'.heap[b]? = w.heap[b]?) : MKL w' m base A (l ++ [I]) := by
  refine ⟨is ++ [N], ?_, by simp [h2], fun k hk hk' => ?_⟩
  · rw [List.length_append, List.flatMap_append]; simpa using hM
  · by_cases hl : k < l.length
    · rw [List.getElem_append_left (by omega), List.getElem_append_left hl]
      exact (h3 k (by omega) hl).kept hb
    · simp only [List.length_append, List.length_cons, List.length_nil] at hk hk'
      have e : k = l.length := by omega
      subst e
      rw [List.getElem_append_right (by omega), List.getElem_append_right (Nat.le_refl _)]
      simp only [h2, Nat.sub_self, List.getElem_cons_zero]
      exact hI.kept hb
theorem addL {w : World} {m base : Nat} {A : Nat → Prop} {l : List In} (N : Iv) (I : In) (h : MKL w m base A l) (hI : IMp w A N I) (hm : base ≤ m) (hA : ∀ b, A b → b < base) (hn : l.length ≤ 20000) (hb : base ≤ w.heap.size) :
    Calls Try.prog 42 #[pt m, N.v] w fun e w' => e = .returned (.tuple #[]) ∧ MKL w' m base A (l ++ [I]) ∧ Fr base w w' := by
  obtain ⟨is, h1, h2, h3⟩ := h
  refine (add42' N h1 hm hn hb).mono ?_
  rintro e w' ⟨rfl, hM, hf⟩
  exact ⟨rfl, MKL.snoc h2 h3 hI hM (hf.bel hA), hf⟩
theorem stepL {w : World} {m base : Nat} {A : Nat → Prop} {l : List In} (op yy aa : Int) (r1 : Option Addr) (r2 r3 : Nat) (R : List (Int × Int)) (h : MKL w m base A l) (hI : IMp w A ⟨op, (l.length : Int) + 1, yy, aa, r1, r2, r3⟩ ⟨op, (l.length : Int) + 1, yy, aa, R⟩) (hm : base ≤ m) (hA : ∀ b, A b → b < base) (hn : l.length ≤ 20000) (hb : base ≤ w.heap.size) :
    Calls Try.prog 48 #[pt m, (⟨op, 0, yy, aa, r1, r2, r3⟩ : Iv).v] w fun e w' => e = .returned (.tuple #[]) ∧ MKL w' m base A (l ++ [⟨op, (l.length : Int) + 1, yy, aa, R⟩]) ∧ Fr base w w' := by
  obtain ⟨is, h1, h2, h3⟩ := h
  refine (step48 op yy aa r1 r2 r3 h1 hm hn hb).mono ?_
  rintro e w' ⟨rfl, hM, hf⟩
  exact ⟨rfl, MKL.snoc h2 h3 hI hM (hf.bel hA), hf⟩
/-- what laying down a tree does -/
abbrev LP (F base : Nat) (A : Nat → Prop) (N : Nv) (t : Tn) : Prop := ∀ (w : World) (m : Nat) (l : List In), MKL w m base A l → base ≤ m → base ≤ w.heap.size → TP w A N t → l.length + t.len ≤ 20000 →
  Calls Try.prog F #[pt m, N.v] w fun e w' => e = .returned (.tuple #[]) ∧ MKL w' m base A (l ++ t.lay l.length) ∧ Fr base w w'
theorem drew_below (w : World) : Below w.heap.size w w.drew := ⟨rfl, rfl, rfl, Nat.le_refl _, fun _ _ => rfl⟩
set_option maxRecDepth 100000 in
set_option maxHeartbeats 8000000 in
theorem empty100 {base : Nat} {A : Nat → Prop} {k a2 a4 a5 a7 : Int} {a6 : Bool} {a8 : ByteArray} {r1 s1 : Option Addr} {r2 r3 s2 s3 : Nat} {R : List (Int × Int)} {ts : List Tn} (hA : ∀ b, A b → b < base) (k1 : k ≠ 2) (k2 : k ≠ 3) (k3 : k ≠ 4) (k4 : k ≠ 5) (k5 : k ≠ 6) (k6 : k ≠ 7) : LP 100 base A ⟨k, r1, r2, r3, a2, s1, s2, s3, a4, a5, a6, a7, a8⟩ (.mk k R a2 ts a4 a5 a6 a7 a8) := by
  intro w m l hM hm hb hT hlen
  obtain ⟨U, hU⟩ : ∃ U, U = w.alloc (.cells #[.int .i64 k, .slice r1 r2 r3, .int .i64 a2, .slice s1 s2 s3, .int .i64 a4, .int .i64 a5, .bool a6, .int .i64 a7, .string a8] 39) := ⟨_, rfl⟩
  have hbU : Below w.heap.size w U := by rw [hU]; exact Joins.below_alloc1 w _
  have hQ : BNo U w.heap.size ⟨k, r1, r2, r3, a2, s1, s2, s3, a4, a5, a6, a7, a8⟩ := by rw [hU]; exact heap_alloc_new w _
  have hMU := hM.below hbU hA (by omega)
  have hbU2 : base ≤ U.heap.size := Nat.le_trans hb hbU.size
  have hTU : TP U A ⟨k, r1, r2, r3, a2, s1, s2, s3, a4, a5, a6, a7, a8⟩ (.mk k R a2 ts a4 a5 a6 a7 a8) := hT.kept (fun b hb' => hbU.block b (by have := hA b hb'; omega)) (fun _ h => h)
  have HF := hid (Fr.of_below hbU hb)
  have HQ := hid hQ
  have hpU : w.heap.size < U.heap.size := (Array.getElem?_eq_some_iff.1 hQ).1
  obtain ⟨c0, c1, c2, c3, c4, c5, c6, c7, c8⟩ := nine' hQ
  obtain ⟨p, hp⟩ : ∃ p, p = w.heap.size := ⟨_, rfl⟩
  have HMU := hid hMU
  have HTU := hid hTU
  rw [← hp] at c0 c1 c2 c3 c4 c5 c6 c7 c8 hpU HQ
  have e : (Tn.mk k R a2 ts a4 a5 a6 a7 a8).lay l.length = [] := by simp [Tn.lay, k1, k2, k3, k4, k5, k6]
  rw [e, List.append_nil]
  clear hM hMU hbU hQ hT hTU
  go_enter Try.func100, Try.ntmps100
  go_wp2_with fail
  rw [← hU]
  clear hU hp
  go_end0
  exact ⟨rfl, HMU.out, HF.out⟩
set_option maxRecDepth 100000 in
set_option maxHeartbeats 8000000 in
theorem class94g {base : Nat} {A : Nat → Prop} {a2 a4 a5 a7 : Int} {a6 : Bool} {a8 : ByteArray} {r1 s1 : Option Addr} {r2 r3 s2 s3 : Nat} {R : List (Int × Int)} {ts : List Tn} (hA : ∀ b, A b → b < base) (h5 : R.length ≤ 5000) : LP 94 base A ⟨2, r1, r2, r3, a2, s1, s2, s3, a4, a5, a6, a7, a8⟩ (.mk 2 R a2 ts a4 a5 a6 a7 a8) := by
  intro w m l hM hm hb hT hlen
  obtain ⟨U, hU⟩ : ∃ U, U = w.alloc (.cells #[.int .i64 2, .slice r1 r2 r3, .int .i64 a2, .slice s1 s2 s3, .int .i64 a4, .int .i64 a5, .bool a6, .int .i64 a7, .string a8] 39) := ⟨_, rfl⟩
  have hbU : Below w.heap.size w U := by rw [hU]; exact Joins.below_alloc1 w _
  have hQ : BNo U w.heap.size ⟨2, r1, r2, r3, a2, s1, s2, s3, a4, a5, a6, a7, a8⟩ := by rw [hU]; exact heap_alloc_new w _
  have hMU := hM.below hbU hA (by omega)
  have hbU2 : base ≤ U.heap.size := Nat.le_trans hb hbU.size
  have hTU : TP U A ⟨2, r1, r2, r3, a2, s1, s2, s3, a4, a5, a6, a7, a8⟩ (.mk 2 R a2 ts a4 a5 a6 a7 a8) := hT.kept (fun b hb' => hbU.block b (by have := hA b hb'; omega)) (fun _ h => h)
  have HF := hid (Fr.of_below hbU hb)
  have HQ := hid hQ
  have hpU : w.heap.size < U.heap.size := (Array.getElem?_eq_some_iff.1 hQ).1
  obtain ⟨c0, c1, c2, c3, c4, c5, c6, c7, c8⟩ := nine' hQ
  obtain ⟨p, hp⟩ : ∃ p, p = w.heap.size := ⟨_, rfl⟩
  have HMU := hid hMU
  have HTU := hid hTU
  rw [← hp] at c0 c1 c2 c3 c4 c5 c6 c7 c8 hpU HQ
  have hlen1 : (Tn.mk 2 R a2 ts a4 a5 a6 a7 a8).len = 1 := by simp [Tn.len]
  rw [hlen1] at hlen
  have hr : r2 = R.length := by cases hTU with | mk ok hr hR hRk hs hS hk => exact hr
  have hR : RP U A r1 R := by cases hTU with | mk ok hr hR hRk hs hS hk => exact hR
  by_cases hR0 : R.length = 0
  · have e : (Tn.mk 2 R a2 ts a4 a5 a6 a7 a8).lay l.length = [⟨6, 0, 0, 0, []⟩] := by simp [Tn.lay, hR0]
    rw [e]
    have hr0 : r2 = 0 := by omega
    subst hr0
    have HC := addL ⟨6, 0, 0, 0, none, 0, 0⟩ ⟨6, 0, 0, 0, []⟩ HMU.out (im_bare _ _ _ _ _ _) hm hA (by omega) hbU2
    clear hR hr
    clear hM hMU hbU hQ hT hTU
    go_enter Try.func94, Try.ntmps94
    go_upto_region 1 with fail
    rw [← hU, ← hp]
    clear hU hp
    go_wp2_with (first | (go_at_call 42; (with_reducible refine HC.mono ?_); rintro e w3 ⟨rfl, hM, hf⟩; have HM := hid hM; have HF3 := hid hf; clear hM hf HC))
    all_goals first | go_end0 | (refine bodyPost_ret (results_none rfl _ _ _) rfl ?_)
    all_goals exact ⟨rfl, HM.out, HF.out.trans HF3.out⟩
  · have e : (Tn.mk 2 R a2 ts a4 a5 a6 a7 a8).lay l.length = [⟨1, (l.length : Int) + 1, 0, 0, R⟩] := by simp [Tn.lay, hR0]
    rw [e]
    have g0 : ((r2 : Int) == 0) = false := by simp; omega
    have HSS : Hid (∀ W, Below U.heap.size U W → Calls Try.prog 48 #[pt m, (⟨1, 0, 0, 0, r1, r2, r3⟩ : Iv).v] W fun e w' => e = .returned (.tuple #[]) ∧ MKL w' m base A (l ++ [⟨1, (l.length : Int) + 1, 0, 0, R⟩]) ∧ Fr base W w') := fun W hW =>
      stepL 1 0 0 r1 r2 r3 R (HMU.out.below hW hA (by omega)) ⟨rfl, rfl, rfl, rfl, hr, by show r2 * 16 ≤ _; omega, hR.kept (fun b hb' => hW.block b (by have := hA b hb'; omega)) (fun _ h => h)⟩ hm hA (by omega) (Nat.le_trans hbU2 hW.size)
    clear hR hr
    clear hM hMU hbU hQ hT hTU
    go_enter Try.func94, Try.ntmps94
    go_upto_region 1 with fail
    rw [← hU, ← hp]
    clear hU hp
    go_upto_region 3 with fail
    go_region_with (first | (go_at_call 48; (with_reducible refine (HSS.out _ ?_).mono ?_); (exact drew_below _); rintro e w3 ⟨rfl, hM, hf⟩; have HM := hid hM; have HF3 := hid hf; clear hM hf))
    all_goals go_wp2_with fail
    all_goals go_end0
    all_goals exact ⟨rfl, HM.out, HF.out.trans ((Fr.of_below (drew_below U) hbU2).trans HF3.out)⟩
set_option maxRecDepth 100000 in
set_option maxHeartbeats 8000000 in
theorem assert95 {base : Nat} {A : Nat → Prop} {a2 a4 a5 a7 : Int} {a6 : Bool} {a8 : ByteArray} {r1 s1 : Option Addr} {r2 r3 s2 s3 : Nat} {R : List (Int × Int)} {ts : List Tn} (hA : ∀ b, A b → b < base)  : LP 95 base A ⟨3, r1, r2, r3, a2, s1, s2, s3, a4, a5, a6, a7, a8⟩ (.mk 3 R a2 ts a4 a5 a6 a7 a8) := by
  intro w m l hM hm hb hT hlen
  obtain ⟨U, hU⟩ : ∃ U, U = w.alloc (.cells #[.int .i64 3, .slice r1 r2 r3, .int .i64 a2, .slice s1 s2 s3, .int .i64 a4, .int .i64 a5, .bool a6, .int .i64 a7, .string a8] 39) := ⟨_, rfl⟩
  have hbU : Below w.heap.size w U := by rw [hU]; exact Joins.below_alloc1 w _
  have hQ : BNo U w.heap.size ⟨3, r1, r2, r3, a2, s1, s2, s3, a4, a5, a6, a7, a8⟩ := by rw [hU]; exact heap_alloc_new w _
  have hMU := hM.below hbU hA (by omega)
  have hbU2 : base ≤ U.heap.size := Nat.le_trans hb hbU.size
  have hTU : TP U A ⟨3, r1, r2, r3, a2, s1, s2, s3, a4, a5, a6, a7, a8⟩ (.mk 3 R a2 ts a4 a5 a6 a7 a8) := hT.kept (fun b hb' => hbU.block b (by have := hA b hb'; omega)) (fun _ h => h)
  have HF := hid (Fr.of_below hbU hb)
  have HQ := hid hQ
  have hpU : w.heap.size < U.heap.size := (Array.getElem?_eq_some_iff.1 hQ).1
  obtain ⟨c0, c1, c2, c3, c4, c5, c6, c7, c8⟩ := nine' hQ
  obtain ⟨p, hp⟩ : ∃ p, p = w.heap.size := ⟨_, rfl⟩
  have HMU := hid hMU
  have HTU := hid hTU
  rw [← hp] at c0 c1 c2 c3 c4 c5 c6 c7 c8 hpU HQ
  have hlen1 : (Tn.mk 3 R a2 ts a4 a5 a6 a7 a8).len = 1 := by simp [Tn.len]
  rw [hlen1] at hlen
  have e : (Tn.mk 3 R a2 ts a4 a5 a6 a7 a8).lay l.length = [⟨4, (l.length : Int) + 1, 0, a2, []⟩] := by simp [Tn.lay]
  rw [e]
  have HSS : Hid (∀ W, Below U.heap.size U W → Calls Try.prog 48 #[pt m, (⟨4, 0, 0, a2, none, 0, 0⟩ : Iv).v] W fun e w' => e = .returned (.tuple #[]) ∧ MKL w' m base A (l ++ [⟨4, (l.length : Int) + 1, 0, a2, []⟩]) ∧ Fr base W w') := fun W hW =>
    stepL 4 0 a2 none 0 0 [] (HMU.out.below hW hA (by omega)) (im_bare _ _ _ _ _ _) hm hA (by omega) (Nat.le_trans hbU2 hW.size)
  clear hM hMU hbU hQ hT hTU
  go_enter Try.func95, Try.ntmps95
  go_upto_region 1 with fail
  rw [← hU, ← hp]
  clear hU hp
  go_region_with (first | (go_at_call 48; (with_reducible refine (HSS.out _ ?_).mono ?_); (exact drew_below _); rintro e w3 ⟨rfl, hM, hf⟩; have HM := hid hM; have HF3 := hid hf; clear hM hf))
  all_goals go_wp2_with fail
  all_goals go_end0
  all_goals exact ⟨rfl, HM.out, HF.out.trans ((Fr.of_below (drew_below U) hbU2).trans HF3.out)⟩
set_option maxRecDepth 100000 in
set_option maxHeartbeats 8000000 in
theorem cat97 {base : Nat} {A : Nat → Prop} {a2 a4 a5 a7 : Int} {a6 : Bool} {a8 : ByteArray} {r1 s1 : Option Addr} {r2 r3 s2 s3 : Nat} {R : List (Int × Int)} {ts : List Tn} (hA : ∀ b, A b → b < base) (hIH : ∀ i (hi : i < ts.length) N, LP 49 base A N ts[i]) : LP 97 base A ⟨4, r1, r2, r3, a2, s1, s2, s3, a4, a5, a6, a7, a8⟩ (.mk 4 R a2 ts a4 a5 a6 a7 a8) := by
  intro w m l hM hm hb hT hlen
  obtain ⟨U, hU⟩ : ∃ U, U = w.alloc (.cells #[.int .i64 4, .slice r1 r2 r3, .int .i64 a2, .slice s1 s2 s3, .int .i64 a4, .int .i64 a5, .bool a6, .int .i64 a7, .string a8] 39) := ⟨_, rfl⟩
  have hbU : Below w.heap.size w U := by rw [hU]; exact Joins.below_alloc1 w _
  have hQ : BNo U w.heap.size ⟨4, r1, r2, r3, a2, s1, s2, s3, a4, a5, a6, a7, a8⟩ := by rw [hU]; exact heap_alloc_new w _
  have hMU := hM.below hbU hA (by omega)
  have hbU2 : base ≤ U.heap.size := Nat.le_trans hb hbU.size
  have hTU : TP U A ⟨4, r1, r2, r3, a2, s1, s2, s3, a4, a5, a6, a7, a8⟩ (.mk 4 R a2 ts a4 a5 a6 a7 a8) := hT.kept (fun b hb' => hbU.block b (by have := hA b hb'; omega)) (fun _ h => h)
  have HF := hid (Fr.of_below hbU hb)
  have HQ := hid hQ
  have hpU : w.heap.size < U.heap.size := (Array.getElem?_eq_some_iff.1 hQ).1
  obtain ⟨c0, c1, c2, c3, c4, c5, c6, c7, c8⟩ := nine' hQ
  obtain ⟨p, hp⟩ : ∃ p, p = w.heap.size := ⟨_, rfl⟩
  have HMU := hid hMU
  have HTU := hid hTU
  rw [← hp] at c0 c1 c2 c3 c4 c5 c6 c7 c8 hpU HQ
  have hl4 : (Tn.mk 4 R a2 ts a4 a5 a6 a7 a8).len = lenL ts := by simp [Tn.len]
  rw [hl4] at hlen
  have e : (Tn.mk 4 R a2 ts a4 a5 a6 a7 a8).lay l.length = layL ts l.length := by simp [Tn.lay]
  rw [e]
  obtain ⟨ND, hs, hS, hk⟩ : ∃ ND : Nat → Nv, s2 = ts.length ∧ (0 < ts.length → ∃ b o, s1 = some ⟨b, o, none⟩ ∧ A b ∧ ∀ i, i < ts.length → N9 U b o i (ND i)) ∧ ∀ i (hi : i < ts.length), TP U A (ND i) ts[i] := by cases hTU with | @mk _ _ _ ND ok hr hR hRk hs hS hk => exact ⟨ND, hs, hS, hk⟩
  have hmx : s2 ≤ 9223372036854775807 := by cases hTU with | mk ok hr hR hRk hs hS hk => have := ok.s; have e : maxLen = 9223372036854775807 := rfl; dsimp only at this; omega
  have HL := hid hs
  have HS := hid hS
  have HK := hid hk
  have HIH := hid hIH
  have HLN := hid hlen
  clear hs hS hk hIH hlen
  clear hM hMU hbU hQ hT hTU
  go_enter Try.func97, Try.ntmps97
  go_upto_region 1 with fail
  rw [← hU, ← hp]
  clear hU hp
  go_wp2_with fail
  go_loopw [9] (fun y wq => ∃ i : Nat, y = .int .i64 (i : Int) ∧ i ≤ s2 ∧ Hid (MKL wq m base A (l ++ layL (ts.take i) l.length)) ∧ Hid (Fr base U wq)) (fun y _ => s2 - (intOf y).toNat)
  case atStart => exact ⟨0, rfl, by omega, by show MKL _ _ _ _ _; simpa [layL] using HMU.out, Fr.of_below (Below.refl _ _) hbU2⟩
  case round =>
    obtain ⟨i, rfl, hi, HI, HFq⟩ := hrel
    have bQ := HFq.out.blk p _ _ _ HQ.out (by decide) (by decide)
    clear c0 c1 c2 c3 c4 c5 c6 c7 c8
    obtain ⟨c0, c1, c2, c3, c4, c5, c6, c7, c8⟩ := nine' bQ
    clear bQ
    by_cases hil : i < s2
    · have b1 : decide ((i : Int) < (s2 : Int)) = true := by simp; omega
      have b2 : (i : Int) < (s2 : Int) := by omega
      have ad1 : IntKind.i64.wrap ((i : Int) + 1) = (i : Int) + 1 := by simp [IntKind.wrap, IntKind.bits, IntKind.signed]; omega
      have hlt : i < ts.length := by have := HL.out; omega
      obtain ⟨b, o, hs1, hbl, h9⟩ := HS.out (by omega)
      subst hs1
      have hfb := HFq.out.bel hA
      obtain ⟨n0, n1, n2, n3, n4, n5, n6, n7, n8⟩ := (h9 i hlt).kept (hfb b hbl)
      have hTi := (HK.out i hlt).kept hfb (fun _ h => h)
      obtain ⟨M, hMe⟩ : ∃ M, M = ND i := ⟨_, rfl⟩
      rw [← hMe] at n0 n1 n2 n3 n4 n5 n6 n7 n8 hTi
      have HTi := hid hTi
      clear h9 hMe hTi hfb
      go_upto_region 4 with fail
      obtain ⟨X, hX⟩ : ∃ X, X = wr.alloc (.cells #[.int .i64 M.k, .slice M.r1 M.r2 M.r3, .int .i64 M.a2, .slice M.s1 M.s2 M.s3, .int .i64 M.a4, .int .i64 M.a5, .bool M.a6, .int .i64 M.a7, .string M.a8] 39) := ⟨_, rfl⟩
      rw [← hX]
      have hXb : Below wr.heap.size wr X := by rw [hX]; exact Joins.below_alloc1 wr _
      have hXn : BNo X wr.heap.size M := by rw [hX]; exact heap_alloc_new wr _
      have hbw : base ≤ wr.heap.size := Nat.le_trans hbU2 HFq.out.size
      have htk : layL (ts.take (i + 1)) l.length = layL (ts.take i) l.length ++ ts[i].lay (l.length + lenL (ts.take i)) := by
        rw [List.take_succ_eq_append_getElem hlt, layL_append]; simp [layL]
      have hll : (l ++ layL (ts.take i) l.length).length = l.length + lenL (ts.take i) := by rw [List.length_append, layL_len]
      have hln : lenL (ts.take i) + ts[i].len ≤ lenL ts := by
        have h1 := lenL_append (ts.take (i + 1)) (ts.drop (i + 1))
        rw [List.take_append_drop, List.take_succ_eq_append_getElem hlt, lenL_append] at h1
        simp only [lenL] at h1
        omega
      have HC := HIH.out i hlt M X m (l ++ layL (ts.take i) l.length) (HI.out.below hXb hA (by omega)) hm (Nat.le_trans hbw hXb.size) (HTi.out.kept (fun b hb' => hXb.block b (by have := hA b hb'; omega)) (fun _ h => h)) (by rw [hll]; have := HLN.out; omega)
      rw [hll] at HC
      obtain ⟨x0, x1, x2, x3, x4, x5, x6, x7, x8⟩ := nine' hXn
      have HTK := hid htk
      have HXF := hid (Fr.of_below hXb hbw)
      clear hX hXb hXn htk hll hln n0 n1 n2 n3 n4 n5 n6 n7 n8 c0 c1 c2 c3 c4 c5 c6 c7 c8 HTi
      go_wp2_with (first | (go_at_call 49; (with_reducible refine HC.mono ?_); rintro e w2 ⟨rfl, hM2, hf2⟩; have HM2 := hid hM2; have HF2 := hid hf2; clear hM2 hf2 HC))
      refine ⟨⟨i + 1, by push_cast; rfl, by omega, ?_, HFq.out.trans (HXF.out.trans HF2.out)⟩, by simp [intOf]; omega⟩
      show MKL _ _ _ _ _
      rw [HTK.out, ← List.append_assoc]
      exact HM2.out
    · have b1 : decide ((i : Int) < (s2 : Int)) = false := by simp; omega
      obtain rfl : i = s2 := by omega
      go_wp2
      all_goals go_end0
      all_goals
        have htk : ts.take i = ts := by rw [HL.out, List.take_length]
        have h := HI.out
        rw [htk] at h
        exact ⟨rfl, h, HF.out.trans HFq.out⟩
set_option maxRecDepth 100000 in
set_option maxHeartbeats 8000000 in
theorem group96 {base : Nat} {A : Nat → Prop} {a2 a4 a5 a7 : Int} {a6 : Bool} {a8 : ByteArray} {r1 s1 : Option Addr} {r2 r3 s2 s3 : Nat} {R : List (Int × Int)} {ts : List Tn} (hA : ∀ b, A b → b < base) (y : Tn) (hts : ts = [y]) (hix : 0 ≤ a7 ∧ a7 ≤ 500) (hIH : ∀ N, LP 49 base A N y) : LP 96 base A ⟨7, r1, r2, r3, a2, s1, s2, s3, a4, a5, a6, a7, a8⟩ (.mk 7 R a2 ts a4 a5 a6 a7 a8) := by
  intro w m l hM hm hb hT hlen
  obtain ⟨U, hU⟩ : ∃ U, U = w.alloc (.cells #[.int .i64 7, .slice r1 r2 r3, .int .i64 a2, .slice s1 s2 s3, .int .i64 a4, .int .i64 a5, .bool a6, .int .i64 a7, .string a8] 39) := ⟨_, rfl⟩
  have hbU : Below w.heap.size w U := by rw [hU]; exact Joins.below_alloc1 w _
  have hQ : BNo U w.heap.size ⟨7, r1, r2, r3, a2, s1, s2, s3, a4, a5, a6, a7, a8⟩ := by rw [hU]; exact heap_alloc_new w _
  have hMU := hM.below hbU hA (by omega)
  have hbU2 : base ≤ U.heap.size := Nat.le_trans hb hbU.size
  have hTU : TP U A ⟨7, r1, r2, r3, a2, s1, s2, s3, a4, a5, a6, a7, a8⟩ (.mk 7 R a2 ts a4 a5 a6 a7 a8) := hT.kept (fun b hb' => hbU.block b (by have := hA b hb'; omega)) (fun _ h => h)
  have HF := hid (Fr.of_below hbU hb)
  have HQ := hid hQ
  have hpU : w.heap.size < U.heap.size := (Array.getElem?_eq_some_iff.1 hQ).1
  obtain ⟨c0, c1, c2, c3, c4, c5, c6, c7, c8⟩ := nine' hQ
  obtain ⟨p, hp⟩ : ∃ p, p = w.heap.size := ⟨_, rfl⟩
  have HMU := hid hMU
  have HTU := hid hTU
  rw [← hp] at c0 c1 c2 c3 c4 c5 c6 c7 c8 hpU HQ
  subst hts
  have hl7 : (Tn.mk 7 R a2 [y] a4 a5 a6 a7 a8).len = y.len + 2 := by simp [Tn.len, lenL]
  rw [hl7] at hlen
  have e : (Tn.mk 7 R a2 [y] a4 a5 a6 a7 a8).lay l.length = ⟨3, (l.length : Int) + 1, 0, 2 * a7, []⟩ :: (y.lay (l.length + 1) ++ [⟨3, ((l.length + 1 + y.len : Nat) : Int) + 1, 0, 2 * a7 + 1, []⟩]) := by simp [Tn.lay, layL, lenL]
  rw [e]
  obtain ⟨M, b, o, hs2, hs1, hbl, h9, hTM⟩ : ∃ (M : Nv) (b o : Nat), s2 = 1 ∧ s1 = some ⟨b, o, none⟩ ∧ A b ∧ N9 U b o 0 M ∧ TP U A M y := by
    cases hTU with
    | @mk _ _ _ ND ok hr hR hRk hs hS hk =>
      obtain ⟨b, o, h1, h2, h3⟩ := hS (by simp)
      exact ⟨ND 0, b, o, hs, h1, h2, h3 0 (by simp), hk 0 (by simp)⟩
  subst hs1 hs2
  have w1 : IntKind.i64.wrap (2 * a7) = 2 * a7 := by simp [IntKind.wrap, IntKind.bits, IntKind.signed]; omega
  have w2 : IntKind.i64.wrap (2 * a7 + 1) = 2 * a7 + 1 := by simp [IntKind.wrap, IntKind.bits, IntKind.signed]; omega
  have HSS : Hid (∀ W, Below U.heap.size U W → Calls Try.prog 48 #[pt m, (⟨3, 0, 0, 2 * a7, none, 0, 0⟩ : Iv).v] W fun e w' => e = .returned (.tuple #[]) ∧ MKL w' m base A (l ++ [⟨3, (l.length : Int) + 1, 0, 2 * a7, []⟩]) ∧ Fr base W w') := fun W hW =>
    stepL 3 0 (2 * a7) none 0 0 [] (HMU.out.below hW hA (by omega)) (im_bare _ _ _ _ _ _) hm hA (by omega) (Nat.le_trans hbU2 hW.size)
  have HIH := hid hIH
  have H9 := hid h9
  have HTM := hid hTM
  clear hIH h9 hTM
  clear hM hMU hbU hQ hT hTU
  go_enter Try.func96, Try.ntmps96
  go_upto_region 1 with fail
  rw [← hU, ← hp]
  clear hU hp
  go_region_with (first | (go_at_call 48; (with_reducible refine (HSS.out _ ?_).mono ?_); (exact drew_below _); rintro e w3 ⟨rfl, hM, hf⟩; have HM := hid hM; have HF3 := hid hf; clear hM hf))
  all_goals
    have hF3 : Fr base U w3 := (Fr.of_below (drew_below U) hbU2).trans HF3.out
    have bQ := hF3.blk p _ _ _ HQ.out (by decide) (by decide)
    clear c0 c1 c2 c3 c4 c5 c6 c7 c8
    obtain ⟨c0, c1, c2, c3, c4, c5, c6, c7, c8⟩ := nine' bQ
    have hfb := hF3.bel hA
    obtain ⟨n0, n1, n2, n3, n4, n5, n6, n7, n8⟩ := H9.out.kept (hfb b hbl)
    simp only [Nat.zero_mul, Nat.add_zero] at n0 n1 n2 n3 n4 n5 n6 n7 n8
    have hb3 : base ≤ w3.heap.size := Nat.le_trans hbU2 hF3.size
    have HC := HIH.out M w3 m _ HM.out hm hb3 (HTM.out.kept hfb (fun _ h => h)) (by simp; omega)
    have hll : (l ++ [(⟨3, (l.length : Int) + 1, 0, 2 * a7, []⟩ : In)]).length = l.length + 1 := by simp
    rw [hll] at HC
    have HF3' := hid hF3
    have HQ3 := hid bQ
    clear bQ hfb hF3 hll
    go_upto_region 3 with (first | (go_at_call 49; (with_reducible refine HC.mono ?_); rintro e w4 ⟨rfl, hM, hf⟩; have HM4 := hid hM; have HF4 := hid hf; clear hM hf HC))
    have bQ := HF4.out.blk p _ _ _ HQ3.out (by decide) (by decide)
    clear c0 c1 c2 c3 c4 c5 c6 c7 c8 n0 n1 n2 n3 n4 n5 n6 n7 n8
    obtain ⟨c0, c1, c2, c3, c4, c5, c6, c7, c8⟩ := nine' bQ
    have hb4 : base ≤ w4.heap.size := Nat.le_trans hb3 HF4.out.size
    have hll : (l ++ [(⟨3, (l.length : Int) + 1, 0, 2 * a7, []⟩ : In)] ++ y.lay (l.length + 1)).length = l.length + 1 + y.len := by simp [lay_len]; omega
    have HST : Hid (∀ W, Below w4.heap.size w4 W → Calls Try.prog 48 #[pt m, (⟨3, 0, 0, 2 * a7 + 1, none, 0, 0⟩ : Iv).v] W fun e w' => e = .returned (.tuple #[]) ∧ MKL w' m base A (l ++ [⟨3, (l.length : Int) + 1, 0, 2 * a7, []⟩] ++ y.lay (l.length + 1) ++ [⟨3, ((l.length + 1 + y.len : Nat) : Int) + 1, 0, 2 * a7 + 1, []⟩]) ∧ Fr base W w') := fun W hW => by
      have := stepL 3 0 (2 * a7 + 1) none 0 0 [] (HM4.out.below hW hA (by omega)) (im_bare _ _ _ _ _ _) hm hA (by rw [hll]; omega) (Nat.le_trans hb4 hW.size)
      rw [hll] at this
      exact this
    clear bQ hll
    go_region_with (first | (go_at_call 48; (with_reducible refine (HST.out _ ?_).mono ?_); (exact drew_below _); rintro e w5 ⟨rfl, hM, hf⟩; have HM5 := hid hM; have HF5 := hid hf; clear hM hf))
    all_goals go_wp2_with fail
    all_goals go_end0
    all_goals
      refine ⟨rfl, ?_, HF.out.trans (HF3'.out.trans (HF4.out.trans ((Fr.of_below (drew_below w4) hb4).trans HF5.out)))⟩
      have h := HM5.out
      simpa [List.append_assoc] using h
end Go.Proofs.Ytnecakampgdhcaa
/- HELPERS: an instruction of the maker's row goes on otherwise. -/
namespace Go.Proofs.Ytnecakampgdhcaa
open Go.RowKit
set_option linter.unusedVariables false
set_option linter.unusedSimpArgs false
def In.setX (x : Int) (I : In) : In := ⟨I.op, x, I.y, I.a, I.R⟩
def In.setY (y : Int) (I : In) : In := ⟨I.op, I.x, y, I.a, I.R⟩
def Iv.setX (x : Int) (N : Iv) : Iv := ⟨N.op, x, N.y, N.a, N.r1, N.r2, N.r3⟩
def Iv.setY (y : Int) (N : Iv) : Iv := ⟨N.op, N.x, y, N.a, N.r1, N.r2, N.r3⟩
theorem flat5_X : ∀ (MS : List Iv) (i : Nat) (x : Int), i < MS.length → (MS.flatMap Iv.cs).set (i * 5 + 1) (.int .i64 x) = (MS.modify i (Iv.setX x)).flatMap Iv.cs
  | [], i, x, h => by simp at h
  | M :: MS, 0, x, h => by simp [Iv.setX, List.modify]
  | M :: MS, i + 1, x, h => by
    have ih := flat5_X MS i x (by simpa using h)
    rw [List.flatMap_cons, show (i + 1) * 5 + 1 = (Iv.cs M).length + (i * 5 + 1) by simp; omega, List.set_append_right _ _ (by omega), Nat.add_sub_cancel_left, ih]
    simp [List.modify]
theorem flat5_Y : ∀ (MS : List Iv) (i : Nat) (x : Int), i < MS.length → (MS.flatMap Iv.cs).set (i * 5 + 2) (.int .i64 x) = (MS.modify i (Iv.setY x)).flatMap Iv.cs
  | [], i, x, h => by simp at h
  | M :: MS, 0, x, h => by simp [Iv.setY, List.modify]
  | M :: MS, i + 1, x, h => by
    have ih := flat5_Y MS i x (by simpa using h)
    rw [List.flatMap_cons, show (i + 1) * 5 + 2 = (Iv.cs M).length + (i * 5 + 2) by simp; omega, List.set_append_right _ _ (by omega), Nat.add_sub_cancel_left, ih]
    simp [List.modify]
theorem row_set1 {w : World} {base e s g n cap j : Nat} {xs : List Value} (h : w.ownsRow base e s (.slice (some ⟨g, 0, none⟩) n cap) n xs) (hj : j < xs.length) (v : Value) : (w.setCell ⟨g, j, none⟩ v).ownsRow base e s (.slice (some ⟨g, 0, none⟩) n cap) n (xs.set j v) := by
  have hlen := h.1
  refine ⟨by simpa using hlen, .inr ?_⟩
  rcases h.2 with ⟨h, _⟩ | ⟨g', cap', cur, he, hb, hgg, h1, h2, h3, h4⟩
  · cases h
  · simp only [Value.slice.injEq, Option.some.injEq, Addr.mk.injEq] at he
    obtain ⟨⟨rfl, _⟩, _, rfl⟩ := he
    refine ⟨g, cap, cur.setIfInBounds j v, rfl, hb, Joins.block_setCell hgg v, h1, h2, by simpa using h3, ?_⟩
    rw [← h4, Array.toList_setIfInBounds]
    exact List.take_set
/-- the maker's row, open -/
structure MKx (w : World) (m base g c : Nat) (A : Nat → Prop) (is : List Iv) (l : List In) : Prop where
  bx : BxM w m (some ⟨g, 0, none⟩) l.length c
  row : w.ownsRow base 51 5 (.slice (some ⟨g, 0, none⟩) l.length c) l.length (is.flatMap Iv.cs)
  len : is.length = l.length
  im : ∀ k (h : k < is.length) (h' : k < l.length), IMp w A is[k] l[k]
theorem MKL.open {w : World} {m base : Nat} {A : Nat → Prop} {l : List In} (h : MKL w m base A l) (hp : 0 < l.length) : ∃ g c is, MKx w m base g c A is l := by
  obtain ⟨is, ⟨z1, c, h1, h2⟩, h3, h4⟩ := h
  rcases h2.2 with ⟨e, h0⟩ | ⟨g, cap, cur, e, _⟩
  · omega
  · simp only [Value.slice.injEq, true_and] at e
    obtain ⟨rfl, rfl⟩ := e
    exact ⟨g, c, is, h1, h2, h3, h4⟩
theorem MKx.close {w : World} {m base g c : Nat} {A : Nat → Prop} {is : List Iv} {l : List In} (h : MKx w m base g c A is l) : MKL w m base A l := ⟨is, ⟨_, c, h.bx, h.row⟩, h.len, h.im⟩
theorem MKx.ne {w : World} {m base g c : Nat} {A : Nat → Prop} {is : List Iv} {l : List In} (h : MKx w m base g c A is l) : g ≠ m := fun e => own_ne h.row h.bx (by decide) (by rw [e]; rfl)
theorem MKx.drew {w : World} {m base g c : Nat} {A : Nat → Prop} {is : List Iv} {l : List In} (h : MKx w m base g c A is l) : MKx w.drew m base g c A is l :=
  ⟨h.bx, h.row.drew, h.len, fun k hk hk' => (h.im k hk hk').kept fun _ _ => rfl⟩
theorem MKx.keep {w w' : World} {m base g c : Nat} {A : Nat → Prop} {is is' : List Iv} {l l' : List In} (h : MKx w m base g c A is l) (hA : ∀ b, A b → b < base) (j : Nat) (v : Value) (hw : w' = w.setCell ⟨g, j, none⟩ v) : BxM w' m (some ⟨g, 0, none⟩) l.length c ∧ (∀ b, A b → w'.heap[b]? = w.heap[b]?) ∧ Fr base w w' := by
  subst hw
  have hg := (h.row.lt g rfl).1
  refine ⟨(Below.heap_setCell _ _ _ _ (fun e => h.ne e.symm)).trans h.bx, fun b hb' => Below.heap_setCell _ _ _ _ (by have := hA b hb'; show b ≠ g; omega), ⟨rfl, rfl, rfl, by simp [World.setCell], fun b cs t fr e h1 h2 => (Below.heap_setCell _ _ _ _ (fun eq => ?_)).trans e, fun b hb => Below.heap_setCell _ _ _ _ (by show b ≠ g; omega)⟩⟩
  subst eq
  exact own_ne h.row e h1 rfl
theorem MKx.setX {w : World} {m base g c : Nat} {A : Nat → Prop} {is : List Iv} {l : List In} (h : MKx w m base g c A is l) (hA : ∀ b, A b → b < base) (i : Nat) (hi : i < l.length) (x : Int) : MKx (w.setCell ⟨g, i * 5 + 1, none⟩ (.int .i64 x)) m base g c A (is.modify i (Iv.setX x)) (l.modify i (In.setX x)) := by
  obtain ⟨k1, k2, k3⟩ := h.keep (is' := is) (l' := l) hA (i * 5 + 1) (.int .i64 x) rfl
  refine ⟨by rw [List.length_modify]; exact k1, ?_, by simp [h.len], fun k hk hk' => ?_⟩
  · rw [List.length_modify, ← flat5_X _ _ _ (by rw [h.len]; exact hi)]
    exact row_set1 h.row (by rw [flat5_len, h.len]; omega) _
  · simp only [List.length_modify] at hk hk'
    have hI := (h.im k hk hk').kept k2
    rw [List.getElem_modify, List.getElem_modify]
    split
    · exact ⟨hI.op, rfl, hI.y, hI.a, hI.len, hI.sm, hI.rp⟩
    · exact hI
theorem MKx.setY {w : World} {m base g c : Nat} {A : Nat → Prop} {is : List Iv} {l : List In} (h : MKx w m base g c A is l) (hA : ∀ b, A b → b < base) (i : Nat) (hi : i < l.length) (x : Int) : MKx (w.setCell ⟨g, i * 5 + 2, none⟩ (.int .i64 x)) m base g c A (is.modify i (Iv.setY x)) (l.modify i (In.setY x)) := by
  obtain ⟨k1, k2, k3⟩ := h.keep (is' := is) (l' := l) hA (i * 5 + 2) (.int .i64 x) rfl
  refine ⟨by rw [List.length_modify]; exact k1, ?_, by simp [h.len], fun k hk hk' => ?_⟩
  · rw [List.length_modify, ← flat5_Y _ _ _ (by rw [h.len]; exact hi)]
    exact row_set1 h.row (by rw [flat5_len, h.len]; omega) _
  · simp only [List.length_modify] at hk hk'
    have hI := (h.im k hk hk').kept k2
    rw [List.getElem_modify, List.getElem_modify]
    split
    · exact ⟨hI.op, hI.x, rfl, hI.a, hI.len, hI.sm, hI.rp⟩
    · exact hI
theorem MKx.there {w : World} {m base g c : Nat} {A : Nat → Prop} {is : List Iv} {l : List In} (h : MKx w m base g c A is l) (i : Nat) (hi : i < l.length) : w.there g (i * 5) 5 := row_there h.row (j := i * 5) (m := 5) (by omega)
set_option maxRecDepth 100000 in
set_option maxHeartbeats 8000000 in
theorem fork109 {w : World} {m base : Nat} {A : Nat → Prop} {l : List In} (at' : Nat) (r q : Int) (lz : Bool) (h : MKL w m base A l) (hat : at' < l.length) (hm : base ≤ m) (hA : ∀ b, A b → b < base) (hl : l.length ≤ 20000) (hb : base ≤ w.heap.size) :
    Calls Try.prog 109 #[pt m, .int .i64 (at' : Int), .int .i64 r, .int .i64 q, .bool lz] w fun e w' => e = .returned (.tuple #[]) ∧ MKL w' m base A ((l.modify at' (In.setX (if lz then q else r))).modify at' (In.setY (if lz then r else q))) ∧ Fr base w w' := by
  obtain ⟨g, c, is, hx⟩ := h.open (by omega)
  have k0 : w.cell? ⟨m, 0, none⟩ = some (.slice (some ⟨g, 0, none⟩) l.length c) := Joins.cell_of_block hx.bx 0
  have b1 : (at' : Int) < (l.length : Int) := by omega
  have hne := hx.ne
  have ht := hx.there at' hat
  obtain ⟨v1, hv1⟩ := Option.isSome_iff_exists.1 (ht 1 (by omega)).1
  obtain ⟨v2, hv2⟩ := Option.isSome_iff_exists.1 (ht 2 (by omega)).1
  have f1 := (ht 1 (by omega)).2
  have f2 := (ht 2 (by omega)).2
  have HFIN : Hid (∀ x y : Int, MKL ((w.drew.setCell ⟨g, at' * 5 + 1, none⟩ (.int .i64 x)).setCell ⟨g, at' * 5 + 2, none⟩ (.int .i64 y)) m base A ((l.modify at' (In.setX x)).modify at' (In.setY y)) ∧ Fr base w ((w.drew.setCell ⟨g, at' * 5 + 1, none⟩ (.int .i64 x)).setCell ⟨g, at' * 5 + 2, none⟩ (.int .i64 y))) := fun x y => by
    have h0 := hx.drew
    have h1 := h0.setX hA at' hat x
    have h2 := h1.setY hA at' (by rw [List.length_modify]; exact hat) y
    refine ⟨h2.close, ?_⟩
    have e0 := Fr.of_below (base := base) (drew_below w) hb
    have e1 := (h0.keep (is' := is) (l' := l) hA (at' * 5 + 1) (.int .i64 x) rfl).2.2
    have e2 := (h1.keep (is' := is) (l' := l) hA (at' * 5 + 2) (.int .i64 y) rfl).2.2
    exact e0.trans (e1.trans e2)
  obtain ⟨n, hn⟩ : ∃ n, n = l.length := ⟨_, rfl⟩
  rw [← hn] at k0 b1 hl
  clear ht hx h hn
  go_enter Try.func109, Try.ntmps109
  cases lz
  · go_upto_region 2 with fail
    go_region_with fail
    all_goals go_wp2_with fail
    all_goals go_end0
    all_goals exact ⟨rfl, HFIN.out r q⟩
  · go_upto_region 2 with fail
    go_region_with fail
    all_goals go_wp2_with fail
    all_goals go_end0
    all_goals exact ⟨rfl, HFIN.out q r⟩
end Go.Proofs.Ytnecakampgdhcaa
/- HELPERS: loops laid down. -/
namespace Go.Proofs.Ytnecakampgdhcaa
open Go.RowKit
set_option linter.unusedVariables false
set_option linter.unusedSimpArgs false
theorem modify_mid (l r : List In) (I : In) (f : In → In) : (l ++ I :: r).modify l.length f = l ++ f I :: r := by
  induction l with
  | nil => simp [List.modify]
  | cons J l ih => simp only [List.cons_append, List.length_cons, List.modify_succ_cons, ih]
theorem fork_eq (r q : Nat) (lz : Bool) : In.setY (if lz then (r : Int) else (q : Int)) (In.setX (if lz then (q : Int) else (r : Int)) ⟨2, 0, 0, 0, []⟩) = forkI r q lz := by
  cases lz <;> rfl
set_option maxRecDepth 100000 in
set_option maxHeartbeats 8000000 in
theorem quest111 {base : Nat} {A : Nat → Prop} {a2 a4 a5 a7 : Int} {a6 : Bool} {a8 : ByteArray} {r1 s1 : Option Addr} {r2 r3 s2 s3 : Nat} {R : List (Int × Int)} {ts : List Tn} (hA : ∀ b, A b → b < base) (y : Tn) (hts : ts = [y]) (h1 : a4 ≠ 1) (h2 : a5 = 1) (hIH : ∀ N, LP 49 base A N y) : LP 111 base A ⟨6, r1, r2, r3, a2, s1, s2, s3, a4, a5, a6, a7, a8⟩ (.mk 6 R a2 ts a4 a5 a6 a7 a8) := by
  intro w m l hM hm hb hT hlen
  obtain ⟨U, hU⟩ : ∃ U, U = w.alloc (.cells #[.int .i64 6, .slice r1 r2 r3, .int .i64 a2, .slice s1 s2 s3, .int .i64 a4, .int .i64 a5, .bool a6, .int .i64 a7, .string a8] 39) := ⟨_, rfl⟩
  have hbU : Below w.heap.size w U := by rw [hU]; exact Joins.below_alloc1 w _
  have hQ : BNo U w.heap.size ⟨6, r1, r2, r3, a2, s1, s2, s3, a4, a5, a6, a7, a8⟩ := by rw [hU]; exact heap_alloc_new w _
  have hMU := hM.below hbU hA (by omega)
  have hbU2 : base ≤ U.heap.size := Nat.le_trans hb hbU.size
  have hTU : TP U A ⟨6, r1, r2, r3, a2, s1, s2, s3, a4, a5, a6, a7, a8⟩ (.mk 6 R a2 ts a4 a5 a6 a7 a8) := hT.kept (fun b hb' => hbU.block b (by have := hA b hb'; omega)) (fun _ h => h)
  have HF := hid (Fr.of_below hbU hb)
  have HQ := hid hQ
  have hpU : w.heap.size < U.heap.size := (Array.getElem?_eq_some_iff.1 hQ).1
  obtain ⟨c0, c1, c2, c3, c4, c5, c6, c7, c8⟩ := nine' hQ
  obtain ⟨p, hp⟩ : ∃ p, p = w.heap.size := ⟨_, rfl⟩
  have HMU := hid hMU
  have HTU := hid hTU
  rw [← hp] at c0 c1 c2 c3 c4 c5 c6 c7 c8 hpU HQ
  subst hts
  have hl6 : (Tn.mk 6 R a2 [y] a4 a5 a6 a7 a8).len = y.len + 1 := by simp [Tn.len, lenL, h1, h2]
  rw [hl6] at hlen
  have e : (Tn.mk 6 R a2 [y] a4 a5 a6 a7 a8).lay l.length = forkI (l.length + 1) (l.length + 1 + y.len) a6 :: y.lay (l.length + 1) := by simp [Tn.lay, layL, lenL, h1, h2]
  rw [e]
  clear h1 h2
  obtain ⟨M, b, o, hs2, hs1, hbl, h9, hTM⟩ : ∃ (M : Nv) (b o : Nat), s2 = 1 ∧ s1 = some ⟨b, o, none⟩ ∧ A b ∧ N9 U b o 0 M ∧ TP U A M y := by
    cases hTU with
    | @mk _ _ _ ND ok hr hR hRk hs hS hk =>
      obtain ⟨b, o, h1, h2, h3⟩ := hS (by simp)
      exact ⟨ND 0, b, o, hs, h1, h2, h3 0 (by simp), hk 0 (by simp)⟩
  subst hs1 hs2
  obtain ⟨n, hn⟩ : ∃ n, n = l.length := ⟨_, rfl⟩
  have HNX := next65l HMU.out
  rw [← hn] at HNX hlen
  have HN := hid hn
  have HIH := hid hIH
  have H9 := hid h9
  have HTM := hid hTM
  clear hIH h9 hTM hn
  clear hM hMU hbU hQ hT hTU
  go_enter Try.func111, Try.ntmps111
  go_upto_region 1 with fail
  rw [← hU, ← hp]
  clear hU hp
  go_upto_region 2 with (first | (go_at_call 65; (with_reducible refine HNX.mono ?_); rintro e w2 ⟨rfl, hw⟩; have hw' := hw.symm; clear hw; subst hw'; clear HNX))
  have HC := addL ⟨2, 0, 0, 0, none, 0, 0⟩ ⟨2, 0, 0, 0, []⟩ HMU.out (im_bare _ _ _ _ _ _) hm hA (by have := HN.out; omega) hbU2
  go_upto_region 3 with (first | (go_at_call 42; (with_reducible refine HC.mono ?_); rintro e V1 ⟨rfl, hM, hf⟩; have HV1 := hid hM; have HG1 := hid hf; clear hM hf HC))
  have FR1 : Hid (Fr base U V1) := hid ((Fr.of_below (Below.refl _ _) hbU2).trans HG1.out)
  have hbV1 : base ≤ V1.heap.size := Nat.le_trans hbU2 FR1.out.size
  have hfb2 := (FR1.out).bel hA
  obtain ⟨n0, n1, n2, n3, n4, n5, n6, n7, n8⟩ := H9.out.kept (hfb2 b hbl)
  simp only [Nat.zero_mul, Nat.add_zero] at n0 n1 n2 n3 n4 n5 n6 n7 n8
  have bQ2 := (FR1.out).blk p _ _ _ HQ.out (by decide) (by decide)
  clear c0 c1 c2 c3 c4 c5 c6 c7 c8
  obtain ⟨c0, c1, c2, c3, c4, c5, c6, c7, c8⟩ := nine' bQ2
  have HC := HIH.out M V1 m (l ++ [(⟨2, 0, 0, 0, []⟩ : In)]) HV1.out hm hbV1 (HTM.out.kept hfb2 (fun _ h => h)) (by simp; have := HN.out; omega)
  have hll2 : (l ++ [(⟨2, 0, 0, 0, []⟩ : In)]).length = n + 1 := by first | (simp [lay_len]; have := HN.out; omega) | (have := HN.out; omega)
  rw [hll2] at HC
  clear bQ2 hfb2 hll2
  go_upto_region 4 with (first | (go_at_call 49; (with_reducible refine HC.mono ?_); rintro e V2 ⟨rfl, hM, hf⟩; have HV2 := hid hM; have HG2 := hid hf; clear hM hf HC))
  have FR2 : Hid (Fr base U V2) := hid ((FR1.out).trans HG2.out)
  have hbV2 : base ≤ V2.heap.size := Nat.le_trans hbU2 FR2.out.size
  clear n0 n1 n2 n3 n4 n5 n6 n7 n8
  have bQ := (FR2.out).blk p _ _ _ HQ.out (by decide) (by decide)
  clear c0 c1 c2 c3 c4 c5 c6 c7 c8
  obtain ⟨c0, c1, c2, c3, c4, c5, c6, c7, c8⟩ := nine' bQ
  have hlf : (l ++ [(⟨2, 0, 0, 0, []⟩ : In)] ++ y.lay (n + 1)).length = n + 1 + y.len := by simp [lay_len]; have := HN.out; omega
  have HNN : Hid (∀ W, Below V2.heap.size V2 W → Calls Try.prog 65 #[pt m] W fun e w' => e = .returned (.int .i64 ((n + 1 + y.len : Nat) : Int)) ∧ w' = W) := fun W hW => by
    have h := next65l ((HV2.out).below hW hA (by omega))
    rw [hlf] at h
    exact h
  have HFK : Hid (∀ W, Below V2.heap.size V2 W → Calls Try.prog 109 #[pt m, .int .i64 ((n : Nat) : Int), .int .i64 ((n + 1 : Nat) : Int), .int .i64 ((n + 1 + y.len : Nat) : Int), .bool a6] W fun e w' => e = .returned (.tuple #[]) ∧ MKL w' m base A (((l ++ [(⟨2, 0, 0, 0, []⟩ : In)] ++ y.lay (n + 1)).modify (n) (In.setX (if a6 then ((n + 1 + y.len : Nat) : Int) else ((n + 1 : Nat) : Int)))).modify (n) (In.setY (if a6 then ((n + 1 : Nat) : Int) else ((n + 1 + y.len : Nat) : Int)))) ∧ Fr base W w') := fun W hW =>
    fork109 (n) _ _ a6 ((HV2.out).below hW hA (by omega)) (by rw [hlf]; omega) hm hA (by rw [hlf]; omega) (Nat.le_trans hbV2 hW.size)
  have w1 : IntKind.i64.wrap ((n : Int) + 1) = (n : Int) + 1 := by simp [IntKind.wrap, IntKind.bits, IntKind.signed]; omega
  push_cast at HNN HFK
  clear bQ
  go_region_with (first | (go_at_call 65; (with_reducible refine (HNN.out _ ?_).mono ?_); (exact drew_below _); rintro e w5 ⟨rfl, hw⟩; have hw' := hw.symm; clear hw; subst hw') | (go_at_call 109; (with_reducible refine (HFK.out _ ?_).mono ?_); (exact drew_below _); rintro e w6 ⟨rfl, hM, hf⟩; have HM6 := hid hM; have HF6 := hid hf; clear hM hf))
  all_goals go_wp2_with fail
  all_goals go_end0
  all_goals
    refine ⟨rfl, ?_, HF.out.trans ((FR2.out).trans ((Fr.of_below (drew_below _) hbV2).trans HF6.out))⟩
    have h := HM6.out
    have el : l.length = n := HN.out.symm
    rw [List.append_assoc] at h
    have h' := h
    rw [show n = l.length from HN.out] at h'
    simp only [List.singleton_append, List.cons_append, List.nil_append, List.append_assoc] at h'
    rw [modify_mid, modify_mid] at h'
    have ef := fork_eq (l.length + 1) (l.length + 1 + y.len) a6
    push_cast at ef h'
    rw [ef] at h'
    exact h'
set_option maxRecDepth 100000 in
set_option maxHeartbeats 8000000 in
theorem star112 {base : Nat} {A : Nat → Prop} {a2 a4 a5 a7 : Int} {a6 : Bool} {a8 : ByteArray} {r1 s1 : Option Addr} {r2 r3 s2 s3 : Nat} {R : List (Int × Int)} {ts : List Tn} (hA : ∀ b, A b → b < base) (y : Tn) (hts : ts = [y]) (h1 : a4 ≠ 1) (h2 : a5 ≠ 1) (hIH : ∀ N, LP 49 base A N y) : LP 112 base A ⟨6, r1, r2, r3, a2, s1, s2, s3, a4, a5, a6, a7, a8⟩ (.mk 6 R a2 ts a4 a5 a6 a7 a8) := by
  intro w m l hM hm hb hT hlen
  obtain ⟨U, hU⟩ : ∃ U, U = w.alloc (.cells #[.int .i64 6, .slice r1 r2 r3, .int .i64 a2, .slice s1 s2 s3, .int .i64 a4, .int .i64 a5, .bool a6, .int .i64 a7, .string a8] 39) := ⟨_, rfl⟩
  have hbU : Below w.heap.size w U := by rw [hU]; exact Joins.below_alloc1 w _
  have hQ : BNo U w.heap.size ⟨6, r1, r2, r3, a2, s1, s2, s3, a4, a5, a6, a7, a8⟩ := by rw [hU]; exact heap_alloc_new w _
  have hMU := hM.below hbU hA (by omega)
  have hbU2 : base ≤ U.heap.size := Nat.le_trans hb hbU.size
  have hTU : TP U A ⟨6, r1, r2, r3, a2, s1, s2, s3, a4, a5, a6, a7, a8⟩ (.mk 6 R a2 ts a4 a5 a6 a7 a8) := hT.kept (fun b hb' => hbU.block b (by have := hA b hb'; omega)) (fun _ h => h)
  have HF := hid (Fr.of_below hbU hb)
  have HQ := hid hQ
  have hpU : w.heap.size < U.heap.size := (Array.getElem?_eq_some_iff.1 hQ).1
  obtain ⟨c0, c1, c2, c3, c4, c5, c6, c7, c8⟩ := nine' hQ
  obtain ⟨p, hp⟩ : ∃ p, p = w.heap.size := ⟨_, rfl⟩
  have HMU := hid hMU
  have HTU := hid hTU
  rw [← hp] at c0 c1 c2 c3 c4 c5 c6 c7 c8 hpU HQ
  subst hts
  have hl6 : (Tn.mk 6 R a2 [y] a4 a5 a6 a7 a8).len = y.len + 2 := by simp [Tn.len, lenL, h1, h2]
  rw [hl6] at hlen
  have e : (Tn.mk 6 R a2 [y] a4 a5 a6 a7 a8).lay l.length = forkI (l.length + 1) (l.length + 1 + y.len + 1) a6 :: (y.lay (l.length + 1) ++ [⟨7, (l.length : Int), 0, 0, []⟩]) := by simp [Tn.lay, layL, lenL, h1, h2]
  rw [e]
  clear h1 h2
  obtain ⟨M, b, o, hs2, hs1, hbl, h9, hTM⟩ : ∃ (M : Nv) (b o : Nat), s2 = 1 ∧ s1 = some ⟨b, o, none⟩ ∧ A b ∧ N9 U b o 0 M ∧ TP U A M y := by
    cases hTU with
    | @mk _ _ _ ND ok hr hR hRk hs hS hk =>
      obtain ⟨b, o, h1, h2, h3⟩ := hS (by simp)
      exact ⟨ND 0, b, o, hs, h1, h2, h3 0 (by simp), hk 0 (by simp)⟩
  subst hs1 hs2
  obtain ⟨n, hn⟩ : ∃ n, n = l.length := ⟨_, rfl⟩
  have HNX := next65l HMU.out
  rw [← hn] at HNX hlen
  have HN := hid hn
  have HIH := hid hIH
  have H9 := hid h9
  have HTM := hid hTM
  clear hIH h9 hTM hn
  clear hM hMU hbU hQ hT hTU
  go_enter Try.func112, Try.ntmps112
  go_upto_region 1 with fail
  rw [← hU, ← hp]
  clear hU hp
  go_upto_region 2 with (first | (go_at_call 65; (with_reducible refine HNX.mono ?_); rintro e w2 ⟨rfl, hw⟩; have hw' := hw.symm; clear hw; subst hw'; clear HNX))
  have HC := addL ⟨2, 0, 0, 0, none, 0, 0⟩ ⟨2, 0, 0, 0, []⟩ HMU.out (im_bare _ _ _ _ _ _) hm hA (by have := HN.out; omega) hbU2
  go_upto_region 3 with (first | (go_at_call 42; (with_reducible refine HC.mono ?_); rintro e V1 ⟨rfl, hM, hf⟩; have HV1 := hid hM; have HG1 := hid hf; clear hM hf HC))
  have FR1 : Hid (Fr base U V1) := hid ((Fr.of_below (Below.refl _ _) hbU2).trans HG1.out)
  have hbV1 : base ≤ V1.heap.size := Nat.le_trans hbU2 FR1.out.size
  have hfb2 := (FR1.out).bel hA
  obtain ⟨n0, n1, n2, n3, n4, n5, n6, n7, n8⟩ := H9.out.kept (hfb2 b hbl)
  simp only [Nat.zero_mul, Nat.add_zero] at n0 n1 n2 n3 n4 n5 n6 n7 n8
  have bQ2 := (FR1.out).blk p _ _ _ HQ.out (by decide) (by decide)
  clear c0 c1 c2 c3 c4 c5 c6 c7 c8
  obtain ⟨c0, c1, c2, c3, c4, c5, c6, c7, c8⟩ := nine' bQ2
  have HC := HIH.out M V1 m (l ++ [(⟨2, 0, 0, 0, []⟩ : In)]) HV1.out hm hbV1 (HTM.out.kept hfb2 (fun _ h => h)) (by simp; have := HN.out; omega)
  have hll2 : (l ++ [(⟨2, 0, 0, 0, []⟩ : In)]).length = n + 1 := by first | (simp [lay_len]; have := HN.out; omega) | (have := HN.out; omega)
  rw [hll2] at HC
  clear bQ2 hfb2 hll2
  go_upto_region 4 with (first | (go_at_call 49; (with_reducible refine HC.mono ?_); rintro e V2 ⟨rfl, hM, hf⟩; have HV2 := hid hM; have HG2 := hid hf; clear hM hf HC))
  have FR2 : Hid (Fr base U V2) := hid ((FR1.out).trans HG2.out)
  have hbV2 : base ≤ V2.heap.size := Nat.le_trans hbU2 FR2.out.size
  clear n0 n1 n2 n3 n4 n5 n6 n7 n8
  have HC := addL ⟨7, (n : Int), 0, 0, none, 0, 0⟩ ⟨7, (n : Int), 0, 0, []⟩ HV2.out (im_bare _ _ _ _ _ _) hm hA (by simp [lay_len]; have := HN.out; omega) hbV2
  go_upto_region 5 with (first | (go_at_call 42; (with_reducible refine HC.mono ?_); rintro e V3 ⟨rfl, hM, hf⟩; have HV3 := hid hM; have HG3 := hid hf; clear hM hf HC))
  have FR3 : Hid (Fr base U V3) := hid ((FR2.out).trans HG3.out)
  have hbV3 : base ≤ V3.heap.size := Nat.le_trans hbU2 FR3.out.size
  have bQ := (FR3.out).blk p _ _ _ HQ.out (by decide) (by decide)
  clear c0 c1 c2 c3 c4 c5 c6 c7 c8
  obtain ⟨c0, c1, c2, c3, c4, c5, c6, c7, c8⟩ := nine' bQ
  have hlf : (l ++ [(⟨2, 0, 0, 0, []⟩ : In)] ++ y.lay (n + 1) ++ [(⟨7, (n : Int), 0, 0, []⟩ : In)]).length = n + 1 + y.len + 1 := by simp [lay_len]; have := HN.out; omega
  have HNN : Hid (∀ W, Below V3.heap.size V3 W → Calls Try.prog 65 #[pt m] W fun e w' => e = .returned (.int .i64 ((n + 1 + y.len + 1 : Nat) : Int)) ∧ w' = W) := fun W hW => by
    have h := next65l ((HV3.out).below hW hA (by omega))
    rw [hlf] at h
    exact h
  have HFK : Hid (∀ W, Below V3.heap.size V3 W → Calls Try.prog 109 #[pt m, .int .i64 ((n : Nat) : Int), .int .i64 ((n + 1 : Nat) : Int), .int .i64 ((n + 1 + y.len + 1 : Nat) : Int), .bool a6] W fun e w' => e = .returned (.tuple #[]) ∧ MKL w' m base A (((l ++ [(⟨2, 0, 0, 0, []⟩ : In)] ++ y.lay (n + 1) ++ [(⟨7, (n : Int), 0, 0, []⟩ : In)]).modify (n) (In.setX (if a6 then ((n + 1 + y.len + 1 : Nat) : Int) else ((n + 1 : Nat) : Int)))).modify (n) (In.setY (if a6 then ((n + 1 : Nat) : Int) else ((n + 1 + y.len + 1 : Nat) : Int)))) ∧ Fr base W w') := fun W hW =>
    fork109 (n) _ _ a6 ((HV3.out).below hW hA (by omega)) (by rw [hlf]; omega) hm hA (by rw [hlf]; omega) (Nat.le_trans hbV3 hW.size)
  have w1 : IntKind.i64.wrap ((n : Int) + 1) = (n : Int) + 1 := by simp [IntKind.wrap, IntKind.bits, IntKind.signed]; omega
  push_cast at HNN HFK
  clear bQ
  go_region_with (first | (go_at_call 65; (with_reducible refine (HNN.out _ ?_).mono ?_); (exact drew_below _); rintro e w5 ⟨rfl, hw⟩; have hw' := hw.symm; clear hw; subst hw') | (go_at_call 109; (with_reducible refine (HFK.out _ ?_).mono ?_); (exact drew_below _); rintro e w6 ⟨rfl, hM, hf⟩; have HM6 := hid hM; have HF6 := hid hf; clear hM hf))
  all_goals go_wp2_with fail
  all_goals go_end0
  all_goals
    refine ⟨rfl, ?_, HF.out.trans ((FR3.out).trans ((Fr.of_below (drew_below _) hbV3).trans HF6.out))⟩
    have h := HM6.out
    have el : l.length = n := HN.out.symm
    rw [List.append_assoc] at h
    have h' := h
    rw [show n = l.length from HN.out] at h'
    simp only [List.singleton_append, List.cons_append, List.nil_append, List.append_assoc] at h'
    rw [modify_mid, modify_mid] at h'
    have ef := fork_eq (l.length + 1) (l.length + 1 + y.len + 1) a6
    push_cast at ef h'
    rw [ef] at h'
    exact h'
set_option maxRecDepth 100000 in
set_option maxHeartbeats 8000000 in
theorem plus110 {base : Nat} {A : Nat → Prop} {a2 a4 a5 a7 : Int} {a6 : Bool} {a8 : ByteArray} {r1 s1 : Option Addr} {r2 r3 s2 s3 : Nat} {R : List (Int × Int)} {ts : List Tn} (hA : ∀ b, A b → b < base) (y : Tn) (hts : ts = [y]) (h1 : a4 = 1) (hIH : ∀ N, LP 49 base A N y) : LP 110 base A ⟨6, r1, r2, r3, a2, s1, s2, s3, a4, a5, a6, a7, a8⟩ (.mk 6 R a2 ts a4 a5 a6 a7 a8) := by
  intro w m l hM hm hb hT hlen
  obtain ⟨U, hU⟩ : ∃ U, U = w.alloc (.cells #[.int .i64 6, .slice r1 r2 r3, .int .i64 a2, .slice s1 s2 s3, .int .i64 a4, .int .i64 a5, .bool a6, .int .i64 a7, .string a8] 39) := ⟨_, rfl⟩
  have hbU : Below w.heap.size w U := by rw [hU]; exact Joins.below_alloc1 w _
  have hQ : BNo U w.heap.size ⟨6, r1, r2, r3, a2, s1, s2, s3, a4, a5, a6, a7, a8⟩ := by rw [hU]; exact heap_alloc_new w _
  have hMU := hM.below hbU hA (by omega)
  have hbU2 : base ≤ U.heap.size := Nat.le_trans hb hbU.size
  have hTU : TP U A ⟨6, r1, r2, r3, a2, s1, s2, s3, a4, a5, a6, a7, a8⟩ (.mk 6 R a2 ts a4 a5 a6 a7 a8) := hT.kept (fun b hb' => hbU.block b (by have := hA b hb'; omega)) (fun _ h => h)
  have HF := hid (Fr.of_below hbU hb)
  have HQ := hid hQ
  have hpU : w.heap.size < U.heap.size := (Array.getElem?_eq_some_iff.1 hQ).1
  obtain ⟨c0, c1, c2, c3, c4, c5, c6, c7, c8⟩ := nine' hQ
  obtain ⟨p, hp⟩ : ∃ p, p = w.heap.size := ⟨_, rfl⟩
  have HMU := hid hMU
  have HTU := hid hTU
  rw [← hp] at c0 c1 c2 c3 c4 c5 c6 c7 c8 hpU HQ
  subst hts
  have hl6 : (Tn.mk 6 R a2 [y] a4 a5 a6 a7 a8).len = y.len + 1 := by simp [Tn.len, lenL, h1]
  rw [hl6] at hlen
  have e : (Tn.mk 6 R a2 [y] a4 a5 a6 a7 a8).lay l.length = y.lay l.length ++ [forkI l.length (l.length + y.len + 1) a6] := by simp [Tn.lay, layL, lenL, h1]
  rw [e]
  clear h1
  obtain ⟨M, b, o, hs2, hs1, hbl, h9, hTM⟩ : ∃ (M : Nv) (b o : Nat), s2 = 1 ∧ s1 = some ⟨b, o, none⟩ ∧ A b ∧ N9 U b o 0 M ∧ TP U A M y := by
    cases hTU with
    | @mk _ _ _ ND ok hr hR hRk hs hS hk =>
      obtain ⟨b, o, h1, h2, h3⟩ := hS (by simp)
      exact ⟨ND 0, b, o, hs, h1, h2, h3 0 (by simp), hk 0 (by simp)⟩
  subst hs1 hs2
  obtain ⟨n, hn⟩ : ∃ n, n = l.length := ⟨_, rfl⟩
  have HNX := next65l HMU.out
  rw [← hn] at HNX hlen
  have HN := hid hn
  have HIH := hid hIH
  have H9 := hid h9
  have HTM := hid hTM
  clear hIH h9 hTM hn
  clear hM hMU hbU hQ hT hTU
  go_enter Try.func110, Try.ntmps110
  go_upto_region 1 with fail
  rw [← hU, ← hp]
  clear hU hp
  go_upto_region 2 with (first | (go_at_call 65; (with_reducible refine HNX.mono ?_); rintro e w2 ⟨rfl, hw⟩; have hw' := hw.symm; clear hw; subst hw'; clear HNX))
  have hfb1 := (Fr.of_below (Below.refl _ _) hbU2).bel hA
  obtain ⟨n0, n1, n2, n3, n4, n5, n6, n7, n8⟩ := H9.out.kept (hfb1 b hbl)
  simp only [Nat.zero_mul, Nat.add_zero] at n0 n1 n2 n3 n4 n5 n6 n7 n8
  have bQ1 := (Fr.of_below (Below.refl _ _) hbU2).blk p _ _ _ HQ.out (by decide) (by decide)
  clear c0 c1 c2 c3 c4 c5 c6 c7 c8
  obtain ⟨c0, c1, c2, c3, c4, c5, c6, c7, c8⟩ := nine' bQ1
  have HC := HIH.out M U m (l) HMU.out hm hbU2 (HTM.out.kept hfb1 (fun _ h => h)) (by have := HN.out; omega)
  have hll1 : (l).length = n := by first | (simp [lay_len]; have := HN.out; omega) | (have := HN.out; omega)
  rw [hll1] at HC
  clear bQ1 hfb1 hll1
  go_upto_region 3 with (first | (go_at_call 49; (with_reducible refine HC.mono ?_); rintro e V1 ⟨rfl, hM, hf⟩; have HV1 := hid hM; have HG1 := hid hf; clear hM hf HC))
  have FR1 : Hid (Fr base U V1) := hid ((Fr.of_below (Below.refl _ _) hbU2).trans HG1.out)
  have hbV1 : base ≤ V1.heap.size := Nat.le_trans hbU2 FR1.out.size
  clear n0 n1 n2 n3 n4 n5 n6 n7 n8
  have HNX := next65l HV1.out
  have hll : (l ++ y.lay n).length = n + y.len := by simp [lay_len]; have := HN.out; omega
  rw [hll] at HNX
  go_upto_region 4 with (first | (go_at_call 65; (with_reducible refine HNX.mono ?_); rintro e w2 ⟨rfl, hw⟩; have hw' := hw.symm; clear hw; subst hw'; clear HNX))
  have HC := addL ⟨2, 0, 0, 0, none, 0, 0⟩ ⟨2, 0, 0, 0, []⟩ HV1.out (im_bare _ _ _ _ _ _) hm hA (by rw [hll]; omega) hbV1
  go_upto_region 5 with (first | (go_at_call 42; (with_reducible refine HC.mono ?_); rintro e V2 ⟨rfl, hM, hf⟩; have HV2 := hid hM; have HG2 := hid hf; clear hM hf HC))
  have FR2 : Hid (Fr base U V2) := hid ((FR1.out).trans HG2.out)
  have hbV2 : base ≤ V2.heap.size := Nat.le_trans hbU2 FR2.out.size
  have bQ := (FR2.out).blk p _ _ _ HQ.out (by decide) (by decide)
  clear c0 c1 c2 c3 c4 c5 c6 c7 c8
  obtain ⟨c0, c1, c2, c3, c4, c5, c6, c7, c8⟩ := nine' bQ
  have hlf : (l ++ y.lay n ++ [(⟨2, 0, 0, 0, []⟩ : In)]).length = n + y.len + 1 := by simp [lay_len]; have := HN.out; omega
  have HNN : Hid (∀ W, Below V2.heap.size V2 W → Calls Try.prog 65 #[pt m] W fun e w' => e = .returned (.int .i64 ((n + y.len + 1 : Nat) : Int)) ∧ w' = W) := fun W hW => by
    have h := next65l ((HV2.out).below hW hA (by omega))
    rw [hlf] at h
    exact h
  have HFK : Hid (∀ W, Below V2.heap.size V2 W → Calls Try.prog 109 #[pt m, .int .i64 ((n + y.len : Nat) : Int), .int .i64 ((n : Nat) : Int), .int .i64 ((n + y.len + 1 : Nat) : Int), .bool a6] W fun e w' => e = .returned (.tuple #[]) ∧ MKL w' m base A (((l ++ y.lay n ++ [(⟨2, 0, 0, 0, []⟩ : In)]).modify (n + y.len) (In.setX (if a6 then ((n + y.len + 1 : Nat) : Int) else ((n : Nat) : Int)))).modify (n + y.len) (In.setY (if a6 then ((n : Nat) : Int) else ((n + y.len + 1 : Nat) : Int)))) ∧ Fr base W w') := fun W hW =>
    fork109 (n + y.len) _ _ a6 ((HV2.out).below hW hA (by omega)) (by rw [hlf]; omega) hm hA (by rw [hlf]; omega) (Nat.le_trans hbV2 hW.size)
  have w1 : IntKind.i64.wrap ((n : Int) + 1) = (n : Int) + 1 := by simp [IntKind.wrap, IntKind.bits, IntKind.signed]; omega
  push_cast at HNN HFK
  clear bQ
  go_region_with (first | (go_at_call 65; (with_reducible refine (HNN.out _ ?_).mono ?_); (exact drew_below _); rintro e w5 ⟨rfl, hw⟩; have hw' := hw.symm; clear hw; subst hw') | (go_at_call 109; (with_reducible refine (HFK.out _ ?_).mono ?_); (exact drew_below _); rintro e w6 ⟨rfl, hM, hf⟩; have HM6 := hid hM; have HF6 := hid hf; clear hM hf))
  all_goals go_wp2_with fail
  all_goals go_end0
  all_goals
    refine ⟨rfl, ?_, HF.out.trans ((FR2.out).trans ((Fr.of_below (drew_below _) hbV2).trans HF6.out))⟩
    have h := HM6.out
    have el : (l ++ y.lay n).length = n + y.len := by simp [lay_len]; have := HN.out; omega
    rw [← el, modify_mid, modify_mid] at h
    have ef := fork_eq n (n + y.len + 1) a6
    push_cast at ef h
    rw [ef] at h
    rw [← HN.out]
    simpa [List.append_assoc] using h
end Go.Proofs.Ytnecakampgdhcaa
/- HELPERS: alternatives laid down, in plain words; the row of their ends. -/
namespace Go.Proofs.Ytnecakampgdhcaa
open Go.RowKit
set_option linter.unusedVariables false
set_option linter.unusedSimpArgs false
/-- all but the last alternative -/
def layB : List Tn → Nat → Int → List In
  | [], _, _ => []
  | t :: ts, n, f => ⟨2, ((n + 1 : Nat) : Int), ((n + t.len + 2 : Nat) : Int), 0, []⟩ :: (t.lay (n + 1) ++ ⟨7, f, 0, 0, []⟩ :: layB ts (n + t.len + 2) f)
def endsB : List Tn → Nat → List Nat
  | [], _ => []
  | t :: ts, n => (n + 1 + t.len) :: endsB ts (n + t.len + 2)
theorem layA_B : ∀ (s : List Tn) (u : Tn) (n : Nat) (f : Int), layA (s ++ [u]) n f = layB s n f ++ u.lay (n + lenL s + 2 * s.length)
  | [], u, n, f => by simp [layA, layB, lenL]
  | [t], u, n, f => by simp [layA, layB, lenL]
  | t :: v :: s, u, n, f => by
    have ih := layA_B (v :: s) u (n + t.len + 2) f
    simp only [List.cons_append] at ih
    simp only [List.cons_append, layA, layB, ih, lenL, List.length_cons, List.append_assoc]
    rw [show n + t.len + 2 + (v.len + lenL s) + 2 * (s.length + 1) = n + (t.len + (v.len + lenL s)) + 2 * (s.length + 1 + 1) by omega]
theorem layB_len : ∀ (s : List Tn) (n : Nat) (f : Int), (layB s n f).length = lenL s + 2 * s.length
  | [], n, f => rfl
  | t :: s, n, f => by simp only [layB, lenL, List.length_cons, List.length_append, lay_len, layB_len s]; omega
theorem endsB_len : ∀ (s : List Tn) (n : Nat), (endsB s n).length = s.length
  | [], n => rfl
  | t :: s, n => by simp only [endsB, List.length_cons, endsB_len s]
theorem layB_app : ∀ (s : List Tn) (t : Tn) (n : Nat) (f : Int), layB (s ++ [t]) n f = layB s n f ++ (⟨2, ((n + lenL s + 2 * s.length + 1 : Nat) : Int), ((n + lenL s + 2 * s.length + t.len + 2 : Nat) : Int), 0, []⟩ :: (t.lay (n + lenL s + 2 * s.length + 1) ++ [⟨7, f, 0, 0, []⟩]))
  | [], t, n, f => by simp [layB, lenL]
  | v :: s, t, n, f => by
    have ih := layB_app s t (n + v.len + 2) f
    simp only [List.cons_append, layB, ih, lenL, List.length_cons, List.append_assoc]
    rw [show n + v.len + 2 + lenL s + 2 * s.length = n + (v.len + lenL s) + 2 * (s.length + 1) by omega]
theorem endsB_app : ∀ (s : List Tn) (t : Tn) (n : Nat), endsB (s ++ [t]) n = endsB s n ++ [n + lenL s + 2 * s.length + 1 + t.len]
  | [], t, n => by simp [endsB, lenL]
  | v :: s, t, n => by
    have ih := endsB_app s t (n + v.len + 2)
    simp only [List.cons_append, endsB, ih, lenL, List.length_cons]
    rw [show n + v.len + 2 + lenL s + 2 * s.length + 1 + t.len = n + (v.len + lenL s) + 2 * (s.length + 1) + 1 + t.len by omega]
def setAll (f : Int) (L : List In) (es : List Nat) : List In := es.foldl (fun L e => L.modify e (In.setX f)) L
theorem setAll_len (f : Int) : ∀ (es : List Nat) (L : List In), (setAll f L es).length = L.length
  | [], L => rfl
  | e :: es, L => by
    show (setAll f (L.modify e (In.setX f)) es).length = _
    rw [setAll_len f es, List.length_modify]
theorem setAll_B (f : Int) : ∀ (s : List Tn) (n : Nat) (pre suf : List In), pre.length = n → setAll f (pre ++ (layB s n 0 ++ suf)) (endsB s n) = pre ++ (layB s n f ++ suf)
  | [], n, pre, suf, h => rfl
  | t :: s, n, pre, suf, h => by
    show setAll f ((pre ++ (layB (t :: s) n 0 ++ suf)).modify (n + 1 + t.len) (In.setX f)) (endsB s (n + t.len + 2)) = _
    have e1 : pre ++ (layB (t :: s) n 0 ++ suf) = (pre ++ ⟨2, ((n + 1 : Nat) : Int), ((n + t.len + 2 : Nat) : Int), 0, []⟩ :: t.lay (n + 1)) ++ ⟨7, 0, 0, 0, []⟩ :: (layB s (n + t.len + 2) 0 ++ suf) := by simp [layB, List.append_assoc]
    have e2 : (pre ++ (⟨2, ((n + 1 : Nat) : Int), ((n + t.len + 2 : Nat) : Int), 0, []⟩ : In) :: t.lay (n + 1)).length = n + 1 + t.len := by simp [lay_len, h]; omega
    rw [e1, ← e2, modify_mid]
    have ih := setAll_B f s (n + t.len + 2) ((pre ++ ⟨2, ((n + 1 : Nat) : Int), ((n + t.len + 2 : Nat) : Int), 0, []⟩ :: t.lay (n + 1)) ++ [⟨7, f, 0, 0, []⟩]) suf (by rw [List.length_append, e2]; simp; omega)
    have e3 : (pre ++ ⟨2, ((n + 1 : Nat) : Int), ((n + t.len + 2 : Nat) : Int), 0, []⟩ :: t.lay (n + 1)) ++ In.setX f ⟨7, 0, 0, 0, []⟩ :: (layB s (n + t.len + 2) 0 ++ suf) = ((pre ++ ⟨2, ((n + 1 : Nat) : Int), ((n + t.len + 2 : Nat) : Int), 0, []⟩ :: t.lay (n + 1)) ++ [⟨7, f, 0, 0, []⟩]) ++ (layB s (n + t.len + 2) 0 ++ suf) := by simp [In.setX, List.append_assoc]
    rw [e3, ih]
    simp [layB, List.append_assoc]
theorem setAll_take (f : Int) (L : List In) (es : List Nat) (j : Nat) (hj : j < es.length) : setAll f L (es.take (j + 1)) = (setAll f L (es.take j)).modify es[j] (In.setX f) := by
  unfold setAll
  rw [List.take_succ_eq_append_getElem hj, List.foldl_append]; rfl
theorem endsB_lt : ∀ (s : List Tn) (n : Nat) (e : Nat), e ∈ endsB s n → e < n + lenL s + 2 * s.length
  | [], n, e, h => by simp [endsB] at h
  | t :: s, n, e, h => by
    simp only [endsB, List.mem_cons] at h
    simp only [lenL, List.length_cons]
    rcases h with rfl | h
    · omega
    · have := endsB_lt s _ e h; omega
/-- the row of ends: so many of them are there -/
def EB (w : World) (z n : Nat) (es : List Nat) : Prop := ∃ arr : Array Value, w.heap[z]? = some (.cells arr 3 (0, 0)) ∧ arr.size = n ∧ ∀ j (hj : j < es.length), arr[j]? = some (.int .i64 ((es[j] : Nat) : Int))
theorem EB.fr {base : Nat} {w w' : World} {z n : Nat} {es : List Nat} (h : EB w z n es) (hf : Fr base w w') : EB w' z n es := by
  obtain ⟨arr, h1, h2, h3⟩ := h
  exact ⟨arr, hf.blk z _ _ _ h1 (by decide) (by decide), h2, h3⟩
theorem EB.set {w : World} {z n : Nat} {es : List Nat} (h : EB w z n es) (e : Nat) (he : es.length < n) : EB (w.setCell ⟨z, es.length, none⟩ (.int .i64 ((e : Nat) : Int))) z n (es ++ [e]) := by
  obtain ⟨arr, h1, h2, h3⟩ := h
  refine ⟨arr.setIfInBounds es.length (.int .i64 ((e : Nat) : Int)), Joins.block_setCell h1 _, by simpa using h2, fun j hj => ?_⟩
  simp only [List.length_append, List.length_cons, List.length_nil] at hj
  rw [Array.getElem?_setIfInBounds]
  by_cases e' : j = es.length
  · subst e'
    rw [if_pos rfl, if_pos (by omega)]
    simp
  · rw [if_neg (by omega), List.getElem_append_left (by omega)]
    exact h3 j (by omega)
theorem make3 (c : Nat) (hc : c ≤ 1000000) (w : World) : (Instr.makeSlice 43 (.int .i64 (c : Int)) (.int .i64 (c : Int))).run Try.prog w = .ok (.slice (some ⟨w.heap.size, 0, none⟩) c c) (w.alloc (.cells (madeCells (Value.int .i64 0).cells c) 3)) := by
  obtain ⟨i0, hi0, hz0, hz1, hz2⟩ := info_parts info3
  have h := run_make (P := Try.prog) w 43 3 i0 (.int .i64 0) Try.underlying43 hi0 hz0 .i64 .i64 c c (by omega) (Int.le_refl _) (by rw [hz2]; omega) (by omega)
  simp only [Int.toNat_natCast, hz1, Nat.mul_one] at h
  exact h
theorem EB.made (w : World) (c : Nat) : EB (w.alloc (.cells (madeCells (Value.int .i64 0).cells c) 3)) w.heap.size c [] := ⟨_, heap_alloc_new w _, size_madeCells _ _, fun j hj => by simp at hj⟩
theorem Fr.set {base : Nat} {w : World} {z : Nat} (o : Nat) (v : Value) (hz : base ≤ z) {arr : Array Value} (h : w.heap[z]? = some (.cells arr 3 (0, 0))) : ∀ {m : Nat} {A : Nat → Prop} {l : List In}, MKL w m base A l → (∀ b, A b → b < base) → MKL (w.setCell ⟨z, o, none⟩ v) m base A l := by
  intro m A l hM hA
  obtain ⟨is, ⟨z1, c, h1, h2⟩, h3, h4⟩ := hM
  refine ⟨is, ⟨z1, c, (Below.heap_setCell _ _ _ _ (fun e => ?_)).trans h1, own_setCell h2 (fun e => own_ne h2 h (by decide) e)⟩, h3, fun k hk hk' => (h4 k hk hk').kept fun b hb' => Below.heap_setCell _ _ _ _ (by have := hA b hb'; show b ≠ z; omega)⟩
  subst e
  rw [h1] at h
  cases h
end Go.Proofs.Ytnecakampgdhcaa
/- HELPERS: alternatives laid down. -/
namespace Go.Proofs.Ytnecakampgdhcaa
open Go.RowKit
set_option linter.unusedVariables false
set_option linter.unusedSimpArgs false
set_option maxRecDepth 100000 in
set_option maxHeartbeats 8000000 in
theorem alt98 {base : Nat} {A : Nat → Prop} {a2 a4 a5 a7 : Int} {a6 : Bool} {a8 : ByteArray} {r1 s1 : Option Addr} {r2 r3 s2 s3 : Nat} {R : List (Int × Int)} {ts : List Tn} (hA : ∀ b, A b → b < base) (h2 : 2 ≤ ts.length) (hIH : ∀ i (hi : i < ts.length) N, LP 49 base A N ts[i]) : LP 98 base A ⟨5, r1, r2, r3, a2, s1, s2, s3, a4, a5, a6, a7, a8⟩ (.mk 5 R a2 ts a4 a5 a6 a7 a8) := by
  intro w m l hM hm hb hT hlen
  obtain ⟨U, hU⟩ : ∃ U, U = w.alloc (.cells #[.int .i64 5, .slice r1 r2 r3, .int .i64 a2, .slice s1 s2 s3, .int .i64 a4, .int .i64 a5, .bool a6, .int .i64 a7, .string a8] 39) := ⟨_, rfl⟩
  have hbU : Below w.heap.size w U := by rw [hU]; exact Joins.below_alloc1 w _
  have hQ : BNo U w.heap.size ⟨5, r1, r2, r3, a2, s1, s2, s3, a4, a5, a6, a7, a8⟩ := by rw [hU]; exact heap_alloc_new w _
  have hMU := hM.below hbU hA (by omega)
  have hbU2 : base ≤ U.heap.size := Nat.le_trans hb hbU.size
  have hTU : TP U A ⟨5, r1, r2, r3, a2, s1, s2, s3, a4, a5, a6, a7, a8⟩ (.mk 5 R a2 ts a4 a5 a6 a7 a8) := hT.kept (fun b hb' => hbU.block b (by have := hA b hb'; omega)) (fun _ h => h)
  have HF := hid (Fr.of_below hbU hb)
  have HQ := hid hQ
  have hpU : w.heap.size < U.heap.size := (Array.getElem?_eq_some_iff.1 hQ).1
  obtain ⟨c0, c1, c2, c3, c4, c5, c6, c7, c8⟩ := nine' hQ
  obtain ⟨p, hp⟩ : ∃ p, p = w.heap.size := ⟨_, rfl⟩
  have HMU := hid hMU
  have HTU := hid hTU
  rw [← hp] at c0 c1 c2 c3 c4 c5 c6 c7 c8 hpU HQ
  obtain ⟨d, hd⟩ : ∃ d, ts.length = d + 1 := ⟨ts.length - 1, by omega⟩
  have hl5 : (Tn.mk 5 R a2 ts a4 a5 a6 a7 a8).len = lenL ts + 2 * d := by simp [Tn.len]; omega
  rw [hl5] at hlen
  obtain ⟨u, hu, hsplit⟩ : ∃ u, (∀ h : d < ts.length, ts[d] = u) ∧ ts = ts.take d ++ [u] := by
    have e := List.take_succ_eq_append_getElem (show d < ts.length by omega)
    rw [show d + 1 = ts.length by omega, List.take_length] at e
    exact ⟨_, fun _ => rfl, e⟩
  have e : (Tn.mk 5 R a2 ts a4 a5 a6 a7 a8).lay l.length = layA ts l.length ((l.length + (lenL ts + 2 * d) : Nat) : Int) := by simp [Tn.lay, hd]
  rw [e]
  obtain ⟨ND, hs, hS, hk⟩ : ∃ ND : Nat → Nv, s2 = ts.length ∧ (0 < ts.length → ∃ b o, s1 = some ⟨b, o, none⟩ ∧ A b ∧ ∀ i, i < ts.length → N9 U b o i (ND i)) ∧ ∀ i (hi : i < ts.length), TP U A (ND i) ts[i] := by cases hTU with | @mk _ _ _ ND ok hr hR hRk hs hS hk => exact ⟨ND, hs, hS, hk⟩
  obtain ⟨hsc, hmx⟩ : s2 ≤ s3 ∧ s3 ≤ 9223372036854775807 := by cases hTU with | mk ok hr hR hRk hs hS hk => have := ok.s; have e : maxLen = 9223372036854775807 := rfl; dsimp only at this; omega
  obtain ⟨b, o, hs1, hbl, h9⟩ := hS (by omega)
  subst hs1
  obtain rfl : s2 = d + 1 := by omega
  obtain ⟨n, hn⟩ : ∃ n, n = l.length := ⟨_, rfl⟩
  rw [← hn] at hlen ⊢
  have HN := hid hn
  have H9 := hid h9
  have HK := hid hk
  have HIH := hid hIH
  have HD := hid hd
  have HSP := hid hsplit
  have HLU : Hid (∀ N, LP 49 base A N u) := fun N => by have h := hIH d (by omega) N; rw [hu (by omega)] at h; exact h
  have HTU' : Hid (TP U A (ND d) u) := by have h := hk d (by omega); rw [hu (by omega)] at h; exact h
  have hdn : 2 * d ≤ 20000 := by omega
  have w1 : IntKind.i64.wrap (((d + 1 : Nat) : Int) - 1) = (d : Int) := by simp [IntKind.wrap, IntKind.bits, IntKind.signed]; omega
  have w1' : IntKind.i64.wrap ((d : Int) + 1 - 1) = (d : Int) := by simp [IntKind.wrap, IntKind.bits, IntKind.signed]; omega
  have hmk := make3 d (by omega) U
  have hEB := EB.made U d
  obtain ⟨V, hV⟩ : ∃ V, V = U.alloc (.cells (madeCells (Value.int .i64 0).cells d) 3) := ⟨_, rfl⟩
  rw [← hV] at hmk hEB
  have hVb : Below U.heap.size U V := by rw [hV]; exact Joins.below_alloc1 U _
  obtain ⟨z, hz⟩ : ∃ z, z = U.heap.size := ⟨_, rfl⟩
  rw [← hz] at hmk hEB
  have HEB := hid hEB
  have hMV := HMU.out.below hVb hA (by omega)
  have HMV := hid hMV
  have HFV := hid (Fr.of_below hVb hbU2)
  have hbV : base ≤ V.heap.size := Nat.le_trans hbU2 hVb.size
  have hbz : base ≤ z := by omega
  have HUZ : Hid (U.heap.size ≤ z) := by show _ ≤ _; omega
  have HLN := hid hlen
  have hcc : (d : Int) ≤ (s3 : Int) := by omega
  have HSI : Hid (∀ i (hlt : i < ts.length), lenL (ts.take i) + ts[i].len ≤ lenL ts) := fun i hlt => by
    have h1 := lenL_append (ts.take (i + 1)) (ts.drop (i + 1))
    rw [List.take_append_drop, List.take_succ_eq_append_getElem hlt, lenL_append] at h1
    simp only [lenL] at h1
    omega
  clear hs hS hk hIH hlen hn h9 hsplit hd hV hVb hz hEB hMV h2 hu
  clear hM hMU hbU hQ hT hTU
  go_enter Try.func98, Try.ntmps98
  go_upto_region 1 with fail
  rw [← hU, ← hp]
  clear hU hp
  go_upto_region 3 with fail
  have bQV := HFV.out.blk p _ _ _ HQ.out (by decide) (by decide)
  clear c0 c1 c2 c3 c4 c5 c6 c7 c8
  obtain ⟨c0, c1, c2, c3, c4, c5, c6, c7, c8⟩ := nine' bQV
  have HQV := hid bQV
  clear bQV
  go_wp2_with fail
  go_loopw [22] (fun y wq => ∃ i : Nat, y = .int .i64 (i : Int) ∧ i ≤ d ∧ Hid (MKL wq m base A (l ++ layB (ts.take i) n 0)) ∧ Hid (EB wq z d (endsB (ts.take i) n)) ∧ Hid (Fr base U wq)) (fun y _ => d - (intOf y).toNat)
  case atStart => exact ⟨0, rfl, by omega, by show MKL _ _ _ _ _; simpa [layB] using HMV.out, by show EB _ _ _ _; simpa [endsB] using HEB.out, HFV⟩
  case round =>
    obtain ⟨i, rfl, hi, HI, HE, HFq⟩ := hrel
    have hbw : base ≤ wr.heap.size := Nat.le_trans hbU2 HFq.out.size
    have bQ := HFq.out.blk p _ _ _ HQ.out (by decide) (by decide)
    clear c0 c1 c2 c3 c4 c5 c6 c7 c8
    obtain ⟨c0, c1, c2, c3, c4, c5, c6, c7, c8⟩ := nine' bQ
    clear bQ
    by_cases hil : i < d
    · have b1 : decide ((i : Int) < (d : Int)) = true := by simp; omega
      have b2 : (i : Int) < (d : Int) := by omega
      have ad1 : IntKind.i64.wrap ((i : Int) + 1) = (i : Int) + 1 := by simp [IntKind.wrap, IntKind.bits, IntKind.signed]; omega
      have hlt : i < ts.length := by have := HD.out; omega
      have hfb := HFq.out.bel hA
      obtain ⟨n0, n1, n2, n3, n4, n5, n6, n7, n8⟩ := (H9.out i hlt).kept (hfb b hbl)
      have hTi := (HK.out i hlt).kept hfb (fun _ h => h)
      have hln := HSI.out i hlt
      have hLP := HIH.out i hlt
      have hapB := layB_app (ts.take i) ts[i] n 0
      have hapE := endsB_app (ts.take i) ts[i] n
      rw [← List.take_succ_eq_append_getElem hlt] at hapB hapE
      have htl : (ts.take i).length = i := by rw [List.length_take]; omega
      rw [htl] at hapB hapE
      have hEl : (endsB (ts.take i) n).length = i := by rw [endsB_len, htl]
      have hla : (l ++ layB (ts.take i) n 0).length = n + lenL (ts.take i) + 2 * i := by rw [List.length_append, layB_len, htl]; have := HN.out; omega
      obtain ⟨a, ha⟩ : ∃ a, a = n + lenL (ts.take i) + 2 * i := ⟨_, rfl⟩
      rw [← ha] at hapB hapE hla
      obtain ⟨t, ht⟩ : ∃ t, t = ts[i] := ⟨_, rfl⟩
      rw [← ht] at hTi hln hLP hapB hapE
      obtain ⟨M, hMe⟩ : ∃ M, M = ND i := ⟨_, rfl⟩
      rw [← hMe] at n0 n1 n2 n3 n4 n5 n6 n7 n8 hTi
      obtain ⟨lst, hlst⟩ : ∃ lst, lst = l ++ layB (ts.take i) n 0 := ⟨_, rfl⟩
      have hI := HI.out
      rw [← hlst] at hI hla
      obtain ⟨es, hes⟩ : ∃ es, es = endsB (ts.take i) n := ⟨_, rfl⟩
      have hE := HE.out
      rw [← hes] at hE hEl
      have hlb := HLN.out
      have hab : a + t.len + 2 ≤ 20000 := by omega
      have HTi := hid hTi
      have HLP := hid hLP
      have HAB := hid hapB
      have HAE := hid hapE
      have HLA := hid hla
      have HLST := hid hlst
      have HES := hid hes
      have HEL := hid hEl
      have HI' := hid hI
      have HE' := hid hE
      clear hfb hTi hln hLP hapB hapE htl hEl hla ha ht hMe hlst hI hes hE HI HE hlb
      go_upto_region 6 with fail
      obtain ⟨X, hX⟩ : ∃ X, X = wr.alloc (.cells #[.int .i64 M.k, .slice M.r1 M.r2 M.r3, .int .i64 M.a2, .slice M.s1 M.s2 M.s3, .int .i64 M.a4, .int .i64 M.a5, .bool M.a6, .int .i64 M.a7, .string M.a8] 39) := ⟨_, rfl⟩
      rw [← hX]
      have hXb : Below wr.heap.size wr X := by rw [hX]; exact Joins.below_alloc1 wr _
      have hXn : BNo X wr.heap.size M := by rw [hX]; exact heap_alloc_new wr _
      have hXF := Fr.of_below (base := base) hXb hbw
      have hXM := HI'.out.below hXb hA (by omega)
      have hbX : base ≤ X.heap.size := Nat.le_trans hbw hXb.size
      have HNX := next65l hXM
      rw [HLA.out] at HNX
      have HC := addL ⟨2, 0, 0, 0, none, 0, 0⟩ ⟨2, 0, 0, 0, []⟩ hXM (im_bare _ _ _ _ _ _) hm hA (by rw [HLA.out]; omega) hbX
      have HXN := hid hXn
      have HXE := hid (HE'.out.fr hXF)
      have HXF := hid hXF
      have HXT := hid (HTi.out.kept (fun b hb' => hXb.block b (by have := hA b hb'; omega)) (fun _ h => h))
      obtain ⟨xb, hxb⟩ : ∃ xb, xb = wr.heap.size := ⟨_, rfl⟩
      rw [← hxb] at HXN ⊢
      clear hX hXb hXn hXF hXM n0 n1 n2 n3 n4 n5 n6 n7 n8 hxb HTi HE' HI'
      go_upto_region 7 with (first | (go_at_call 65; (with_reducible refine HNX.mono ?_); rintro e w2 ⟨rfl, hw⟩; have hw' := hw.symm; clear hw; subst hw'; clear HNX))
      go_upto_region 8 with (first | (go_at_call 42; (with_reducible refine HC.mono ?_); rintro e V1 ⟨rfl, hM, hf⟩; have HM1 := hid hM; have HF1 := hid hf; clear hM hf HC))
      have hb1 : base ≤ V1.heap.size := Nat.le_trans hbX HF1.out.size
      have h1N := HF1.out.blk xb _ _ _ HXN.out (by decide) (by decide)
      obtain ⟨x0, x1, x2, x3, x4, x5, x6, x7, x8⟩ := nine' h1N
      have hl1 : (lst ++ [(⟨2, 0, 0, 0, []⟩ : In)]).length = a + 1 := by rw [List.length_append, HLA.out]; rfl
      have HC := HLP.out M V1 m _ HM1.out hm hb1 (HXT.out.kept (HF1.out.bel hA) (fun _ h => h)) (by rw [hl1]; omega)
      rw [hl1] at HC
      clear h1N hl1
      go_upto_region 9 with (first | (go_at_call 49; (with_reducible refine HC.mono ?_); rintro e V2 ⟨rfl, hM, hf⟩; have HM2 := hid hM; have HF2 := hid hf; clear hM hf HC))
      clear x0 x1 x2 x3 x4 x5 x6 x7 x8
      have hb2 : base ≤ V2.heap.size := Nat.le_trans hb1 HF2.out.size
      have hl2 : (lst ++ [(⟨2, 0, 0, 0, []⟩ : In)] ++ t.lay (a + 1)).length = a + 1 + t.len := by rw [List.length_append, List.length_append, HLA.out, lay_len]; rfl
      have HNX := next65l HM2.out
      rw [hl2] at HNX
      have hE2 := (HXE.out.fr HF1.out).fr HF2.out
      have HE2 := hid hE2
      obtain ⟨arr, hz2, hzs, _⟩ := hE2
      have fz := Joins.unfrozen_of_block hz2 i
      have kz : V2.cell? ⟨z, i, none⟩ = some (arr[i]'(by omega)) := by rw [Joins.cell_of_block hz2, Array.getElem?_eq_getElem (by omega)]
      obtain ⟨vz, hvz⟩ : ∃ vz, vz = arr[i]'(by omega) := ⟨_, rfl⟩
      rw [← hvz] at kz
      have HZ2 := hid hz2
      clear hz2 hzs hvz hl2
      go_upto_region 10 with (first | (go_at_call 65; (with_reducible refine HNX.mono ?_); rintro e w2 ⟨rfl, hw⟩; have hw' := hw.symm; clear hw; subst hw'; clear HNX))
      obtain ⟨V3, hV3⟩ : ∃ V3, V3 = V2.setCell ⟨z, i, none⟩ (.int .i64 ((a + 1 + t.len : Nat) : Int)) := ⟨_, rfl⟩
      have hV3' := hV3
      push_cast at hV3'
      first | rw [← hV3] | rw [← hV3']
      have hM3 : MKL V3 m base A (lst ++ [(⟨2, 0, 0, 0, []⟩ : In)] ++ t.lay (a + 1)) := by rw [hV3]; exact Fr.set i _ hbz HZ2.out HM2.out hA
      have hE3 : EB V3 z d (es ++ [a + 1 + t.len]) := by
        rw [hV3]
        have h := HE2.out.set (a + 1 + t.len) (by rw [HEL.out]; exact hil)
        rw [HEL.out] at h
        exact h
      have hFr2 : Fr base U V2 := HFq.out.trans (HXF.out.trans (HF1.out.trans HF2.out))
      have hF3 : Fr base U V3 := by
        have hzz := HUZ.out
        rw [hV3]
        exact ⟨hFr2.os, hFr2.tape, hFr2.output, by have := hFr2.size; simpa [World.setCell] using this, fun b cs t fr e h1 h2 => (Below.heap_setCell _ _ _ _ (by have := (Array.getElem?_eq_some_iff.1 e).1; show b ≠ z; omega)).trans (hFr2.blk b cs t fr e h1 h2), fun b hb' => (Below.heap_setCell _ _ _ _ (by show b ≠ z; omega)).trans (hFr2.low b hb')⟩
      have hb3 : base ≤ V3.heap.size := Nat.le_trans hbU2 hF3.size
      have hl3 : (lst ++ [(⟨2, 0, 0, 0, []⟩ : In)] ++ t.lay (a + 1)).length = a + 1 + t.len := by rw [List.length_append, List.length_append, HLA.out, lay_len]; rfl
      have HC := addL ⟨7, 0, 0, 0, none, 0, 0⟩ ⟨7, 0, 0, 0, []⟩ hM3 (im_bare _ _ _ _ _ _) hm hA (by rw [hl3]; omega) hb3
      have HE3 := hid hE3
      have HF3 := hid hF3
      clear hV3 hV3' hM3 hE3 hFr2 hF3 hl3 fz kz HZ2 HE2
      go_upto_region 11 with (first | (go_at_call 42; (with_reducible refine HC.mono ?_); rintro e V4 ⟨rfl, hM, hf⟩; have HM4 := hid hM; have HF4 := hid hf; clear hM hf HC))
      have hb4 : base ≤ V4.heap.size := Nat.le_trans hb3 HF4.out.size
      have hl4 : (lst ++ [(⟨2, 0, 0, 0, []⟩ : In)] ++ t.lay (a + 1) ++ [(⟨7, 0, 0, 0, []⟩ : In)]).length = a + t.len + 2 := by rw [List.length_append, List.length_append, List.length_append, HLA.out, lay_len]; simp; omega
      have HNN : Hid (∀ W, Below V4.heap.size V4 W → Calls Try.prog 65 #[pt m] W fun e w' => e = .returned (.int .i64 ((a + t.len + 2 : Nat) : Int)) ∧ w' = W) := fun W hW => by
        have h := next65l (HM4.out.below hW hA (by omega))
        rw [hl4] at h
        exact h
      have HFK : Hid (∀ W, Below V4.heap.size V4 W → Calls Try.prog 109 #[pt m, .int .i64 ((a : Nat) : Int), .int .i64 ((a + 1 : Nat) : Int), .int .i64 ((a + t.len + 2 : Nat) : Int), .bool false] W fun e w' => e = .returned (.tuple #[]) ∧ MKL w' m base A (((lst ++ [(⟨2, 0, 0, 0, []⟩ : In)] ++ t.lay (a + 1) ++ [(⟨7, 0, 0, 0, []⟩ : In)]).modify a (In.setX ((a + 1 : Nat) : Int))).modify a (In.setY ((a + t.len + 2 : Nat) : Int))) ∧ Fr base W w') := fun W hW => by
        have h := fork109 a ((a + 1 : Nat) : Int) ((a + t.len + 2 : Nat) : Int) false (HM4.out.below hW hA (by omega)) (by rw [hl4]; omega) hm hA (by rw [hl4]; omega) (Nat.le_trans hb4 hW.size)
        simpa using h
      have wa : IntKind.i64.wrap ((a : Int) + 1) = (a : Int) + 1 := by simp [IntKind.wrap, IntKind.bits, IntKind.signed]; omega
      push_cast at HNN HFK
      clear hl4
      go_region_with (first | (go_at_call 65; (with_reducible refine (HNN.out _ ?_).mono ?_); (exact drew_below _); rintro e w5 ⟨rfl, hw⟩; have hw' := hw.symm; clear hw; subst hw') | (go_at_call 109; (with_reducible refine (HFK.out _ ?_).mono ?_); (exact drew_below _); rintro e w6 ⟨rfl, hM, hf⟩; have HM6 := hid hM; have HF6 := hid hf; clear hM hf))
      all_goals go_wp2_with fail
      all_goals
        have hF46 : Fr base V3 w6 := HF4.out.trans ((Fr.of_below (drew_below _) hb4).trans HF6.out)
        refine ⟨⟨i + 1, by push_cast; rfl, by omega, ?_, ?_, HF3.out.trans hF46⟩, by simp [intOf]; omega⟩
        · show MKL _ _ _ _ _
          rw [HAB.out]
          have h := HM6.out
          have el := HLA.out
          rw [show a = lst.length from el.symm] at h
          simp only [List.singleton_append, List.cons_append, List.nil_append, List.append_assoc] at h
          rw [modify_mid, modify_mid, el] at h
          rw [← List.append_assoc, ← HLST.out]
          simpa [In.setX, In.setY, Int.add_assoc] using h
        · show EB _ _ _ _
          rw [HAE.out, ← HES.out]
          exact HE3.out.fr hF46
    · have b1 : decide ((i : Int) < (d : Int)) = false := by simp; omega
      obtain rfl : i = d := by omega
      have hlt : i < ts.length := by have := HD.out; omega
      have b2 : (i : Int) < (i : Int) + 1 := by omega
      have hfb := HFq.out.bel hA
      obtain ⟨n0, n1, n2, n3, n4, n5, n6, n7, n8⟩ := (H9.out i hlt).kept (hfb b hbl)
      have hTi := HTU'.out.kept hfb (fun _ h => h)
      have hsp := HSP.out
      have htl : (ts.take i).length = i := by rw [List.length_take]; omega
      obtain ⟨s, hse⟩ : ∃ s, s = ts.take i := ⟨_, rfl⟩
      rw [← hse] at hsp htl
      have hI := HI.out
      have hE := HE.out
      rw [← hse] at hI hE
      have hlen2 : lenL ts = lenL s + u.len := by rw [hsp, lenL_append]; simp [lenL]
      have hla : (l ++ layB s n 0).length = n + lenL s + 2 * i := by rw [List.length_append, layB_len, htl]; have := HN.out; omega
      obtain ⟨M, hMe⟩ : ∃ M, M = ND i := ⟨_, rfl⟩
      rw [← hMe] at n0 n1 n2 n3 n4 n5 n6 n7 n8 hTi
      have hlb := HLN.out
      have HC := HLU.out M wr m _ hI hm hbw hTi (by rw [hla]; omega)
      rw [hla, List.append_assoc] at HC
      obtain ⟨f, hf⟩ : ∃ f, f = n + lenL ts + 2 * i := ⟨_, rfl⟩
      have hLw : (l ++ (layB s n 0 ++ u.lay (n + lenL s + 2 * i))).length = f := by rw [List.length_append, List.length_append, layB_len, htl, lay_len]; have := HN.out; omega
      have hfin : l ++ layA ts n ((n + (lenL ts + 2 * i) : Nat) : Int) = setAll (f : Int) (l ++ (layB s n 0 ++ u.lay (n + lenL s + 2 * i))) (endsB s n) := by
        rw [setAll_B (f : Int) s n l _ HN.out.symm, hf, show n + (lenL ts + 2 * i) = n + lenL ts + 2 * i by omega]
        congr 1
        have h := layA_B s u n ((n + lenL ts + 2 * i : Nat) : Int)
        rw [← hsp, htl] at h
        exact h
      obtain ⟨Lw, hLwe⟩ : ∃ Lw, Lw = l ++ (layB s n 0 ++ u.lay (n + lenL s + 2 * i)) := ⟨_, rfl⟩
      rw [← hLwe] at HC hLw hfin
      obtain ⟨es, hes⟩ : ∃ es, es = endsB s n := ⟨_, rfl⟩
      have hel : es.length = i := by rw [hes, endsB_len, htl]
      have hlte : ∀ j (h : j < es.length), es[j] < f := fun j h => by
        have h1 := endsB_lt s n es[j] (by rw [← hes]; exact List.getElem_mem h)
        omega
      rw [← hes] at hE hfin
      have hff : f ≤ 20000 := by omega
      have HE' := hid hE
      have HLW := hid hLw
      have HFIN := hid hfin
      have HEL := hid hel
      have HLTE := hid hlte
      clear hfb hTi hsp htl hse hI hE hlen2 hla hMe hlb hf hLw hfin hLwe hes hel hlte HI HE
      go_upto_region 14 with (first | (go_at_call 49; (with_reducible refine HC.mono ?_); rintro e V1 ⟨rfl, hM, hf⟩; have HM1 := hid hM; have HF1 := hid hf; clear hM hf HC))
      have hF1 : Fr base U V1 := HFq.out.trans HF1.out
      have hE1 := HE'.out.fr HF1.out
      have HFV1 := hid hF1
      have HE1 := hid hE1
      clear hF1 hE1 n0 n1 n2 n3 n4 n5 n6 n7 n8 c0 c1 c2 c3 c4 c5 c6 c7 c8 HE' HF1 HFq
      go_wp2_with fail
      go_loopw [72] (fun y wq => ∃ j : Nat, y = .int .i64 (j : Int) ∧ j ≤ i ∧ Hid (MKL wq m base A (setAll (f : Int) Lw (es.take j))) ∧ Hid (EB wq z i es) ∧ Hid (Fr base U wq)) (fun y _ => i - (intOf y).toNat)
      case atStart => exact ⟨0, rfl, by omega, by show MKL _ _ _ _ _; simpa [setAll] using HM1.out, HE1, HFV1⟩
      case round =>
        obtain ⟨j, rfl, hj, HJ, HEj, HFj⟩ := hrel
        have hbj : base ≤ wr.heap.size := Nat.le_trans hbU2 HFj.out.size
        by_cases hji : j < i
        · have d1 : decide ((j : Int) < (i : Int)) = true := by simp; omega
          have d2 : (j : Int) < (i : Int) := by omega
          have ad1 : IntKind.i64.wrap ((j : Int) + 1) = (j : Int) + 1 := by simp [IntKind.wrap, IntKind.bits, IntKind.signed]; omega
          have hje : j < es.length := by have := HEL.out; omega
          obtain ⟨E, hEe⟩ : ∃ E, E = es[j] := ⟨_, rfl⟩
          have hElt := HLTE.out j hje
          have hst := setAll_take (f : Int) Lw es j hje
          obtain ⟨arr, hz2, hzs, hz3⟩ := HEj.out
          have kz : wr.cell? ⟨z, j, none⟩ = some (.int .i64 (E : Int)) := by rw [Joins.cell_of_block hz2, hz3 j hje, hEe]
          rw [← hEe] at hElt hst
          obtain ⟨Lj, hLj⟩ : ∃ Lj, Lj = setAll (f : Int) Lw (es.take j) := ⟨_, rfl⟩
          have hM := HJ.out
          rw [← hLj] at hM hst
          have hLl : Lj.length = f := by rw [hLj, setAll_len]; exact HLW.out
          obtain ⟨g, c, is, hx⟩ := hM.open (by omega)
          have k0 : wr.cell? ⟨m, 0, none⟩ = some (.slice (some ⟨g, 0, none⟩) Lj.length c) := Joins.cell_of_block hx.bx 0
          rw [hLl] at k0
          have b1' : (E : Int) < (f : Int) := by omega
          have hne := hx.ne
          have ht := hx.there E (by omega)
          obtain ⟨v1, hv1⟩ := Option.isSome_iff_exists.1 (ht 1 (by omega)).1
          have f1 := (ht 1 (by omega)).2
          have h0 := hx.drew
          have h1 := h0.setX hA E (by omega) (f : Int)
          have e0 := Fr.of_below (base := base) (drew_below wr) hbj
          have e1 := e0.trans (h0.keep (is' := is) (l' := Lj) hA (E * 5 + 1) (.int .i64 (f : Int)) rfl).2.2
          have HNN : Hid (∀ W, Below wr.heap.size wr W → Calls Try.prog 65 #[pt m] W fun e w' => e = .returned (.int .i64 (f : Int)) ∧ w' = W) := fun W hW => by
            have h := next65l (hM.below hW hA (by omega))
            rw [hLl] at h
            exact h
          have H1 := hid h1.close
          have E1 := hid e1
          have HST := hid hst
          clear hEe hst hz2 hzs hz3 hLj hM hLl hx ht h0 h1 e0 e1 hElt
          go_upto_region 17 with fail
          go_region_with (first | (go_at_call 65; (with_reducible refine (HNN.out _ ?_).mono ?_); (exact drew_below _); rintro e w5 ⟨rfl, hw⟩; have hw' := hw.symm; clear hw; subst hw'))
          all_goals go_wp2_with fail
          all_goals
            refine ⟨⟨j + 1, by push_cast; rfl, by omega, ?_, HEj.out.fr E1.out, HFj.out.trans E1.out⟩, by simp [intOf]; omega⟩
            show MKL _ _ _ _ _
            rw [HST.out]
            exact H1.out
        · have d1 : decide ((j : Int) < (i : Int)) = false := by simp; omega
          obtain rfl : j = i := by omega
          go_wp2
          all_goals go_end0
          all_goals
            have htk : es.take j = es := by rw [List.take_of_length_le]; rw [HEL.out]; exact Nat.le_refl _
            have h := HJ.out
            rw [htk] at h
            refine ⟨rfl, ?_, HF.out.trans HFj.out⟩
            rw [HFIN.out]
            exact h
end Go.Proofs.Ytnecakampgdhcaa
/- HELPERS: any simple tree laid down. -/
namespace Go.Proofs.Ytnecakampgdhcaa
open Go.RowKit
set_option linter.unusedVariables false
set_option linter.unusedSimpArgs false
set_option maxRecDepth 100000 in
set_option maxHeartbeats 4000000 in
theorem way75_94 (m : Nat) {a2 a4 a5 a7 : Int} {a6 : Bool} {a8 : ByteArray} {r1 s1 : Option Addr} {r2 r3 s2 s3 : Nat} (w : World) : Calls Try.prog 75 #[pt m, Nv.v ⟨2, r1, r2, r3, a2, s1, s2, s3, a4, a5, a6, a7, a8⟩] w fun e w' => e = .returned (.func (.func 94) #[pt m] #[]) ∧ Below w.heap.size w w' := by
  go_enter Try.func75, Try.ntmps75
  go_wp2
  all_goals go_ret
  all_goals exact ⟨rfl, Joins.below_alloc1 w _⟩
set_option maxRecDepth 100000 in
set_option maxHeartbeats 4000000 in
theorem way75_95 (m : Nat) {a2 a4 a5 a7 : Int} {a6 : Bool} {a8 : ByteArray} {r1 s1 : Option Addr} {r2 r3 s2 s3 : Nat} (w : World) : Calls Try.prog 75 #[pt m, Nv.v ⟨3, r1, r2, r3, a2, s1, s2, s3, a4, a5, a6, a7, a8⟩] w fun e w' => e = .returned (.func (.func 95) #[pt m] #[]) ∧ Below w.heap.size w w' := by
  go_enter Try.func75, Try.ntmps75
  go_wp2
  all_goals go_ret
  all_goals exact ⟨rfl, Joins.below_alloc1 w _⟩
set_option maxRecDepth 100000 in
set_option maxHeartbeats 4000000 in
theorem way75_96 (m : Nat) {a2 a4 a5 a7 : Int} {a6 : Bool} {a8 : ByteArray} {r1 s1 : Option Addr} {r2 r3 s2 s3 : Nat} (w : World) : Calls Try.prog 75 #[pt m, Nv.v ⟨7, r1, r2, r3, a2, s1, s2, s3, a4, a5, a6, a7, a8⟩] w fun e w' => e = .returned (.func (.func 96) #[pt m] #[]) ∧ Below w.heap.size w w' := by
  go_enter Try.func75, Try.ntmps75
  go_wp2
  all_goals go_ret
  all_goals exact ⟨rfl, Joins.below_alloc1 w _⟩
set_option maxRecDepth 100000 in
set_option maxHeartbeats 4000000 in
theorem way75_97 (m : Nat) {a2 a4 a5 a7 : Int} {a6 : Bool} {a8 : ByteArray} {r1 s1 : Option Addr} {r2 r3 s2 s3 : Nat} (w : World) : Calls Try.prog 75 #[pt m, Nv.v ⟨4, r1, r2, r3, a2, s1, s2, s3, a4, a5, a6, a7, a8⟩] w fun e w' => e = .returned (.func (.func 97) #[pt m] #[]) ∧ Below w.heap.size w w' := by
  go_enter Try.func75, Try.ntmps75
  go_wp2
  all_goals go_ret
  all_goals exact ⟨rfl, Joins.below_alloc1 w _⟩
set_option maxRecDepth 100000 in
set_option maxHeartbeats 4000000 in
theorem way75_98 (m : Nat) {a2 a4 a5 a7 : Int} {a6 : Bool} {a8 : ByteArray} {r1 s1 : Option Addr} {r2 r3 s2 s3 : Nat} (w : World) : Calls Try.prog 75 #[pt m, Nv.v ⟨5, r1, r2, r3, a2, s1, s2, s3, a4, a5, a6, a7, a8⟩] w fun e w' => e = .returned (.func (.func 98) #[pt m] #[]) ∧ Below w.heap.size w w' := by
  go_enter Try.func75, Try.ntmps75
  go_wp2
  all_goals go_ret
  all_goals exact ⟨rfl, Joins.below_alloc1 w _⟩
set_option maxRecDepth 100000 in
set_option maxHeartbeats 4000000 in
theorem way75_100 (m : Nat) {k a2 a4 a5 a7 : Int} {a6 : Bool} {a8 : ByteArray} {r1 s1 : Option Addr} {r2 r3 s2 s3 : Nat} (k1 : k ≠ 2) (k2 : k ≠ 3) (k3 : k ≠ 4) (k4 : k ≠ 5) (k5 : k ≠ 6) (k6 : k ≠ 7) (w : World) : Calls Try.prog 75 #[pt m, Nv.v ⟨k, r1, r2, r3, a2, s1, s2, s3, a4, a5, a6, a7, a8⟩] w fun e w' => e = .returned (.func (.func 100) #[pt m] #[]) ∧ Below w.heap.size w w' := by
  have g2 : (k == 2) = false := by simp [k1]
  have g3 : (k == 3) = false := by simp [k2]
  have g4 : (k == 4) = false := by simp [k3]
  have g5 : (k == 5) = false := by simp [k4]
  have g6 : (k == 6) = false := by simp [k5]
  have g7 : (k == 7) = false := by simp [k6]
  clear k1 k2 k3 k4 k5 k6
  go_enter Try.func75, Try.ntmps75
  go_wp2
  all_goals go_ret
  all_goals exact ⟨rfl, Joins.below_alloc1 w _⟩
set_option maxRecDepth 100000 in
set_option maxHeartbeats 4000000 in
theorem way75_110 (m : Nat) {a2 a4 a5 a7 : Int} {a6 : Bool} {a8 : ByteArray} {r1 s1 : Option Addr} {r2 r3 s2 s3 : Nat} (h1 : a4 = 1) (w : World) : Calls Try.prog 75 #[pt m, Nv.v ⟨6, r1, r2, r3, a2, s1, s2, s3, 1, a5, a6, a7, a8⟩] w fun e w' => e = .returned (.func (.func 110) #[pt m] #[]) ∧ Below w.heap.size w w' := by
  subst h1
  have HW : ∀ W, Calls Try.prog 99 #[pt m, Nv.v ⟨6, r1, r2, r3, a2, s1, s2, s3, 1, a5, a6, a7, a8⟩] W fun e w' => e = .returned (.func (.func 110) #[pt m] #[]) ∧ Below W.heap.size W w' := fun W => by
    go_enter Try.func99, Try.ntmps99
    go_wp2
    all_goals go_ret
    all_goals exact ⟨rfl, Joins.below_alloc1 W _⟩
  go_enter Try.func75, Try.ntmps75
  go_wp2_with (first | (go_at_call 99; (with_reducible refine (HW _).mono ?_); rintro e w2 ⟨rfl, hb2⟩; have HB2 := hid hb2; clear hb2))
  all_goals go_ret
  all_goals exact ⟨rfl, (Joins.below_alloc1 w _).trans (Joins.below_le HB2.out (by simp))⟩
set_option maxRecDepth 100000 in
set_option maxHeartbeats 4000000 in
theorem way75_111 (m : Nat) {a2 a4 a5 a7 : Int} {a6 : Bool} {a8 : ByteArray} {r1 s1 : Option Addr} {r2 r3 s2 s3 : Nat} (h1 : a4 ≠ 1) (h2 : a5 = 1) (w : World) : Calls Try.prog 75 #[pt m, Nv.v ⟨6, r1, r2, r3, a2, s1, s2, s3, a4, 1, a6, a7, a8⟩] w fun e w' => e = .returned (.func (.func 111) #[pt m] #[]) ∧ Below w.heap.size w w' := by
  subst h2
  have HW : ∀ W, Calls Try.prog 99 #[pt m, Nv.v ⟨6, r1, r2, r3, a2, s1, s2, s3, a4, 1, a6, a7, a8⟩] W fun e w' => e = .returned (.func (.func 111) #[pt m] #[]) ∧ Below W.heap.size W w' := fun W => by
    have g1 : (a4 == 1) = false := by simp [h1]
    go_enter Try.func99, Try.ntmps99
    go_wp2
    all_goals go_ret
    all_goals exact ⟨rfl, Joins.below_alloc1 W _⟩
  go_enter Try.func75, Try.ntmps75
  go_wp2_with (first | (go_at_call 99; (with_reducible refine (HW _).mono ?_); rintro e w2 ⟨rfl, hb2⟩; have HB2 := hid hb2; clear hb2))
  all_goals go_ret
  all_goals exact ⟨rfl, (Joins.below_alloc1 w _).trans (Joins.below_le HB2.out (by simp))⟩
set_option maxRecDepth 100000 in
set_option maxHeartbeats 4000000 in
theorem way75_112 (m : Nat) {a2 a4 a5 a7 : Int} {a6 : Bool} {a8 : ByteArray} {r1 s1 : Option Addr} {r2 r3 s2 s3 : Nat} (h1 : a4 ≠ 1) (h2 : a5 ≠ 1) (w : World) : Calls Try.prog 75 #[pt m, Nv.v ⟨6, r1, r2, r3, a2, s1, s2, s3, a4, a5, a6, a7, a8⟩] w fun e w' => e = .returned (.func (.func 112) #[pt m] #[]) ∧ Below w.heap.size w w' := by
  have HW : ∀ W, Calls Try.prog 99 #[pt m, Nv.v ⟨6, r1, r2, r3, a2, s1, s2, s3, a4, a5, a6, a7, a8⟩] W fun e w' => e = .returned (.func (.func 112) #[pt m] #[]) ∧ Below W.heap.size W w' := fun W => by
    have g1 : (a4 == 1) = false := by simp [h1]
    have g2 : (a5 == 1) = false := by simp [h2]
    go_enter Try.func99, Try.ntmps99
    go_wp2
    all_goals go_ret
    all_goals exact ⟨rfl, Joins.below_alloc1 W _⟩
  go_enter Try.func75, Try.ntmps75
  go_wp2_with (first | (go_at_call 99; (with_reducible refine (HW _).mono ?_); rintro e w2 ⟨rfl, hb2⟩; have HB2 := hid hb2; clear hb2))
  all_goals go_ret
  all_goals exact ⟨rfl, (Joins.below_alloc1 w _).trans (Joins.below_le HB2.out (by simp))⟩
set_option maxRecDepth 100000 in
set_option maxHeartbeats 8000000 in
theorem lay49_94 {base : Nat} {A : Nat → Prop} {N : Nv} {t : Tn} (hA : ∀ b, A b → b < base) (hw : ∀ m w, Calls Try.prog 75 #[pt m, N.v] w fun e w' => e = .returned (.func (.func 94) #[pt m] #[]) ∧ Below w.heap.size w w') (hl : LP 94 base A N t) : LP 49 base A N t := by
  intro w m l hM hm hb hT hlen
  obtain ⟨U, hU⟩ : ∃ U, U = w.alloc (.cells #[.int .i64 N.k, .slice N.r1 N.r2 N.r3, .int .i64 N.a2, .slice N.s1 N.s2 N.s3, .int .i64 N.a4, .int .i64 N.a5, .bool N.a6, .int .i64 N.a7, .string N.a8] 39) := ⟨_, rfl⟩
  have hbU : Below w.heap.size w U := by rw [hU]; exact Joins.below_alloc1 w _
  have hQ : BNo U w.heap.size N := by rw [hU]; exact heap_alloc_new w _
  have hpU : w.heap.size < U.heap.size := (Array.getElem?_eq_some_iff.1 hQ).1
  have hbU2 : base ≤ U.heap.size := Nat.le_trans hb hbU.size
  have HSS : Hid (∀ W, Below U.heap.size U W → Calls Try.prog 94 #[pt m, N.v] W fun e w' => e = .returned (.tuple #[]) ∧ MKL w' m base A (l ++ t.lay l.length) ∧ Fr base W w') := fun W hW =>
    hl W m l ((hM.below hbU hA (by omega)).below hW hA (by omega)) hm (Nat.le_trans hbU2 hW.size) (hT.kept (fun b hb' => (hW.block b (by have := hA b hb'; omega)).trans (hbU.block b (by have := hA b hb'; omega))) (fun _ h => h)) hlen
  have HF := hid (Fr.of_below hbU hb)
  have HW := fun W => hw m W
  have HQ := hid hQ
  obtain ⟨c0, c1, c2, c3, c4, c5, c6, c7, c8⟩ := nine' hQ
  obtain ⟨p, hp⟩ : ∃ p, p = w.heap.size := ⟨_, rfl⟩
  rw [← hp] at c0 c1 c2 c3 c4 c5 c6 c7 c8 hpU HQ
  clear hM hbU hQ hw hl hT hlen
  go_enter Try.func49, Try.ntmps49
  go_upto_region 1 with fail
  rw [← hU, ← hp]
  clear hU hp
  go_region_held3 (fun W => W.cell? ⟨p, 0, none⟩ = some (.int .i64 N.k) ∧ W.cell? ⟨p, 1, none⟩ = some (.slice N.r1 N.r2 N.r3) ∧ W.cell? ⟨p, 2, none⟩ = some (.int .i64 N.a2) ∧ W.cell? ⟨p, 3, none⟩ = some (.slice N.s1 N.s2 N.s3) ∧ W.cell? ⟨p, 4, none⟩ = some (.int .i64 N.a4) ∧ W.cell? ⟨p, 5, none⟩ = some (.int .i64 N.a5) ∧ W.cell? ⟨p, 6, none⟩ = some (.bool N.a6) ∧ W.cell? ⟨p, 7, none⟩ = some (.int .i64 N.a7) ∧ W.cell? ⟨p, 8, none⟩ = some (.string N.a8)) (first | (exact ⟨j0, j1, j2, j3, j4, j5, j6, j7, j8⟩) | (exact ⟨k0, k1, k2, k3, k4, k5, k6, k7, k8⟩) | (simp [*]; done)) (first | (go_at_call 75; (with_reducible refine (HW _).mono ?_); rintro e w2 ⟨rfl, hb2⟩; have hbb : Below U.heap.size U w2 := ⟨hb2.os, hb2.tape, hb2.output, hb2.size, hb2.block⟩; obtain ⟨k0, k1, k2, k3, k4, k5, k6, k7, k8⟩ := nine' ((hbb.block p hpU).trans HQ.out); have HC := HSS.out w2 hbb; have HBB := hid hbb; clear hbb hb2) | (go_at_call 94; (with_reducible refine HC.mono ?_); rintro e w3 ⟨rfl, hM, hf⟩; obtain ⟨j0, j1, j2, j3, j4, j5, j6, j7, j8⟩ := nine' (hf.blk p _ _ _ ((HBB.out.block p hpU).trans HQ.out) (by decide) (by decide)); have HM := hid hM; have HF3 := hid hf; clear hM hf))
  all_goals go_wp2_with fail
  all_goals go_end0
  all_goals exact ⟨rfl, HM.out, HF.out.trans ((Fr.of_below HBB.out hbU2).trans HF3.out)⟩
set_option maxRecDepth 100000 in
set_option maxHeartbeats 8000000 in
theorem lay49_95 {base : Nat} {A : Nat → Prop} {N : Nv} {t : Tn} (hA : ∀ b, A b → b < base) (hw : ∀ m w, Calls Try.prog 75 #[pt m, N.v] w fun e w' => e = .returned (.func (.func 95) #[pt m] #[]) ∧ Below w.heap.size w w') (hl : LP 95 base A N t) : LP 49 base A N t := by
  intro w m l hM hm hb hT hlen
  obtain ⟨U, hU⟩ : ∃ U, U = w.alloc (.cells #[.int .i64 N.k, .slice N.r1 N.r2 N.r3, .int .i64 N.a2, .slice N.s1 N.s2 N.s3, .int .i64 N.a4, .int .i64 N.a5, .bool N.a6, .int .i64 N.a7, .string N.a8] 39) := ⟨_, rfl⟩
  have hbU : Below w.heap.size w U := by rw [hU]; exact Joins.below_alloc1 w _
  have hQ : BNo U w.heap.size N := by rw [hU]; exact heap_alloc_new w _
  have hpU : w.heap.size < U.heap.size := (Array.getElem?_eq_some_iff.1 hQ).1
  have hbU2 : base ≤ U.heap.size := Nat.le_trans hb hbU.size
  have HSS : Hid (∀ W, Below U.heap.size U W → Calls Try.prog 95 #[pt m, N.v] W fun e w' => e = .returned (.tuple #[]) ∧ MKL w' m base A (l ++ t.lay l.length) ∧ Fr base W w') := fun W hW =>
    hl W m l ((hM.below hbU hA (by omega)).below hW hA (by omega)) hm (Nat.le_trans hbU2 hW.size) (hT.kept (fun b hb' => (hW.block b (by have := hA b hb'; omega)).trans (hbU.block b (by have := hA b hb'; omega))) (fun _ h => h)) hlen
  have HF := hid (Fr.of_below hbU hb)
  have HW := fun W => hw m W
  have HQ := hid hQ
  obtain ⟨c0, c1, c2, c3, c4, c5, c6, c7, c8⟩ := nine' hQ
  obtain ⟨p, hp⟩ : ∃ p, p = w.heap.size := ⟨_, rfl⟩
  rw [← hp] at c0 c1 c2 c3 c4 c5 c6 c7 c8 hpU HQ
  clear hM hbU hQ hw hl hT hlen
  go_enter Try.func49, Try.ntmps49
  go_upto_region 1 with fail
  rw [← hU, ← hp]
  clear hU hp
  go_region_held3 (fun W => W.cell? ⟨p, 0, none⟩ = some (.int .i64 N.k) ∧ W.cell? ⟨p, 1, none⟩ = some (.slice N.r1 N.r2 N.r3) ∧ W.cell? ⟨p, 2, none⟩ = some (.int .i64 N.a2) ∧ W.cell? ⟨p, 3, none⟩ = some (.slice N.s1 N.s2 N.s3) ∧ W.cell? ⟨p, 4, none⟩ = some (.int .i64 N.a4) ∧ W.cell? ⟨p, 5, none⟩ = some (.int .i64 N.a5) ∧ W.cell? ⟨p, 6, none⟩ = some (.bool N.a6) ∧ W.cell? ⟨p, 7, none⟩ = some (.int .i64 N.a7) ∧ W.cell? ⟨p, 8, none⟩ = some (.string N.a8)) (first | (exact ⟨j0, j1, j2, j3, j4, j5, j6, j7, j8⟩) | (exact ⟨k0, k1, k2, k3, k4, k5, k6, k7, k8⟩) | (simp [*]; done)) (first | (go_at_call 75; (with_reducible refine (HW _).mono ?_); rintro e w2 ⟨rfl, hb2⟩; have hbb : Below U.heap.size U w2 := ⟨hb2.os, hb2.tape, hb2.output, hb2.size, hb2.block⟩; obtain ⟨k0, k1, k2, k3, k4, k5, k6, k7, k8⟩ := nine' ((hbb.block p hpU).trans HQ.out); have HC := HSS.out w2 hbb; have HBB := hid hbb; clear hbb hb2) | (go_at_call 95; (with_reducible refine HC.mono ?_); rintro e w3 ⟨rfl, hM, hf⟩; obtain ⟨j0, j1, j2, j3, j4, j5, j6, j7, j8⟩ := nine' (hf.blk p _ _ _ ((HBB.out.block p hpU).trans HQ.out) (by decide) (by decide)); have HM := hid hM; have HF3 := hid hf; clear hM hf))
  all_goals go_wp2_with fail
  all_goals go_end0
  all_goals exact ⟨rfl, HM.out, HF.out.trans ((Fr.of_below HBB.out hbU2).trans HF3.out)⟩
set_option maxRecDepth 100000 in
set_option maxHeartbeats 8000000 in
theorem lay49_96 {base : Nat} {A : Nat → Prop} {N : Nv} {t : Tn} (hA : ∀ b, A b → b < base) (hw : ∀ m w, Calls Try.prog 75 #[pt m, N.v] w fun e w' => e = .returned (.func (.func 96) #[pt m] #[]) ∧ Below w.heap.size w w') (hl : LP 96 base A N t) : LP 49 base A N t := by
  intro w m l hM hm hb hT hlen
  obtain ⟨U, hU⟩ : ∃ U, U = w.alloc (.cells #[.int .i64 N.k, .slice N.r1 N.r2 N.r3, .int .i64 N.a2, .slice N.s1 N.s2 N.s3, .int .i64 N.a4, .int .i64 N.a5, .bool N.a6, .int .i64 N.a7, .string N.a8] 39) := ⟨_, rfl⟩
  have hbU : Below w.heap.size w U := by rw [hU]; exact Joins.below_alloc1 w _
  have hQ : BNo U w.heap.size N := by rw [hU]; exact heap_alloc_new w _
  have hpU : w.heap.size < U.heap.size := (Array.getElem?_eq_some_iff.1 hQ).1
  have hbU2 : base ≤ U.heap.size := Nat.le_trans hb hbU.size
  have HSS : Hid (∀ W, Below U.heap.size U W → Calls Try.prog 96 #[pt m, N.v] W fun e w' => e = .returned (.tuple #[]) ∧ MKL w' m base A (l ++ t.lay l.length) ∧ Fr base W w') := fun W hW =>
    hl W m l ((hM.below hbU hA (by omega)).below hW hA (by omega)) hm (Nat.le_trans hbU2 hW.size) (hT.kept (fun b hb' => (hW.block b (by have := hA b hb'; omega)).trans (hbU.block b (by have := hA b hb'; omega))) (fun _ h => h)) hlen
  have HF := hid (Fr.of_below hbU hb)
  have HW := fun W => hw m W
  have HQ := hid hQ
  obtain ⟨c0, c1, c2, c3, c4, c5, c6, c7, c8⟩ := nine' hQ
  obtain ⟨p, hp⟩ : ∃ p, p = w.heap.size := ⟨_, rfl⟩
  rw [← hp] at c0 c1 c2 c3 c4 c5 c6 c7 c8 hpU HQ
  clear hM hbU hQ hw hl hT hlen
  go_enter Try.func49, Try.ntmps49
  go_upto_region 1 with fail
  rw [← hU, ← hp]
  clear hU hp
  go_region_held3 (fun W => W.cell? ⟨p, 0, none⟩ = some (.int .i64 N.k) ∧ W.cell? ⟨p, 1, none⟩ = some (.slice N.r1 N.r2 N.r3) ∧ W.cell? ⟨p, 2, none⟩ = some (.int .i64 N.a2) ∧ W.cell? ⟨p, 3, none⟩ = some (.slice N.s1 N.s2 N.s3) ∧ W.cell? ⟨p, 4, none⟩ = some (.int .i64 N.a4) ∧ W.cell? ⟨p, 5, none⟩ = some (.int .i64 N.a5) ∧ W.cell? ⟨p, 6, none⟩ = some (.bool N.a6) ∧ W.cell? ⟨p, 7, none⟩ = some (.int .i64 N.a7) ∧ W.cell? ⟨p, 8, none⟩ = some (.string N.a8)) (first | (exact ⟨j0, j1, j2, j3, j4, j5, j6, j7, j8⟩) | (exact ⟨k0, k1, k2, k3, k4, k5, k6, k7, k8⟩) | (simp [*]; done)) (first | (go_at_call 75; (with_reducible refine (HW _).mono ?_); rintro e w2 ⟨rfl, hb2⟩; have hbb : Below U.heap.size U w2 := ⟨hb2.os, hb2.tape, hb2.output, hb2.size, hb2.block⟩; obtain ⟨k0, k1, k2, k3, k4, k5, k6, k7, k8⟩ := nine' ((hbb.block p hpU).trans HQ.out); have HC := HSS.out w2 hbb; have HBB := hid hbb; clear hbb hb2) | (go_at_call 96; (with_reducible refine HC.mono ?_); rintro e w3 ⟨rfl, hM, hf⟩; obtain ⟨j0, j1, j2, j3, j4, j5, j6, j7, j8⟩ := nine' (hf.blk p _ _ _ ((HBB.out.block p hpU).trans HQ.out) (by decide) (by decide)); have HM := hid hM; have HF3 := hid hf; clear hM hf))
  all_goals go_wp2_with fail
  all_goals go_end0
  all_goals exact ⟨rfl, HM.out, HF.out.trans ((Fr.of_below HBB.out hbU2).trans HF3.out)⟩
set_option maxRecDepth 100000 in
set_option maxHeartbeats 8000000 in
theorem lay49_97 {base : Nat} {A : Nat → Prop} {N : Nv} {t : Tn} (hA : ∀ b, A b → b < base) (hw : ∀ m w, Calls Try.prog 75 #[pt m, N.v] w fun e w' => e = .returned (.func (.func 97) #[pt m] #[]) ∧ Below w.heap.size w w') (hl : LP 97 base A N t) : LP 49 base A N t := by
  intro w m l hM hm hb hT hlen
  obtain ⟨U, hU⟩ : ∃ U, U = w.alloc (.cells #[.int .i64 N.k, .slice N.r1 N.r2 N.r3, .int .i64 N.a2, .slice N.s1 N.s2 N.s3, .int .i64 N.a4, .int .i64 N.a5, .bool N.a6, .int .i64 N.a7, .string N.a8] 39) := ⟨_, rfl⟩
  have hbU : Below w.heap.size w U := by rw [hU]; exact Joins.below_alloc1 w _
  have hQ : BNo U w.heap.size N := by rw [hU]; exact heap_alloc_new w _
  have hpU : w.heap.size < U.heap.size := (Array.getElem?_eq_some_iff.1 hQ).1
  have hbU2 : base ≤ U.heap.size := Nat.le_trans hb hbU.size
  have HSS : Hid (∀ W, Below U.heap.size U W → Calls Try.prog 97 #[pt m, N.v] W fun e w' => e = .returned (.tuple #[]) ∧ MKL w' m base A (l ++ t.lay l.length) ∧ Fr base W w') := fun W hW =>
    hl W m l ((hM.below hbU hA (by omega)).below hW hA (by omega)) hm (Nat.le_trans hbU2 hW.size) (hT.kept (fun b hb' => (hW.block b (by have := hA b hb'; omega)).trans (hbU.block b (by have := hA b hb'; omega))) (fun _ h => h)) hlen
  have HF := hid (Fr.of_below hbU hb)
  have HW := fun W => hw m W
  have HQ := hid hQ
  obtain ⟨c0, c1, c2, c3, c4, c5, c6, c7, c8⟩ := nine' hQ
  obtain ⟨p, hp⟩ : ∃ p, p = w.heap.size := ⟨_, rfl⟩
  rw [← hp] at c0 c1 c2 c3 c4 c5 c6 c7 c8 hpU HQ
  clear hM hbU hQ hw hl hT hlen
  go_enter Try.func49, Try.ntmps49
  go_upto_region 1 with fail
  rw [← hU, ← hp]
  clear hU hp
  go_region_held3 (fun W => W.cell? ⟨p, 0, none⟩ = some (.int .i64 N.k) ∧ W.cell? ⟨p, 1, none⟩ = some (.slice N.r1 N.r2 N.r3) ∧ W.cell? ⟨p, 2, none⟩ = some (.int .i64 N.a2) ∧ W.cell? ⟨p, 3, none⟩ = some (.slice N.s1 N.s2 N.s3) ∧ W.cell? ⟨p, 4, none⟩ = some (.int .i64 N.a4) ∧ W.cell? ⟨p, 5, none⟩ = some (.int .i64 N.a5) ∧ W.cell? ⟨p, 6, none⟩ = some (.bool N.a6) ∧ W.cell? ⟨p, 7, none⟩ = some (.int .i64 N.a7) ∧ W.cell? ⟨p, 8, none⟩ = some (.string N.a8)) (first | (exact ⟨j0, j1, j2, j3, j4, j5, j6, j7, j8⟩) | (exact ⟨k0, k1, k2, k3, k4, k5, k6, k7, k8⟩) | (simp [*]; done)) (first | (go_at_call 75; (with_reducible refine (HW _).mono ?_); rintro e w2 ⟨rfl, hb2⟩; have hbb : Below U.heap.size U w2 := ⟨hb2.os, hb2.tape, hb2.output, hb2.size, hb2.block⟩; obtain ⟨k0, k1, k2, k3, k4, k5, k6, k7, k8⟩ := nine' ((hbb.block p hpU).trans HQ.out); have HC := HSS.out w2 hbb; have HBB := hid hbb; clear hbb hb2) | (go_at_call 97; (with_reducible refine HC.mono ?_); rintro e w3 ⟨rfl, hM, hf⟩; obtain ⟨j0, j1, j2, j3, j4, j5, j6, j7, j8⟩ := nine' (hf.blk p _ _ _ ((HBB.out.block p hpU).trans HQ.out) (by decide) (by decide)); have HM := hid hM; have HF3 := hid hf; clear hM hf))
  all_goals go_wp2_with fail
  all_goals go_end0
  all_goals exact ⟨rfl, HM.out, HF.out.trans ((Fr.of_below HBB.out hbU2).trans HF3.out)⟩
set_option maxRecDepth 100000 in
set_option maxHeartbeats 8000000 in
theorem lay49_98 {base : Nat} {A : Nat → Prop} {N : Nv} {t : Tn} (hA : ∀ b, A b → b < base) (hw : ∀ m w, Calls Try.prog 75 #[pt m, N.v] w fun e w' => e = .returned (.func (.func 98) #[pt m] #[]) ∧ Below w.heap.size w w') (hl : LP 98 base A N t) : LP 49 base A N t := by
  intro w m l hM hm hb hT hlen
  obtain ⟨U, hU⟩ : ∃ U, U = w.alloc (.cells #[.int .i64 N.k, .slice N.r1 N.r2 N.r3, .int .i64 N.a2, .slice N.s1 N.s2 N.s3, .int .i64 N.a4, .int .i64 N.a5, .bool N.a6, .int .i64 N.a7, .string N.a8] 39) := ⟨_, rfl⟩
  have hbU : Below w.heap.size w U := by rw [hU]; exact Joins.below_alloc1 w _
  have hQ : BNo U w.heap.size N := by rw [hU]; exact heap_alloc_new w _
  have hpU : w.heap.size < U.heap.size := (Array.getElem?_eq_some_iff.1 hQ).1
  have hbU2 : base ≤ U.heap.size := Nat.le_trans hb hbU.size
  have HSS : Hid (∀ W, Below U.heap.size U W → Calls Try.prog 98 #[pt m, N.v] W fun e w' => e = .returned (.tuple #[]) ∧ MKL w' m base A (l ++ t.lay l.length) ∧ Fr base W w') := fun W hW =>
    hl W m l ((hM.below hbU hA (by omega)).below hW hA (by omega)) hm (Nat.le_trans hbU2 hW.size) (hT.kept (fun b hb' => (hW.block b (by have := hA b hb'; omega)).trans (hbU.block b (by have := hA b hb'; omega))) (fun _ h => h)) hlen
  have HF := hid (Fr.of_below hbU hb)
  have HW := fun W => hw m W
  have HQ := hid hQ
  obtain ⟨c0, c1, c2, c3, c4, c5, c6, c7, c8⟩ := nine' hQ
  obtain ⟨p, hp⟩ : ∃ p, p = w.heap.size := ⟨_, rfl⟩
  rw [← hp] at c0 c1 c2 c3 c4 c5 c6 c7 c8 hpU HQ
  clear hM hbU hQ hw hl hT hlen
  go_enter Try.func49, Try.ntmps49
  go_upto_region 1 with fail
  rw [← hU, ← hp]
  clear hU hp
  go_region_held3 (fun W => W.cell? ⟨p, 0, none⟩ = some (.int .i64 N.k) ∧ W.cell? ⟨p, 1, none⟩ = some (.slice N.r1 N.r2 N.r3) ∧ W.cell? ⟨p, 2, none⟩ = some (.int .i64 N.a2) ∧ W.cell? ⟨p, 3, none⟩ = some (.slice N.s1 N.s2 N.s3) ∧ W.cell? ⟨p, 4, none⟩ = some (.int .i64 N.a4) ∧ W.cell? ⟨p, 5, none⟩ = some (.int .i64 N.a5) ∧ W.cell? ⟨p, 6, none⟩ = some (.bool N.a6) ∧ W.cell? ⟨p, 7, none⟩ = some (.int .i64 N.a7) ∧ W.cell? ⟨p, 8, none⟩ = some (.string N.a8)) (first | (exact ⟨j0, j1, j2, j3, j4, j5, j6, j7, j8⟩) | (exact ⟨k0, k1, k2, k3, k4, k5, k6, k7, k8⟩) | (simp [*]; done)) (first | (go_at_call 75; (with_reducible refine (HW _).mono ?_); rintro e w2 ⟨rfl, hb2⟩; have hbb : Below U.heap.size U w2 := ⟨hb2.os, hb2.tape, hb2.output, hb2.size, hb2.block⟩; obtain ⟨k0, k1, k2, k3, k4, k5, k6, k7, k8⟩ := nine' ((hbb.block p hpU).trans HQ.out); have HC := HSS.out w2 hbb; have HBB := hid hbb; clear hbb hb2) | (go_at_call 98; (with_reducible refine HC.mono ?_); rintro e w3 ⟨rfl, hM, hf⟩; obtain ⟨j0, j1, j2, j3, j4, j5, j6, j7, j8⟩ := nine' (hf.blk p _ _ _ ((HBB.out.block p hpU).trans HQ.out) (by decide) (by decide)); have HM := hid hM; have HF3 := hid hf; clear hM hf))
  all_goals go_wp2_with fail
  all_goals go_end0
  all_goals exact ⟨rfl, HM.out, HF.out.trans ((Fr.of_below HBB.out hbU2).trans HF3.out)⟩
set_option maxRecDepth 100000 in
set_option maxHeartbeats 8000000 in
theorem lay49_100 {base : Nat} {A : Nat → Prop} {N : Nv} {t : Tn} (hA : ∀ b, A b → b < base) (hw : ∀ m w, Calls Try.prog 75 #[pt m, N.v] w fun e w' => e = .returned (.func (.func 100) #[pt m] #[]) ∧ Below w.heap.size w w') (hl : LP 100 base A N t) : LP 49 base A N t := by
  intro w m l hM hm hb hT hlen
  obtain ⟨U, hU⟩ : ∃ U, U = w.alloc (.cells #[.int .i64 N.k, .slice N.r1 N.r2 N.r3, .int .i64 N.a2, .slice N.s1 N.s2 N.s3, .int .i64 N.a4, .int .i64 N.a5, .bool N.a6, .int .i64 N.a7, .string N.a8] 39) := ⟨_, rfl⟩
  have hbU : Below w.heap.size w U := by rw [hU]; exact Joins.below_alloc1 w _
  have hQ : BNo U w.heap.size N := by rw [hU]; exact heap_alloc_new w _
  have hpU : w.heap.size < U.heap.size := (Array.getElem?_eq_some_iff.1 hQ).1
  have hbU2 : base ≤ U.heap.size := Nat.le_trans hb hbU.size
  have HSS : Hid (∀ W, Below U.heap.size U W → Calls Try.prog 100 #[pt m, N.v] W fun e w' => e = .returned (.tuple #[]) ∧ MKL w' m base A (l ++ t.lay l.length) ∧ Fr base W w') := fun W hW =>
    hl W m l ((hM.below hbU hA (by omega)).below hW hA (by omega)) hm (Nat.le_trans hbU2 hW.size) (hT.kept (fun b hb' => (hW.block b (by have := hA b hb'; omega)).trans (hbU.block b (by have := hA b hb'; omega))) (fun _ h => h)) hlen
  have HF := hid (Fr.of_below hbU hb)
  have HW := fun W => hw m W
  have HQ := hid hQ
  obtain ⟨c0, c1, c2, c3, c4, c5, c6, c7, c8⟩ := nine' hQ
  obtain ⟨p, hp⟩ : ∃ p, p = w.heap.size := ⟨_, rfl⟩
  rw [← hp] at c0 c1 c2 c3 c4 c5 c6 c7 c8 hpU HQ
  clear hM hbU hQ hw hl hT hlen
  go_enter Try.func49, Try.ntmps49
  go_upto_region 1 with fail
  rw [← hU, ← hp]
  clear hU hp
  go_region_held3 (fun W => W.cell? ⟨p, 0, none⟩ = some (.int .i64 N.k) ∧ W.cell? ⟨p, 1, none⟩ = some (.slice N.r1 N.r2 N.r3) ∧ W.cell? ⟨p, 2, none⟩ = some (.int .i64 N.a2) ∧ W.cell? ⟨p, 3, none⟩ = some (.slice N.s1 N.s2 N.s3) ∧ W.cell? ⟨p, 4, none⟩ = some (.int .i64 N.a4) ∧ W.cell? ⟨p, 5, none⟩ = some (.int .i64 N.a5) ∧ W.cell? ⟨p, 6, none⟩ = some (.bool N.a6) ∧ W.cell? ⟨p, 7, none⟩ = some (.int .i64 N.a7) ∧ W.cell? ⟨p, 8, none⟩ = some (.string N.a8)) (first | (exact ⟨j0, j1, j2, j3, j4, j5, j6, j7, j8⟩) | (exact ⟨k0, k1, k2, k3, k4, k5, k6, k7, k8⟩) | (simp [*]; done)) (first | (go_at_call 75; (with_reducible refine (HW _).mono ?_); rintro e w2 ⟨rfl, hb2⟩; have hbb : Below U.heap.size U w2 := ⟨hb2.os, hb2.tape, hb2.output, hb2.size, hb2.block⟩; obtain ⟨k0, k1, k2, k3, k4, k5, k6, k7, k8⟩ := nine' ((hbb.block p hpU).trans HQ.out); have HC := HSS.out w2 hbb; have HBB := hid hbb; clear hbb hb2) | (go_at_call 100; (with_reducible refine HC.mono ?_); rintro e w3 ⟨rfl, hM, hf⟩; obtain ⟨j0, j1, j2, j3, j4, j5, j6, j7, j8⟩ := nine' (hf.blk p _ _ _ ((HBB.out.block p hpU).trans HQ.out) (by decide) (by decide)); have HM := hid hM; have HF3 := hid hf; clear hM hf))
  all_goals go_wp2_with fail
  all_goals go_end0
  all_goals exact ⟨rfl, HM.out, HF.out.trans ((Fr.of_below HBB.out hbU2).trans HF3.out)⟩
set_option maxRecDepth 100000 in
set_option maxHeartbeats 8000000 in
theorem lay49_110 {base : Nat} {A : Nat → Prop} {N : Nv} {t : Tn} (hA : ∀ b, A b → b < base) (hw : ∀ m w, Calls Try.prog 75 #[pt m, N.v] w fun e w' => e = .returned (.func (.func 110) #[pt m] #[]) ∧ Below w.heap.size w w') (hl : LP 110 base A N t) : LP 49 base A N t := by
  intro w m l hM hm hb hT hlen
  obtain ⟨U, hU⟩ : ∃ U, U = w.alloc (.cells #[.int .i64 N.k, .slice N.r1 N.r2 N.r3, .int .i64 N.a2, .slice N.s1 N.s2 N.s3, .int .i64 N.a4, .int .i64 N.a5, .bool N.a6, .int .i64 N.a7, .string N.a8] 39) := ⟨_, rfl⟩
  have hbU : Below w.heap.size w U := by rw [hU]; exact Joins.below_alloc1 w _
  have hQ : BNo U w.heap.size N := by rw [hU]; exact heap_alloc_new w _
  have hpU : w.heap.size < U.heap.size := (Array.getElem?_eq_some_iff.1 hQ).1
  have hbU2 : base ≤ U.heap.size := Nat.le_trans hb hbU.size
  have HSS : Hid (∀ W, Below U.heap.size U W → Calls Try.prog 110 #[pt m, N.v] W fun e w' => e = .returned (.tuple #[]) ∧ MKL w' m base A (l ++ t.lay l.length) ∧ Fr base W w') := fun W hW =>
    hl W m l ((hM.below hbU hA (by omega)).below hW hA (by omega)) hm (Nat.le_trans hbU2 hW.size) (hT.kept (fun b hb' => (hW.block b (by have := hA b hb'; omega)).trans (hbU.block b (by have := hA b hb'; omega))) (fun _ h => h)) hlen
  have HF := hid (Fr.of_below hbU hb)
  have HW := fun W => hw m W
  have HQ := hid hQ
  obtain ⟨c0, c1, c2, c3, c4, c5, c6, c7, c8⟩ := nine' hQ
  obtain ⟨p, hp⟩ : ∃ p, p = w.heap.size := ⟨_, rfl⟩
  rw [← hp] at c0 c1 c2 c3 c4 c5 c6 c7 c8 hpU HQ
  clear hM hbU hQ hw hl hT hlen
  go_enter Try.func49, Try.ntmps49
  go_upto_region 1 with fail
  rw [← hU, ← hp]
  clear hU hp
  go_region_held3 (fun W => W.cell? ⟨p, 0, none⟩ = some (.int .i64 N.k) ∧ W.cell? ⟨p, 1, none⟩ = some (.slice N.r1 N.r2 N.r3) ∧ W.cell? ⟨p, 2, none⟩ = some (.int .i64 N.a2) ∧ W.cell? ⟨p, 3, none⟩ = some (.slice N.s1 N.s2 N.s3) ∧ W.cell? ⟨p, 4, none⟩ = some (.int .i64 N.a4) ∧ W.cell? ⟨p, 5, none⟩ = some (.int .i64 N.a5) ∧ W.cell? ⟨p, 6, none⟩ = some (.bool N.a6) ∧ W.cell? ⟨p, 7, none⟩ = some (.int .i64 N.a7) ∧ W.cell? ⟨p, 8, none⟩ = some (.string N.a8)) (first | (exact ⟨j0, j1, j2, j3, j4, j5, j6, j7, j8⟩) | (exact ⟨k0, k1, k2, k3, k4, k5, k6, k7, k8⟩) | (simp [*]; done)) (first | (go_at_call 75; (with_reducible refine (HW _).mono ?_); rintro e w2 ⟨rfl, hb2⟩; have hbb : Below U.heap.size U w2 := ⟨hb2.os, hb2.tape, hb2.output, hb2.size, hb2.block⟩; obtain ⟨k0, k1, k2, k3, k4, k5, k6, k7, k8⟩ := nine' ((hbb.block p hpU).trans HQ.out); have HC := HSS.out w2 hbb; have HBB := hid hbb; clear hbb hb2) | (go_at_call 110; (with_reducible refine HC.mono ?_); rintro e w3 ⟨rfl, hM, hf⟩; obtain ⟨j0, j1, j2, j3, j4, j5, j6, j7, j8⟩ := nine' (hf.blk p _ _ _ ((HBB.out.block p hpU).trans HQ.out) (by decide) (by decide)); have HM := hid hM; have HF3 := hid hf; clear hM hf))
  all_goals go_wp2_with fail
  all_goals go_end0
  all_goals exact ⟨rfl, HM.out, HF.out.trans ((Fr.of_below HBB.out hbU2).trans HF3.out)⟩
set_option maxRecDepth 100000 in
set_option maxHeartbeats 8000000 in
theorem lay49_111 {base : Nat} {A : Nat → Prop} {N : Nv} {t : Tn} (hA : ∀ b, A b → b < base) (hw : ∀ m w, Calls Try.prog 75 #[pt m, N.v] w fun e w' => e = .returned (.func (.func 111) #[pt m] #[]) ∧ Below w.heap.size w w') (hl : LP 111 base A N t) : LP 49 base A N t := by
  intro w m l hM hm hb hT hlen
  obtain ⟨U, hU⟩ : ∃ U, U = w.alloc (.cells #[.int .i64 N.k, .slice N.r1 N.r2 N.r3, .int .i64 N.a2, .slice N.s1 N.s2 N.s3, .int .i64 N.a4, .int .i64 N.a5, .bool N.a6, .int .i64 N.a7, .string N.a8] 39) := ⟨_, rfl⟩
  have hbU : Below w.heap.size w U := by rw [hU]; exact Joins.below_alloc1 w _
  have hQ : BNo U w.heap.size N := by rw [hU]; exact heap_alloc_new w _
  have hpU : w.heap.size < U.heap.size := (Array.getElem?_eq_some_iff.1 hQ).1
  have hbU2 : base ≤ U.heap.size := Nat.le_trans hb hbU.size
  have HSS : Hid (∀ W, Below U.heap.size U W → Calls Try.prog 111 #[pt m, N.v] W fun e w' => e = .returned (.tuple #[]) ∧ MKL w' m base A (l ++ t.lay l.length) ∧ Fr base W w') := fun W hW =>
    hl W m l ((hM.below hbU hA (by omega)).below hW hA (by omega)) hm (Nat.le_trans hbU2 hW.size) (hT.kept (fun b hb' => (hW.block b (by have := hA b hb'; omega)).trans (hbU.block b (by have := hA b hb'; omega))) (fun _ h => h)) hlen
  have HF := hid (Fr.of_below hbU hb)
  have HW := fun W => hw m W
  have HQ := hid hQ
  obtain ⟨c0, c1, c2, c3, c4, c5, c6, c7, c8⟩ := nine' hQ
  obtain ⟨p, hp⟩ : ∃ p, p = w.heap.size := ⟨_, rfl⟩
  rw [← hp] at c0 c1 c2 c3 c4 c5 c6 c7 c8 hpU HQ
  clear hM hbU hQ hw hl hT hlen
  go_enter Try.func49, Try.ntmps49
  go_upto_region 1 with fail
  rw [← hU, ← hp]
  clear hU hp
  go_region_held3 (fun W => W.cell? ⟨p, 0, none⟩ = some (.int .i64 N.k) ∧ W.cell? ⟨p, 1, none⟩ = some (.slice N.r1 N.r2 N.r3) ∧ W.cell? ⟨p, 2, none⟩ = some (.int .i64 N.a2) ∧ W.cell? ⟨p, 3, none⟩ = some (.slice N.s1 N.s2 N.s3) ∧ W.cell? ⟨p, 4, none⟩ = some (.int .i64 N.a4) ∧ W.cell? ⟨p, 5, none⟩ = some (.int .i64 N.a5) ∧ W.cell? ⟨p, 6, none⟩ = some (.bool N.a6) ∧ W.cell? ⟨p, 7, none⟩ = some (.int .i64 N.a7) ∧ W.cell? ⟨p, 8, none⟩ = some (.string N.a8)) (first | (exact ⟨j0, j1, j2, j3, j4, j5, j6, j7, j8⟩) | (exact ⟨k0, k1, k2, k3, k4, k5, k6, k7, k8⟩) | (simp [*]; done)) (first | (go_at_call 75; (with_reducible refine (HW _).mono ?_); rintro e w2 ⟨rfl, hb2⟩; have hbb : Below U.heap.size U w2 := ⟨hb2.os, hb2.tape, hb2.output, hb2.size, hb2.block⟩; obtain ⟨k0, k1, k2, k3, k4, k5, k6, k7, k8⟩ := nine' ((hbb.block p hpU).trans HQ.out); have HC := HSS.out w2 hbb; have HBB := hid hbb; clear hbb hb2) | (go_at_call 111; (with_reducible refine HC.mono ?_); rintro e w3 ⟨rfl, hM, hf⟩; obtain ⟨j0, j1, j2, j3, j4, j5, j6, j7, j8⟩ := nine' (hf.blk p _ _ _ ((HBB.out.block p hpU).trans HQ.out) (by decide) (by decide)); have HM := hid hM; have HF3 := hid hf; clear hM hf))
  all_goals go_wp2_with fail
  all_goals go_end0
  all_goals exact ⟨rfl, HM.out, HF.out.trans ((Fr.of_below HBB.out hbU2).trans HF3.out)⟩
set_option maxRecDepth 100000 in
set_option maxHeartbeats 8000000 in
theorem lay49_112 {base : Nat} {A : Nat → Prop} {N : Nv} {t : Tn} (hA : ∀ b, A b → b < base) (hw : ∀ m w, Calls Try.prog 75 #[pt m, N.v] w fun e w' => e = .returned (.func (.func 112) #[pt m] #[]) ∧ Below w.heap.size w w') (hl : LP 112 base A N t) : LP 49 base A N t := by
  intro w m l hM hm hb hT hlen
  obtain ⟨U, hU⟩ : ∃ U, U = w.alloc (.cells #[.int .i64 N.k, .slice N.r1 N.r2 N.r3, .int .i64 N.a2, .slice N.s1 N.s2 N.s3, .int .i64 N.a4, .int .i64 N.a5, .bool N.a6, .int .i64 N.a7, .string N.a8] 39) := ⟨_, rfl⟩
  have hbU : Below w.heap.size w U := by rw [hU]; exact Joins.below_alloc1 w _
  have hQ : BNo U w.heap.size N := by rw [hU]; exact heap_alloc_new w _
  have hpU : w.heap.size < U.heap.size := (Array.getElem?_eq_some_iff.1 hQ).1
  have hbU2 : base ≤ U.heap.size := Nat.le_trans hb hbU.size
  have HSS : Hid (∀ W, Below U.heap.size U W → Calls Try.prog 112 #[pt m, N.v] W fun e w' => e = .returned (.tuple #[]) ∧ MKL w' m base A (l ++ t.lay l.length) ∧ Fr base W w') := fun W hW =>
    hl W m l ((hM.below hbU hA (by omega)).below hW hA (by omega)) hm (Nat.le_trans hbU2 hW.size) (hT.kept (fun b hb' => (hW.block b (by have := hA b hb'; omega)).trans (hbU.block b (by have := hA b hb'; omega))) (fun _ h => h)) hlen
  have HF := hid (Fr.of_below hbU hb)
  have HW := fun W => hw m W
  have HQ := hid hQ
  obtain ⟨c0, c1, c2, c3, c4, c5, c6, c7, c8⟩ := nine' hQ
  obtain ⟨p, hp⟩ : ∃ p, p = w.heap.size := ⟨_, rfl⟩
  rw [← hp] at c0 c1 c2 c3 c4 c5 c6 c7 c8 hpU HQ
  clear hM hbU hQ hw hl hT hlen
  go_enter Try.func49, Try.ntmps49
  go_upto_region 1 with fail
  rw [← hU, ← hp]
  clear hU hp
  go_region_held3 (fun W => W.cell? ⟨p, 0, none⟩ = some (.int .i64 N.k) ∧ W.cell? ⟨p, 1, none⟩ = some (.slice N.r1 N.r2 N.r3) ∧ W.cell? ⟨p, 2, none⟩ = some (.int .i64 N.a2) ∧ W.cell? ⟨p, 3, none⟩ = some (.slice N.s1 N.s2 N.s3) ∧ W.cell? ⟨p, 4, none⟩ = some (.int .i64 N.a4) ∧ W.cell? ⟨p, 5, none⟩ = some (.int .i64 N.a5) ∧ W.cell? ⟨p, 6, none⟩ = some (.bool N.a6) ∧ W.cell? ⟨p, 7, none⟩ = some (.int .i64 N.a7) ∧ W.cell? ⟨p, 8, none⟩ = some (.string N.a8)) (first | (exact ⟨j0, j1, j2, j3, j4, j5, j6, j7, j8⟩) | (exact ⟨k0, k1, k2, k3, k4, k5, k6, k7, k8⟩) | (simp [*]; done)) (first | (go_at_call 75; (with_reducible refine (HW _).mono ?_); rintro e w2 ⟨rfl, hb2⟩; have hbb : Below U.heap.size U w2 := ⟨hb2.os, hb2.tape, hb2.output, hb2.size, hb2.block⟩; obtain ⟨k0, k1, k2, k3, k4, k5, k6, k7, k8⟩ := nine' ((hbb.block p hpU).trans HQ.out); have HC := HSS.out w2 hbb; have HBB := hid hbb; clear hbb hb2) | (go_at_call 112; (with_reducible refine HC.mono ?_); rintro e w3 ⟨rfl, hM, hf⟩; obtain ⟨j0, j1, j2, j3, j4, j5, j6, j7, j8⟩ := nine' (hf.blk p _ _ _ ((HBB.out.block p hpU).trans HQ.out) (by decide) (by decide)); have HM := hid hM; have HF3 := hid hf; clear hM hf))
  all_goals go_wp2_with fail
  all_goals go_end0
  all_goals exact ⟨rfl, HM.out, HF.out.trans ((Fr.of_below HBB.out hbU2).trans HF3.out)⟩
/-- ANY SIMPLE TREE LAID DOWN -/
theorem lay_all {base : Nat} {A : Nat → Prop} (hA : ∀ b, A b → b < base) {t : Tn} (h : Nf t) : ∀ N, LP 49 base A N t := by
  have top : ∀ {N : Nv} {k : Int} {R : List (Int × Int)} {a : Int} {s : List Tn} {mn mx : Int} {lz : Bool} {ix : Int} {nm : ByteArray} {w : World}, TP w A N (.mk k R a s mn mx lz ix nm) → N.k = k ∧ N.a2 = a ∧ N.a4 = mn ∧ N.a5 = mx ∧ N.a6 = lz ∧ N.a7 = ix ∧ N.a8 = nm := fun h => by cases h; exact ⟨rfl, rfl, rfl, rfl, rfl, rfl, rfl⟩
  induction h with
  | @leaf k R a mn mx lz ix nm hk hn =>
    intro N w m l hM hm hb hT hlen
    obtain ⟨e0, e2, e4, e5, e6, e7, e8⟩ := top hT
    obtain ⟨k0, r1, r2, r3, a2, s1, s2, s3, a4, a5, a6, a7, a8⟩ := N
    dsimp only at e0 e2 e4 e5 e6 e7 e8
    subst e0 e2 e4 e5 e6 e7 e8
    have hfk := fine_kind0 hn
    rcases hk with rfl | rfl | rfl
    · exact lay49_100 hA (fun m w => way75_100 m (by decide) (by decide) (by decide) (by decide) (by decide) (by decide) w) (empty100 hA (by decide) (by decide) (by decide) (by decide) (by decide) (by decide)) w m l hM hm hb hT hlen
    · exact lay49_94 hA (fun m w => way75_94 m w) (class94g hA (by omega)) w m l hM hm hb hT hlen
    · exact lay49_95 hA (fun m w => way75_95 m w) (assert95 hA) w m l hM hm hb hT hlen
  | @cat s h2 h hs ih =>
    intro N w m l hM hm hb hT hlen
    obtain ⟨e0, e2, e4, e5, e6, e7, e8⟩ := top hT
    obtain ⟨k0, r1, r2, r3, a2, s1, s2, s3, a4, a5, a6, a7, a8⟩ := N
    dsimp only at e0 e2 e4 e5 e6 e7 e8
    subst e0 e2 e4 e5 e6 e7 e8
    exact lay49_97 hA (fun m w => way75_97 m w) (cat97 hA fun i hi N => ih _ (List.getElem_mem hi) N) w m l hM hm hb hT hlen
  | @alt s h2 h hs ih =>
    intro N w m l hM hm hb hT hlen
    obtain ⟨e0, e2, e4, e5, e6, e7, e8⟩ := top hT
    obtain ⟨k0, r1, r2, r3, a2, s1, s2, s3, a4, a5, a6, a7, a8⟩ := N
    dsimp only at e0 e2 e4 e5 e6 e7 e8
    subst e0 e2 e4 e5 e6 e7 e8
    exact lay49_98 hA (fun m w => way75_98 m w) (alt98 hA h2 fun i hi N => ih _ (List.getElem_mem hi) N) w m l hM hm hb hT hlen
  | @loop mn mx lz y h hy ih =>
    intro N w m l hM hm hb hT hlen
    obtain ⟨e0, e2, e4, e5, e6, e7, e8⟩ := top hT
    obtain ⟨k0, r1, r2, r3, a2, s1, s2, s3, a4, a5, a6, a7, a8⟩ := N
    dsimp only at e0 e2 e4 e5 e6 e7 e8
    subst e0 e2 e4 e5 e6 e7 e8
    rcases h with ⟨rfl, rfl⟩ | ⟨rfl, rfl⟩ | ⟨rfl, rfl⟩
    · exact lay49_111 hA (fun m w => way75_111 m (by decide) rfl w) (quest111 hA y rfl (by decide) rfl ih) w m l hM hm hb hT hlen
    · exact lay49_112 hA (fun m w => way75_112 m (by decide) (by decide) w) (star112 hA y rfl (by decide) (by decide) ih) w m l hM hm hb hT hlen
    · exact lay49_110 hA (fun m w => way75_110 m rfl w) (plus110 hA y rfl rfl ih) w m l hM hm hb hT hlen
  | @grp ix nm y hn hy ih =>
    intro N w m l hM hm hb hT hlen
    obtain ⟨e0, e2, e4, e5, e6, e7, e8⟩ := top hT
    obtain ⟨k0, r1, r2, r3, a2, s1, s2, s3, a4, a5, a6, a7, a8⟩ := N
    dsimp only at e0 e2 e4 e5 e6 e7 e8
    subst e0 e2 e4 e5 e6 e7 e8
    have hfk := fine_kind0 hn
    exact lay49_96 hA (fun m w => way75_96 m w) (group96 hA y rfl (by omega) ih) w m l hM hm hb hT hlen
end Go.Proofs.Ytnecakampgdhcaa
namespace Go.Proofs.Ytnecakampgdhcaa
open Go.RowKit
set_option linter.unusedVariables false
set_option linter.unusedSimpArgs false
set_option maxRecDepth 100000 in
set_option maxHeartbeats 8000000 in
theorem whole32g {base : Nat} {A : Nat → Prop} {N : Nv} {t : Tn} (hA : ∀ b, A b → b < base) (hnf : Nf t) {w : World} {m : Nat} (hM : MKL w m base A []) (hm : base ≤ m) (hb : base ≤ w.heap.size) (hT : TP w A N t) (hlen : t.len + 3 ≤ 20000) :
    Calls Try.prog 32 #[pt m, N.v] w fun e w' => e = .returned (.tuple #[]) ∧ MKL w' m base A (⟨3, 1, 0, 0, []⟩ :: (t.lay 1 ++ [⟨3, ((t.len + 2 : Nat) : Int), 0, 1, []⟩, ⟨5, 0, 0, 0, []⟩])) ∧ Fr base w w' := by
  obtain ⟨U, hU⟩ : ∃ U, U = w.alloc (.cells #[.int .i64 N.k, .slice N.r1 N.r2 N.r3, .int .i64 N.a2, .slice N.s1 N.s2 N.s3, .int .i64 N.a4, .int .i64 N.a5, .bool N.a6, .int .i64 N.a7, .string N.a8] 39) := ⟨_, rfl⟩
  have hbU : Below w.heap.size w U := by rw [hU]; exact Joins.below_alloc1 w _
  have hQ : BNo U w.heap.size N := by rw [hU]; exact heap_alloc_new w _
  have hbU2 : base ≤ U.heap.size := Nat.le_trans hb hbU.size
  have HF := hid (Fr.of_below hbU hb)
  have hTU : TP U A N t := hT.kept (fun b hb' => hbU.block b (by have := hA b hb'; omega)) (fun _ h => h)
  have HTU := hid hTU
  have H1 := stepL 3 0 0 none 0 0 [] (hM.below hbU hA hb) (im_bare _ _ _ _ _ _) hm hA (by simp) hbU2
  have HQ := hid hQ
  have HLY := hid (lay_all hA hnf N)
  obtain ⟨p, hp⟩ : ∃ p, p = w.heap.size := ⟨_, rfl⟩
  clear hM hbU hQ hT hTU hnf
  go_enter Try.func32, Try.ntmps32
  go_upto_region 1 with fail
  rw [← hU, ← hp]
  rw [← hp] at HQ
  clear hU hp
  go_upto_region 2 with (go_at_call 48; (with_reducible refine H1.mono ?_); rintro e U1 ⟨rfl, hM, hf⟩; have HM1 := hid hM; have HF1 := hid hf; clear hM hf H1)
  have HQ1 : Hid (BNo U1 p N) := HF1.out.blk p _ _ _ HQ.out (by decide) (by decide)
  have hb1 : base ≤ U1.heap.size := Nat.le_trans hbU2 HF1.out.size
  have H2 := HLY.out U1 m _ HM1.out hm hb1 (HTU.out.kept (HF1.out.bel hA) (fun _ h => h)) (by simp; omega)
  obtain ⟨c0, c1, c2, c3, c4, c5, c6, c7, c8⟩ := nine' HQ1.out
  go_upto_region 3 with (go_at_call 49; (with_reducible refine H2.mono ?_); rintro e U2 ⟨rfl, hM, hf⟩; have HM2 := hid hM; have HF2 := hid hf; clear hM hf H2)
  clear c0 c1 c2 c3 c4 c5 c6 c7 c8
  have hb2 : base ≤ U2.heap.size := Nat.le_trans hb1 HF2.out.size
  have hM2 : MKL U2 m base A (⟨3, 1, 0, 0, []⟩ :: t.lay 1) := by simpa using HM2.out
  have hl2 : ((⟨3, 1, 0, 0, []⟩ : In) :: t.lay 1).length = t.len + 1 := by simp [lay_len]
  have H3 := stepL 3 0 1 none 0 0 [] hM2 (im_bare _ _ _ _ _ _) hm hA (by rw [hl2]; omega) hb2
  rw [hl2] at H3
  clear hM2 hl2
  go_upto_region 4 with (go_at_call 48; (with_reducible refine H3.mono ?_); rintro e U3 ⟨rfl, hM, hf⟩; have HM3 := hid hM; have HF3 := hid hf; clear hM hf H3)
  have hb3 : base ≤ U3.heap.size := Nat.le_trans hb2 HF3.out.size
  have H4 := addL ⟨5, 0, 0, 0, none, 0, 0⟩ ⟨5, 0, 0, 0, []⟩ HM3.out (im_bare _ _ _ _ _ _) hm hA (by simp [lay_len]; omega) hb3
  go_wp2_with (first | (go_at_call 42; (with_reducible refine H4.mono ?_); rintro e U4 ⟨rfl, hM, hf⟩; have HM4 := hid hM; have HF4 := hid hf; clear hM hf H4))
  go_end0
  refine ⟨rfl, ?_, HF.out.trans (HF1.out.trans (HF2.out.trans (HF3.out.trans HF4.out)))⟩
  have h := HM4.out
  have e : (((t.len + 1 : Nat) : Int) + 1) = ((t.len + 2 : Nat) : Int) := by push_cast; omega
  rw [e] at h
  simpa [List.append_assoc] using h
set_option maxRecDepth 100000 in
set_option maxHeartbeats 4000000 in
theorem newRow31g (k : Nat) (hk : k ≤ 20000) (w : World) : Calls Try.prog 31 #[.int .i64 (k : Int)] w fun e w' => ∃ z1 c, e = .returned (.agg #[.slice z1 0 c]) ∧ w'.ownsRow w.heap.size 51 5 (.slice z1 0 c) 0 [] ∧ Below w.heap.size w w' := by
  have hmk := make51 k (by omega) (w.alloc (.cells #[.slice none 0 0] 61))
  have hs0 : (w.alloc (.cells #[.slice none 0 0] 61)).heap.size = w.heap.size + 1 := by simp
  have hown0 := made_own51 k (by unfold maxLen; omega) w.heap.size (w.alloc (.cells #[.slice none 0 0] 61)) (by simp)
  rw [hs0] at hmk hown0
  clear hs0
  have hQ : ((w.alloc (.cells #[.slice none 0 0] 61)).alloc (.cells (madeCells Z5.cells (k * 5)) 51)).heap[w.heap.size]? = some (.cells #[.slice none 0 0] 61 (0, 0)) := (heap_alloc_old _ _ (by simp)).trans (heap_alloc_new w _)
  have hbV : Below w.heap.size w ((w.alloc (.cells #[.slice none 0 0] 61)).alloc (.cells (madeCells Z5.cells (k * 5)) 51)) := below_two' w _ _
  obtain ⟨V, hV⟩ : ∃ V, V = (w.alloc (.cells #[.slice none 0 0] 61)).alloc (.cells (madeCells Z5.cells (k * 5)) 51) := ⟨_, rfl⟩
  rw [← hV] at hmk hown0 hQ hbV
  have f0 := Joins.unfrozen_of_block hQ 0
  have k0 := Joins.cell_of_block hQ 0
  have HQ := hid hQ
  have HB := hid hbV
  have HO := hid hown0
  clear hV hown0 hQ hbV
  go_enter Try.func31, Try.ntmps31
  go_wp2_with fail
  refine bodyPost_ret (results_cell_row rfl _ _ w.heap.size 61 _ (0, 0) _ rfl (Joins.block_setCell (i := 0) HQ.out _) Try.underlying61 rfl (by kernel_rfl)) rfl ?_
  exact ⟨some ⟨w.heap.size + 1, 0, none⟩, k, rfl, own_setCell HO.out (fun e => by simp [Value.ownBlock] at e), HB.out.setCell (p := ⟨w.heap.size, 0, none⟩) (Nat.le_refl _) _⟩
end Go.Proofs.Ytnecakampgdhcaa
