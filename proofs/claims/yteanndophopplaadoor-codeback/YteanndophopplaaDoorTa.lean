/- HELPERS: trees that are handed in: what is read of one, as data; where it lies. -/
import Derived.Deep.SlicePairs
import Derived.RowKit
namespace Go.Proofs.YteanndophopplaaDoor
open Go.RowKit Go.Deep Go.ChangeShapes Go.WideShapes
set_option linter.unusedVariables false
set_option linter.unusedSimpArgs false
/-- a node's nine cells -/
structure Nv where
  k : Int
  r1 : Option Addr
  r2 : Nat
  r3 : Nat
  a2 : Int
  s1 : Option Addr
  s2 : Nat
  s3 : Nat
  a4 : Int
  a5 : Int
  a6 : Bool
  a7 : Int
  a8 : ByteArray
instance : Inhabited Nv := ⟨⟨0, none, 0, 0, 0, none, 0, 0, 0, 0, false, 0, ⟨#[]⟩⟩⟩
abbrev Nv.cs (N : Nv) : List Value := [.int .i64 N.k, .slice N.r1 N.r2 N.r3, .int .i64 N.a2, .slice N.s1 N.s2 N.s3, .int .i64 N.a4, .int .i64 N.a5, .bool N.a6, .int .i64 N.a7, .string N.a8]
abbrev Nv.v (N : Nv) : Value := .agg #[.int .i64 N.k, .slice N.r1 N.r2 N.r3, .int .i64 N.a2, .slice N.s1 N.s2 N.s3, .int .i64 N.a4, .int .i64 N.a5, .bool N.a6, .int .i64 N.a7, .string N.a8]
/-- a tree -/
inductive Tn where
  | mk (k : Int) (R : List (Int × Int)) (a : Int) (s : List Tn) (mn mx : Int) (lz : Bool) (ix : Int) (nm : ByteArray)
instance : Inhabited Tn := ⟨.mk 0 [] 0 [] 0 0 false 0 ⟨#[]⟩⟩
def Tn.kind : Tn → Int | .mk k .. => k
def Tn.subs : Tn → List Tn | .mk _ _ _ s .. => s
/-- the nine cells of the i-th node of a row -/
def N9 (w : World) (b o i : Nat) (N : Nv) : Prop := w.cell? ⟨b, o + i * 9, none⟩ = some (.int .i64 N.k) ∧ w.cell? ⟨b, o + i * 9 + 1, none⟩ = some (.slice N.r1 N.r2 N.r3) ∧ w.cell? ⟨b, o + i * 9 + 2, none⟩ = some (.int .i64 N.a2) ∧ w.cell? ⟨b, o + i * 9 + 3, none⟩ = some (.slice N.s1 N.s2 N.s3) ∧
  w.cell? ⟨b, o + i * 9 + 4, none⟩ = some (.int .i64 N.a4) ∧ w.cell? ⟨b, o + i * 9 + 5, none⟩ = some (.int .i64 N.a5) ∧ w.cell? ⟨b, o + i * 9 + 6, none⟩ = some (.bool N.a6) ∧ w.cell? ⟨b, o + i * 9 + 7, none⟩ = some (.int .i64 N.a7) ∧ w.cell? ⟨b, o + i * 9 + 8, none⟩ = some (.string N.a8)
/-- a row of ranges at an address -/
def R2 (w : World) (B : Nat) (ad : Option Addr) (R : List (Int × Int)) : Prop :=
  R ≠ [] → ∃ b o, ad = some ⟨b, o, none⟩ ∧ b < B ∧ ∀ i (hi : i < R.length), w.cell? ⟨b, o + i * 2, none⟩ = some (.int .i64 R[i].1) ∧ w.cell? ⟨b, o + i * 2 + 1, none⟩ = some (.int .i64 R[i].2)
/-- a number that may be one -/
abbrev I64ok (x : Int) : Prop := -9223372036854775808 ≤ x ∧ x ≤ 9223372036854775807
structure Nv.ok (N : Nv) : Prop where
  k : I64ok N.k
  a2 : I64ok N.a2
  a4 : I64ok N.a4
  a5 : I64ok N.a5
  a7 : I64ok N.a7
  a8 : N.a8.size ≤ maxLen
  r : N.r2 ≤ N.r3 ∧ N.r3 ≤ maxLen
  s : N.s2 ≤ N.s3 ∧ N.s3 ≤ maxLen
/-- a tree lies in memory, below a block -/
inductive TI (w : World) (B : Nat) : Nv → Tn → Prop
  | mk {N : Nv} {R : List (Int × Int)} {ts : List Tn} {ND : Nat → Nv} (ok : N.ok) (hr : N.r2 = R.length) (hR : R2 w B N.r1 R) (hRk : ∀ x ∈ R, I64ok x.1 ∧ I64ok x.2) (hs : N.s2 = ts.length)
      (hS : 0 < ts.length → ∃ b o, N.s1 = some ⟨b, o, none⟩ ∧ b < B ∧ ∀ i, i < ts.length → N9 w b o i (ND i)) (hk : ∀ i (hi : i < ts.length), TI w B (ND i) ts[i]) :
      TI w B N (.mk N.k R N.a2 ts N.a4 N.a5 N.a6 N.a7 N.a8)
theorem cell_eq {w w' : World} {b : Nat} (h : w'.heap[b]? = w.heap[b]?) (o : Nat) : w'.cell? ⟨b, o, none⟩ = w.cell? ⟨b, o, none⟩ := by simp only [World.cell?, h]
theorem N9.kept {w w' : World} {b o i : Nat} {N : Nv} (h : N9 w b o i N) (hk : w'.heap[b]? = w.heap[b]?) : N9 w' b o i N := by
  obtain ⟨h0, h1, h2, h3, h4, h5, h6, h7, h8⟩ := h
  exact ⟨(cell_eq hk _).trans h0, (cell_eq hk _).trans h1, (cell_eq hk _).trans h2, (cell_eq hk _).trans h3, (cell_eq hk _).trans h4, (cell_eq hk _).trans h5, (cell_eq hk _).trans h6, (cell_eq hk _).trans h7, (cell_eq hk _).trans h8⟩
theorem R2.kept {w w' : World} {B : Nat} {ad : Option Addr} {R : List (Int × Int)} (h : R2 w B ad R) (hk : ∀ b, b < B → w'.heap[b]? = w.heap[b]?) : R2 w' B ad R := fun hn => by
  obtain ⟨b, o, h1, h2, h3⟩ := h hn
  exact ⟨b, o, h1, h2, fun i hi => ⟨(cell_eq (hk b h2) _).trans (h3 i hi).1, (cell_eq (hk b h2) _).trans (h3 i hi).2⟩⟩
theorem R2.le {w : World} {B B' : Nat} {ad : Option Addr} {R : List (Int × Int)} (h : R2 w B ad R) (hB : B ≤ B') : R2 w B' ad R := fun hn => by
  obtain ⟨b, o, h1, h2, h3⟩ := h hn
  exact ⟨b, o, h1, by omega, h3⟩
theorem TI.kept {w w' : World} {B : Nat} {N : Nv} {t : Tn} (h : TI w B N t) (hk : ∀ b, b < B → w'.heap[b]? = w.heap[b]?) : TI w' B N t := by
  induction h with
  | mk ok hr hR hRk hs hS hkk ih =>
    refine .mk ok hr (hR.kept hk) hRk hs (fun hp => ?_) ih
    obtain ⟨b, o, h1, h2, h3⟩ := hS hp
    exact ⟨b, o, h1, h2, fun i hi => (h3 i hi).kept (hk b h2)⟩
theorem TI.le {w : World} {B B' : Nat} {N : Nv} {t : Tn} (h : TI w B N t) (hB : B ≤ B') : TI w B' N t := by
  induction h with
  | mk ok hr hR hRk hs hS hkk ih =>
    refine .mk ok hr (hR.le hB) hRk hs (fun hp => ?_) ih
    obtain ⟨b, o, h1, h2, h3⟩ := hS hp
    exact ⟨b, o, h1, by omega, h3⟩
/-- how a node's type is made -/
structure NodeTy (P : Program) (tn ts tr te ti tb tg : TypeId) (f : Nat → Field) (g0 g1 : Field) : Prop where
  hn : P.underlying tn = some (.struct #[f 0, f 1, f 2, f 3, f 4, f 5, f 6, f 7, f 8])
  cn : P.cellsOf tn = 9
  ty : (f 0).type = ti ∧ (f 1).type = tr ∧ (f 2).type = ti ∧ (f 3).type = ts ∧ (f 4).type = ti ∧ (f 5).type = ti ∧ (f 6).type = tb ∧ (f 7).type = ti ∧ (f 8).type = tg
  of : ∀ i, i < 9 → (f i).offset = i
  ci : P.cellsOf ti = 1
  cr : P.cellsOf tr = 1
  cs : P.cellsOf ts = 1
  cb : P.cellsOf tb = 1
  cg : P.cellsOf tg = 1
  hi : P.underlying ti = some (.int .i64)
  hb : P.underlying tb = some .bool
  hg : P.underlying tg = some .string
  hs : P.underlying ts = some (.slice tn)
  hr : P.underlying tr = some (.slice te)
  he : P.underlying te = some (.struct #[g0, g1])
  ce : P.cellsOf te = 2
  og : g0.offset = 0 ∧ g1.offset = 1 ∧ g0.type = ti ∧ g1.type = ti
theorem i64ok {n : Int} (h : (Lit.int .i64 n).wf = true) : I64ok n := by
  simp [Lit.wf, IntKind.min, IntKind.signed, IntKind.bits] at h
  exact h
section
variable {H : Type} {enc : TypeId × Value → H} {P : Program} {w : World} {base : Nat} {spare : Nat → Bool} {held : Bool} {tn ts tr te ti tb tg : TypeId} {f : Nat → Field} {g0 g1 : Field}
theorem open_ranges (S : NodeTy P tn ts tr te ti tb tg f g0 g1) {fuel : Nat} {cs : List Value} {x : DataW H × List MemPlace} (h : DataW.trod enc P w base spare held fuel tr cs = some x) :
    ∃ (ad : Option Addr) (n c : Nat) (R : List (Int × Int)), cs = [.slice ad n c] ∧ n = R.length ∧ n ≤ c ∧ c ≤ maxLen ∧ R2 w w.heap.size ad R ∧ ∀ x ∈ R, I64ok x.1 ∧ I64ok x.2 := by
  obtain ⟨o0, o1, t0, t1⟩ := S.og
  rcases open_slice_pairs S.hr S.he S.ce o0 o1 (by rw [t0]; exact S.ci) (by rw [t1]; exact S.ci) h with ⟨rfl, rfl⟩ | ⟨a, len, cap, m, n, V0, V1, D0, D1, P0, P1, rfl, hb, hl, hm, hmm, rfl, hx⟩
  · exact ⟨none, 0, 0, [], rfl, rfl, Nat.le_refl _, by simp [maxLen], fun hn => absurd rfl hn, fun x hx => by cases hx⟩
  have hlm : len ≤ m := by rw [hmm]; split <;> omega
  rw [t0, t1] at hx
  have each : ∀ i, i < len → ∃ q : Int × Int, w.cell? (a.add (i * 2)) = some (.int .i64 q.1) ∧ w.cell? (a.add (i * 2 + 1)) = some (.int .i64 q.2) ∧ I64ok q.1 ∧ I64ok q.2 := fun i hi => by
    obtain ⟨h1, h2, h3, h4⟩ := hx i (by omega)
    obtain ⟨n0, e0, _, w0⟩ := DataW.trod_int S.hi h3
    obtain ⟨n1, e1, _, w1⟩ := DataW.trod_int S.hi h4
    simp at e0 e1
    rw [e0] at h1
    rw [e1] at h2
    exact ⟨(n0, n1), h1, h2, i64ok w0, i64ok w1⟩
  obtain ⟨q, hq⟩ := choose_lt each
  refine ⟨some a, len, cap, (List.range len).map q, rfl, by simp, hl, hm, fun hn => ?_, fun x hx => ?_⟩
  · have hpos : 0 < len := by
      rcases Nat.eq_zero_or_pos len with h0 | h0
      · subst h0; simp at hn
      · exact h0
    have hc0 := (hq 0 hpos).1
    have hsp : a.spot = none := by simpa [Addr.add] using World.cell?_spot hc0
    obtain ⟨b, o, sp⟩ := a
    simp only at hsp
    subst hsp
    refine ⟨b, o, rfl, World.block_lt_of_cell? _ _ hc0, fun i hi => ?_⟩
    simp only [List.length_map, List.length_range] at hi
    have h1 := hq i hi
    rw [add_plain, add_plain] at h1
    simp only [List.getElem_map, List.getElem_range]
    exact ⟨h1.1, by rw [Nat.add_assoc]; exact h1.2.1⟩
  · simp only [List.mem_map, List.mem_range] at hx
    obtain ⟨i, hi, rfl⟩ := hx
    exact (hq i hi).2.2
theorem open_node (S : NodeTy P tn ts tr te ti tb tg f g0 g1) : ∀ (fuel : Nat) (cs : List Value) (x : DataW H × List MemPlace), DataW.trod enc P w base spare held fuel tn cs = some x → ∃ N t, cs = Nv.cs N ∧ TI w w.heap.size N t := by
  intro fuel
  induction fuel using Nat.strongRecOn with
  | _ fuel ih =>
  intro cs x h
  obtain ⟨xs, n, hf, rfl, hl, hxl, hfs⟩ := DataW.trod_struct S.hn h
  rw [S.cn] at hl
  simp only [List.size_toArray, List.length_cons, List.length_nil] at hxl
  obtain ⟨t0, t1, t2, t3, t4, t5, t6, t7, t8⟩ := S.ty
  match xs, hxl, cs, hl with
  | [y0, y1, y2, y3, y4, y5, y6, y7, y8], _, [v0, v1, v2, v3, v4, v5, v6, v7, v8], _ =>
  have g0 := hfs 0 (f 0) rfl
  have g1 := hfs 1 (f 1) rfl
  have g2 := hfs 2 (f 2) rfl
  have g3 := hfs 3 (f 3) rfl
  have g4 := hfs 4 (f 4) rfl
  have g5 := hfs 5 (f 5) rfl
  have g6 := hfs 6 (f 6) rfl
  have g7 := hfs 7 (f 7) rfl
  have g8 := hfs 8 (f 8) rfl
  simp [t0, S.of, S.ci] at g0
  simp [t1, S.of, S.cr] at g1
  simp [t2, S.of, S.ci] at g2
  simp [t3, S.of, S.cs] at g3
  simp [t4, S.of, S.ci] at g4
  simp [t5, S.of, S.ci] at g5
  simp [t6, S.of, S.cb] at g6
  simp [t7, S.of, S.ci] at g7
  simp [t8, S.of, S.cg] at g8
  obtain ⟨k, e0, _, w0⟩ := DataW.trod_int S.hi g0
  obtain ⟨a2, e2, _, w2⟩ := DataW.trod_int S.hi g2
  obtain ⟨a4, e4, _, w4⟩ := DataW.trod_int S.hi g4
  obtain ⟨a5, e5, _, w5⟩ := DataW.trod_int S.hi g5
  obtain ⟨a7, e7, _, w7⟩ := DataW.trod_int S.hi g7
  obtain ⟨a6, e6, _⟩ := DataW.trod_bool S.hb g6
  obtain ⟨a8, e8, _, w8⟩ := DataW.trod_string S.hg g8
  obtain ⟨r1, r2, r3, R, e1, hr, hrc, hrm, hR, hRk⟩ := open_ranges S g1
  simp only [List.cons.injEq, and_true] at e0 e1 e2 e4 e5 e6 e7 e8
  subst e0 e1 e2 e4 e5 e6 e7 e8
  rcases DataW.trod_slice S.hs g3 with ⟨e3, _⟩ | ⟨a, len, cap, elems, rest, n', hn', e3, _, hb, hlc, hcm, hel, hx, _, _⟩
  · simp only [List.cons.injEq, and_true] at e3
    subst e3
    exact ⟨⟨k, r1, r2, r3, a2, none, 0, 0, a4, a5, a6, a7, a8⟩, _, rfl, .mk (ts := []) (ND := fun _ => default) ⟨i64ok w0, i64ok w2, i64ok w4, i64ok w5, i64ok w7, w8, ⟨hrc, hrm⟩, ⟨Nat.le_refl _, by simp [maxLen]⟩⟩ hr hR hRk rfl (fun hp => absurd hp (by simp)) (fun i hi => absurd hi (by simp))⟩
  · simp only [List.cons.injEq, and_true] at e3
    subst e3
    rw [S.cn] at hx
    have each : ∀ i, i < len → ∃ q : Nv × Tn, (∀ j, j < 9 → w.cell? (a.add (i * 9 + j)) = (Nv.cs q.1)[j]?) ∧ TI w w.heap.size q.1 q.2 := fun i hi => by
      have h1 := hx i hi
      rw [List.getElem?_eq_getElem (by omega)] at h1
      obtain ⟨cs', h2, h3⟩ := Option.bind_eq_some_iff.1 h1
      obtain ⟨N, t, rfl, ht⟩ := ih n' (by omega) cs' _ h3
      obtain ⟨_, _, hc⟩ := World.cells?_some h2
      exact ⟨(N, t), fun j hj => by have := hc j hj; rwa [add_add] at this, ht⟩
    obtain ⟨q, hq⟩ := choose_lt each
    refine ⟨⟨k, r1, r2, r3, a2, some a, len, cap, a4, a5, a6, a7, a8⟩, _, rfl, .mk (ts := (List.range len).map fun i => (q i).2) (ND := fun i => (q i).1) ⟨i64ok w0, i64ok w2, i64ok w4, i64ok w5, i64ok w7, w8, ⟨hrc, hrm⟩, ⟨hlc, hcm⟩⟩ hr hR hRk (by simp) (fun hp => ?_) (fun i hi => ?_)⟩
    · simp only [List.length_map, List.length_range] at hp ⊢
      have hc0 := (hq 0 hp).1 0 (by omega)
      simp only [Nv.cs, List.getElem?_cons_zero] at hc0
      have hsp : a.spot = none := by simpa [Addr.add] using World.cell?_spot hc0
      obtain ⟨b, o, sp⟩ := a
      simp only at hsp
      subst hsp
      refine ⟨b, o, rfl, World.block_lt_of_cell? _ _ hc0, fun i hi => ?_⟩
      have h1 := (hq i hi).1
      simp only [add_plain, ← Nat.add_assoc] at h1
      exact ⟨by simpa using h1 0 (by omega), by simpa using h1 1 (by omega), by simpa using h1 2 (by omega), by simpa using h1 3 (by omega), by simpa using h1 4 (by omega), by simpa using h1 5 (by omega), by simpa using h1 6 (by omega), by simpa using h1 7 (by omega), by simpa using h1 8 (by omega)⟩
    · simp only [List.length_map, List.length_range] at hi
      simpa using (hq i hi).2
end
end Go.Proofs.YteanndophopplaaDoor
