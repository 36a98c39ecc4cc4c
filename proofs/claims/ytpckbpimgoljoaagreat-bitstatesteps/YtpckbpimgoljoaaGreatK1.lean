/- HELPERS: plain mathematics of bits: and, or, and not with small numbers; Flip; Holds. -/
import Derived.Deep.SlicePairs
import Derived.RowKit
import Derived.Test.YtpckbpimgoljoaaGreatProg
import Derived.WalkKit
import Derived.ProofKit
import Derived.BigQuiet
import Derived.WalkSmall
import Derived.Deep.QuietTactic
import Derived.Deep.RegionWith
import Derived.Lib.SmallJoins
import Derived.Lib.MinMax
import Derived.Maps.AppendAt
import Derived.Laws.AppendOwnNone
import Derived.OrdersHeld
import Derived.StillTail
import Derived.Tactics
import Derived.Below
import Derived.Laws.BitsLemmas
/- HELPERS: trees that are handed in: what is read of one, as data; where it lies. -/
namespace Go.Proofs.YtpckbpimgoljoaaGreat
open Go.RowKit Go.Deep Go.ChangeShapes Go.WideShapes
set_option linter.unusedVariables false
set_option linter.unusedSimpArgs false
/-- a node's nine cells -/
structure Nv where
  k : Int
  r1 : Option Addr
  r2 : Nat
  r3 : Nat
  a2 : Int
  s1 : Option Addr
  s2 : Nat
  s3 : Nat
  a4 : Int
  a5 : Int
  a6 : Bool
  a7 : Int
  a8 : ByteArray
instance : Inhabited Nv := ⟨⟨0, none, 0, 0, 0, none, 0, 0, 0, 0, false, 0, ⟨#[]⟩⟩⟩
abbrev Nv.cs (N : Nv) : List Value := [.int .i64 N.k, .slice N.r1 N.r2 N.r3, .int .i64 N.a2, .slice N.s1 N.s2 N.s3, .int .i64 N.a4, .int .i64 N.a5, .bool N.a6, .int .i64 N.a7, .string N.a8]
abbrev Nv.v (N : Nv) : Value := .agg #[.int .i64 N.k, .slice N.r1 N.r2 N.r3, .int .i64 N.a2, .slice N.s1 N.s2 N.s3, .int .i64 N.a4, .int .i64 N.a5, .bool N.a6, .int .i64 N.a7, .string N.a8]
/-- a tree -/
inductive Tn where
  | mk (k : Int) (R : List (Int × Int)) (a : Int) (s : List Tn) (mn mx : Int) (lz : Bool) (ix : Int) (nm : ByteArray)
instance : Inhabited Tn := ⟨.mk 0 [] 0 [] 0 0 false 0 ⟨#[]⟩⟩
def Tn.kind : Tn → Int | .mk k .. => k
def Tn.subs : Tn → List Tn | .mk _ _ _ s .. => s
/-- the nine cells of the i-th node of a row -/
def N9 (w : World) (b o i : Nat) (N : Nv) : Prop := w.cell? ⟨b, o + i * 9, none⟩ = some (.int .i64 N.k) ∧ w.cell? ⟨b, o + i * 9 + 1, none⟩ = some (.slice N.r1 N.r2 N.r3) ∧ w.cell? ⟨b, o + i * 9 + 2, none⟩ = some (.int .i64 N.a2) ∧ w.cell? ⟨b, o + i * 9 + 3, none⟩ = some (.slice N.s1 N.s2 N.s3) ∧
  w.cell? ⟨b, o + i * 9 + 4, none⟩ = some (.int .i64 N.a4) ∧ w.cell? ⟨b, o + i * 9 + 5, none⟩ = some (.int .i64 N.a5) ∧ w.cell? ⟨b, o + i * 9 + 6, none⟩ = some (.bool N.a6) ∧ w.cell? ⟨b, o + i * 9 + 7, none⟩ = some (.int .i64 N.a7) ∧ w.cell? ⟨b, o + i * 9 + 8, none⟩ = some (.string N.a8)
/-- a row of ranges at an address -/
def R2 (w : World) (B : Nat) (ad : Option Addr) (R : List (Int × Int)) : Prop :=
  R ≠ [] → ∃ b o, ad = some ⟨b, o, none⟩ ∧ b < B ∧ ∀ i (hi : i < R.length), w.cell? ⟨b, o + i * 2, none⟩ = some (.int .i64 R[i].1) ∧ w.cell? ⟨b, o + i * 2 + 1, none⟩ = some (.int .i64 R[i].2)
/-- a number that may be one -/
abbrev I64ok (x : Int) : Prop := -9223372036854775808 ≤ x ∧ x ≤ 9223372036854775807
structure Nv.ok (N : Nv) : Prop where
  k : I64ok N.k
  a2 : I64ok N.a2
  a4 : I64ok N.a4
  a5 : I64ok N.a5
  a7 : I64ok N.a7
  a8 : N.a8.size ≤ maxLen
  r : N.r2 ≤ N.r3 ∧ N.r3 ≤ maxLen
  s : N.s2 ≤ N.s3 ∧ N.s3 ≤ maxLen
/-- a tree lies in memory, below a block -/
inductive TI (w : World) (B : Nat) : Nv → Tn → Prop
  | mk {N : Nv} {R : List (Int × Int)} {ts : List Tn} {ND : Nat → Nv} (ok : N.ok) (hr : N.r2 = R.length) (hR : R2 w B N.r1 R) (hRk : ∀ x ∈ R, I64ok x.1 ∧ I64ok x.2) (hs : N.s2 = ts.length)
      (hS : 0 < ts.length → ∃ b o, N.s1 = some ⟨b, o, none⟩ ∧ b < B ∧ ∀ i, i < ts.length → N9 w b o i (ND i)) (hk : ∀ i (hi : i < ts.length), TI w B (ND i) ts[i]) :
      TI w B N (.mk N.k R N.a2 ts N.a4 N.a5 N.a6 N.a7 N.a8)
theorem cell_eq {w w' : World} {b : Nat} (h : w'.heap[b]? = w.heap[b]?) (o : Nat) : w'.cell? ⟨b, o, none⟩ = w.cell? ⟨b, o, none⟩ := by simp only [World.cell?, h]
theorem N9.kept {w w' : World} {b o i : Nat} {N : Nv} (h : N9 w b o i N) (hk : w'.heap[b]? = w.heap[b]?) : N9 w' b o i N := by
  obtain ⟨h0, h1, h2, h3, h4, h5, h6, h7, h8⟩ := h
  exact ⟨(cell_eq hk _).trans h0, (cell_eq hk _).trans h1, (cell_eq hk _).trans h2, (cell_eq hk _).trans h3, (cell_eq hk _).trans h4, (cell_eq hk _).trans h5, (cell_eq hk _).trans h6, (cell_eq hk _).trans h7, (cell_eq hk _).trans h8⟩
theorem R2.kept {w w' : World} {B : Nat} {ad : Option Addr} {R : List (Int × Int)} (h : R2 w B ad R) (hk : ∀ b, b < B → w'.heap[b]? = w.heap[b]?) : R2 w' B ad R := fun hn => by
  obtain ⟨b, o, h1, h2, h3⟩ := h hn
  exact ⟨b, o, h1, h2, fun i hi => ⟨(cell_eq (hk b h2) _).trans (h3 i hi).1, (cell_eq (hk b h2) _).trans (h3 i hi).2⟩⟩
theorem R2.le {w : World} {B B' : Nat} {ad : Option Addr} {R : List (Int × Int)} (h : R2 w B ad R) (hB : B ≤ B') : R2 w B' ad R := fun hn => by
  obtain ⟨b, o, h1, h2, h3⟩ := h hn
  exact ⟨b, o, h1, by omega, h3⟩
theorem TI.kept {w w' : World} {B : Nat} {N : Nv} {t : Tn} (h : TI w B N t) (hk : ∀ b, b < B → w'.heap[b]? = w.heap[b]?) : TI w' B N t := by
  induction h with
  | mk ok hr hR hRk hs hS hkk ih =>
    refine .mk ok hr (hR.kept hk) hRk hs (fun hp => ?_) ih
    obtain ⟨b, o, h1, h2, h3⟩ := hS hp
    exact ⟨b, o, h1, h2, fun i hi => (h3 i hi).kept (hk b h2)⟩
theorem TI.le {w : World} {B B' : Nat} {N : Nv} {t : Tn} (h : TI w B N t) (hB : B ≤ B') : TI w B' N t := by
  induction h with
  | mk ok hr hR hRk hs hS hkk ih =>
    refine .mk ok hr (hR.le hB) hRk hs (fun hp => ?_) ih
    obtain ⟨b, o, h1, h2, h3⟩ := hS hp
    exact ⟨b, o, h1, by omega, h3⟩
/-- how a node's type is made -/
structure NodeTy (P : Program) (tn ts tr te ti tb tg : TypeId) (f : Nat → Field) (g0 g1 : Field) : Prop where
  hn : P.underlying tn = some (.struct #[f 0, f 1, f 2, f 3, f 4, f 5, f 6, f 7, f 8])
  cn : P.cellsOf tn = 9
  ty : (f 0).type = ti ∧ (f 1).type = tr ∧ (f 2).type = ti ∧ (f 3).type = ts ∧ (f 4).type = ti ∧ (f 5).type = ti ∧ (f 6).type = tb ∧ (f 7).type = ti ∧ (f 8).type = tg
  of : ∀ i, i < 9 → (f i).offset = i
  ci : P.cellsOf ti = 1
  cr : P.cellsOf tr = 1
  cs : P.cellsOf ts = 1
  cb : P.cellsOf tb = 1
  cg : P.cellsOf tg = 1
  hi : P.underlying ti = some (.int .i64)
  hb : P.underlying tb = some .bool
  hg : P.underlying tg = some .string
  hs : P.underlying ts = some (.slice tn)
  hr : P.underlying tr = some (.slice te)
  he : P.underlying te = some (.struct #[g0, g1])
  ce : P.cellsOf te = 2
  og : g0.offset = 0 ∧ g1.offset = 1 ∧ g0.type = ti ∧ g1.type = ti
theorem i64ok {n : Int} (h : (Lit.int .i64 n).wf = true) : I64ok n := by
  simp [Lit.wf, IntKind.min, IntKind.signed, IntKind.bits] at h
  exact h
section
variable {H : Type} {enc : TypeId × Value → H} {P : Program} {w : World} {base : Nat} {spare : Nat → Bool} {held : Bool} {tn ts tr te ti tb tg : TypeId} {f : Nat → Field} {g0 g1 : Field}
theorem open_ranges (S : NodeTy P tn ts tr te ti tb tg f g0 g1) {fuel : Nat} {cs : List Value} {x : DataW H × List MemPlace} (h : DataW.trod enc P w base spare held fuel tr cs = some x) :
    ∃ (ad : Option Addr) (n c : Nat) (R : List (Int × Int)), cs = [.slice ad n c] ∧ n = R.length ∧ n ≤ c ∧ c ≤ maxLen ∧ R2 w w.heap.size ad R ∧ ∀ x ∈ R, I64ok x.1 ∧ I64ok x.2 := by
  obtain ⟨o0, o1, t0, t1⟩ := S.og
  rcases open_slice_pairs S.hr S.he S.ce o0 o1 (by rw [t0]; exact S.ci) (by rw [t1]; exact S.ci) h with ⟨rfl, rfl⟩ | ⟨a, len, cap, m, n, V0, V1, D0, D1, P0, P1, rfl, hb, hl, hm, hmm, rfl, hx⟩
  · exact ⟨none, 0, 0, [], rfl, rfl, Nat.le_refl _, by simp [maxLen], fun hn => absurd rfl hn, fun x hx => by cases hx⟩
  have hlm : len ≤ m := by rw [hmm]; split <;> omega
  rw [t0, t1] at hx
  have each : ∀ i, i < len → ∃ q : Int × Int, w.cell? (a.add (i * 2)) = some (.int .i64 q.1) ∧ w.cell? (a.add (i * 2 + 1)) = some (.int .i64 q.2) ∧ I64ok q.1 ∧ I64ok q.2 := fun i hi => by
    obtain ⟨h1, h2, h3, h4⟩ := hx i (by omega)
    obtain ⟨n0, e0, _, w0⟩ := DataW.trod_int S.hi h3
    obtain ⟨n1, e1, _, w1⟩ := DataW.trod_int S.hi h4
    simp at e0 e1
    rw [e0] at h1
    rw [e1] at h2
    exact ⟨(n0, n1), h1, h2, i64ok w0, i64ok w1⟩
  obtain ⟨q, hq⟩ := choose_lt each
  refine ⟨some a, len, cap, (List.range len).map q, rfl, by simp, hl, hm, fun hn => ?_, fun x hx => ?_⟩
  · have hpos : 0 < len := by
      rcases Nat.eq_zero_or_pos len with h0 | h0
      · subst h0; simp at hn
      · exact h0
    have hc0 := (hq 0 hpos).1
    have hsp : a.spot = none := by simpa [Addr.add] using World.cell?_spot hc0
    obtain ⟨b, o, sp⟩ := a
    simp only at hsp
    subst hsp
    refine ⟨b, o, rfl, World.block_lt_of_cell? _ _ hc0, fun i hi => ?_⟩
    simp only [List.length_map, List.length_range] at hi
    have h1 := hq i hi
    rw [add_plain, add_plain] at h1
    simp only [List.getElem_map, List.getElem_range]
    exact ⟨h1.1, by rw [Nat.add_assoc]; exact h1.2.1⟩
  · simp only [List.mem_map, List.mem_range] at hx
    obtain ⟨i, hi, rfl⟩ := hx
    exact (hq i hi).2.2
theorem open_node (S : NodeTy P tn ts tr te ti tb tg f g0 g1) : ∀ (fuel : Nat) (cs : List Value) (x : DataW H × List MemPlace), DataW.trod enc P w base spare held fuel tn cs = some x → ∃ N t, cs = Nv.cs N ∧ TI w w.heap.size N t := by
  intro fuel
  induction fuel using Nat.strongRecOn with
  | _ fuel ih =>
  intro cs x h
  obtain ⟨xs, n, hf, rfl, hl, hxl, hfs⟩ := DataW.trod_struct S.hn h
  rw [S.cn] at hl
  simp only [List.size_toArray, List.length_cons, List.length_nil] at hxl
  obtain ⟨t0, t1, t2, t3, t4, t5, t6, t7, t8⟩ := S.ty
  match xs, hxl, cs, hl with
  | [y0, y1, y2, y3, y4, y5, y6, y7, y8], _, [v0, v1, v2, v3, v4, v5, v6, v7, v8], _ =>
  have g0 := hfs 0 (f 0) rfl
  have g1 := hfs 1 (f 1) rfl
  have g2 := hfs 2 (f 2) rfl
  have g3 := hfs 3 (f 3) rfl
  have g4 := hfs 4 (f 4) rfl
  have g5 := hfs 5 (f 5) rfl
  have g6 := hfs 6 (f 6) rfl
  have g7 := hfs 7 (f 7) rfl
  have g8 := hfs 8 (f 8) rfl
  simp [t0, S.of, S.ci] at g0
  simp [t1, S.of, S.cr] at g1
  simp [t2, S.of, S.ci] at g2
  simp [t3, S.of, S.cs] at g3
  simp [t4, S.of, S.ci] at g4
  simp [t5, S.of, S.ci] at g5
  simp [t6, S.of, S.cb] at g6
  simp [t7, S.of, S.ci] at g7
  simp [t8, S.of, S.cg] at g8
  obtain ⟨k, e0, _, w0⟩ := DataW.trod_int S.hi g0
  obtain ⟨a2, e2, _, w2⟩ := DataW.trod_int S.hi g2
  obtain ⟨a4, e4, _, w4⟩ := DataW.trod_int S.hi g4
  obtain ⟨a5, e5, _, w5⟩ := DataW.trod_int S.hi g5
  obtain ⟨a7, e7, _, w7⟩ := DataW.trod_int S.hi g7
  obtain ⟨a6, e6, _⟩ := DataW.trod_bool S.hb g6
  obtain ⟨a8, e8, _, w8⟩ := DataW.trod_string S.hg g8
  obtain ⟨r1, r2, r3, R, e1, hr, hrc, hrm, hR, hRk⟩ := open_ranges S g1
  simp only [List.cons.injEq, and_true] at e0 e1 e2 e4 e5 e6 e7 e8
  subst e0 e1 e2 e4 e5 e6 e7 e8
  rcases DataW.trod_slice S.hs g3 with ⟨e3, _⟩ | ⟨a, len, cap, elems, rest, n', hn', e3, _, hb, hlc, hcm, hel, hx, _, _⟩
  · simp only [List.cons.injEq, and_true] at e3
    subst e3
    exact ⟨⟨k, r1, r2, r3, a2, none, 0, 0, a4, a5, a6, a7, a8⟩, _, rfl, .mk (ts := []) (ND := fun _ => default) ⟨i64ok w0, i64ok w2, i64ok w4, i64ok w5, i64ok w7, w8, ⟨hrc, hrm⟩, ⟨Nat.le_refl _, by simp [maxLen]⟩⟩ hr hR hRk rfl (fun hp => absurd hp (by simp)) (fun i hi => absurd hi (by simp))⟩
  · simp only [List.cons.injEq, and_true] at e3
    subst e3
    rw [S.cn] at hx
    have each : ∀ i, i < len → ∃ q : Nv × Tn, (∀ j, j < 9 → w.cell? (a.add (i * 9 + j)) = (Nv.cs q.1)[j]?) ∧ TI w w.heap.size q.1 q.2 := fun i hi => by
      have h1 := hx i hi
      rw [List.getElem?_eq_getElem (by omega)] at h1
      obtain ⟨cs', h2, h3⟩ := Option.bind_eq_some_iff.1 h1
      obtain ⟨N, t, rfl, ht⟩ := ih n' (by omega) cs' _ h3
      obtain ⟨_, _, hc⟩ := World.cells?_some h2
      exact ⟨(N, t), fun j hj => by have := hc j hj; rwa [add_add] at this, ht⟩
    obtain ⟨q, hq⟩ := choose_lt each
    refine ⟨⟨k, r1, r2, r3, a2, some a, len, cap, a4, a5, a6, a7, a8⟩, _, rfl, .mk (ts := (List.range len).map fun i => (q i).2) (ND := fun i => (q i).1) ⟨i64ok w0, i64ok w2, i64ok w4, i64ok w5, i64ok w7, w8, ⟨hrc, hrm⟩, ⟨hlc, hcm⟩⟩ hr hR hRk (by simp) (fun hp => ?_) (fun i hi => ?_)⟩
    · simp only [List.length_map, List.length_range] at hp ⊢
      have hc0 := (hq 0 hp).1 0 (by omega)
      simp only [Nv.cs, List.getElem?_cons_zero] at hc0
      have hsp : a.spot = none := by simpa [Addr.add] using World.cell?_spot hc0
      obtain ⟨b, o, sp⟩ := a
      simp only at hsp
      subst hsp
      refine ⟨b, o, rfl, World.block_lt_of_cell? _ _ hc0, fun i hi => ?_⟩
      have h1 := (hq i hi).1
      simp only [add_plain, ← Nat.add_assoc] at h1
      exact ⟨by simpa using h1 0 (by omega), by simpa using h1 1 (by omega), by simpa using h1 2 (by omega), by simpa using h1 3 (by omega), by simpa using h1 4 (by omega), by simpa using h1 5 (by omega), by simpa using h1 6 (by omega), by simpa using h1 7 (by omega), by simpa using h1 8 (by omega)⟩
    · simp only [List.length_map, List.length_range] at hi
      simpa using (hq i hi).2
end
end Go.Proofs.YtpckbpimgoljoaaGreat
/- HELPERS: how many nodes a tree has; what a count down of them leaves. -/
namespace Go.Proofs.YtpckbpimgoljoaaGreat
open Go.RowKit
set_option linter.unusedVariables false
set_option linter.unusedSimpArgs false
mutual
/-- how many nodes -/
def Tn.nodes : Tn → Nat
  | .mk _ _ _ s _ _ _ _ _ => 1 + nodesL s
def nodesL : List Tn → Nat
  | [] => 0
  | t :: ts => t.nodes + nodesL ts
end
mutual
/-- how many one below another -/
def Tn.depth : Tn → Nat
  | .mk _ _ _ s _ _ _ _ _ => 1 + depthL s
def depthL : List Tn → Nat
  | [] => 0
  | t :: ts => max t.depth (depthL ts)
end
mutual
/-- what a count down leaves: it ends below nought -/
def Tn.gr : Tn → Int → Int
  | .mk _ _ _ s _ _ _ _ _, l => grL s (l - 1)
def grL : List Tn → Int → Int
  | [], l => l
  | t :: ts, l => if l < 0 then l else grL ts (t.gr l)
end
theorem grL_neg (ts : List Tn) (l : Int) (h : l < 0) : grL ts l = l := by cases ts <;> simp [grL, h]
mutual
theorem Tn.gr_spec : ∀ (t : Tn) (l : Int), 0 ≤ l → (t.gr l ≤ l - 1) ∧ (-1 ≤ t.gr l) ∧ (0 ≤ t.gr l ↔ (t.nodes : Int) ≤ l) ∧ (0 ≤ t.gr l → t.gr l = l - t.nodes)
  | .mk _ _ _ s _ _ _ _ _, l, h => by
    have := grL_spec s (l - 1) (by omega)
    simp only [Tn.gr, Tn.nodes]
    omega
theorem grL_spec : ∀ (ts : List Tn) (l : Int), -1 ≤ l → (grL ts l ≤ l) ∧ (-1 ≤ grL ts l) ∧ (0 ≤ grL ts l ↔ (nodesL ts : Int) ≤ l) ∧ (0 ≤ grL ts l → grL ts l = l - nodesL ts)
  | [], l, h => by simp [grL, nodesL]; omega
  | t :: ts, l, h => by
    simp only [grL, nodesL]
    by_cases hl : l < 0
    · simp only [hl, if_true]
      omega
    · have h1 := Tn.gr_spec t l (by omega)
      have h2 := grL_spec ts (t.gr l) (by omega)
      simp only [hl, if_false]
      omega
end
theorem grL_drop (ts : List Tn) (i : Nat) (hi : i < ts.length) (l : Int) (h : 0 ≤ l) : grL (ts.drop i) l = grL (ts.drop (i + 1)) (ts[i].gr l) := by
  rw [List.drop_eq_getElem_cons hi]
  simp only [grL]
  rw [if_neg (by omega)]
theorem Tn.pos (t : Tn) : 1 ≤ t.nodes := by cases t; simp only [Tn.nodes]; omega
end Go.Proofs.YtpckbpimgoljoaaGreat
/- HELPERS: objects in memory of the call's own: what a call leaves of them, and of all else. -/
namespace Go.Proofs.YtpckbpimgoljoaaGreat
open Go.RowKit
set_option linter.unusedVariables false
set_option linter.unusedSimpArgs false
theorem info3 : (Tryz.prog.info? 3).map (fun i => (i.zero, i.size, i.bytes)) = some (some (.int .i64 0), 1, 8) := by kernel_rfl
theorem ret_bool {a b : Bool} (h : a = b) : Ending.returned (.bool a) = .returned (.bool b) := by rw [h]
theorem ret_int {a b : Int} (h : a = b) : Ending.returned (.int .i64 a) = .returned (.int .i64 b) := by rw [h]
/-- what an append onto an owned row leaves: in its place, or in a new block and nothing else turned -/
def Moved (w w' : World) (v v' : Value) : Prop := (v'.ownBlock = v.ownBlock ∧ w.grownBy w' v.ownBlock) ∨ (v'.ownBlock = some w.heap.size ∧ w.grownBy w' none)
/-- what a call turned: the blocks of F alone; what stands for them now are they, or new ones -/
structure Chg (w w' : World) (F F' : List Nat) : Prop where
  os : w'.os = w.os
  tape : w'.tape = w.tape
  output : w'.output = w.output
  size : w.heap.size ≤ w'.heap.size
  block : ∀ k, k < w.heap.size → k ∉ F → w'.heap[k]? = w.heap[k]?
  new : ∀ k, k ∈ F' → k ∈ F ∨ w.heap.size ≤ k
theorem Chg.below {B : Nat} {w w' : World} {F F' : List Nat} (h : Chg w w' F F') (hB : B ≤ w.heap.size) (hF : ∀ k ∈ F, B ≤ k) : Below B w w' :=
  ⟨h.os, h.tape, h.output, h.size, fun k hk => h.block k (by omega) (fun hm => by have := hF k hm; omega)⟩
theorem Chg.low {B : Nat} {w w' : World} {F F' : List Nat} (h : Chg w w' F F') (hB : B ≤ w.heap.size) (hF : ∀ k ∈ F, B ≤ k) : ∀ k ∈ F', B ≤ k := fun k hk => by
  rcases h.new k hk with h | h
  · exact hF k h
  · omega
theorem Chg.row {w w' : World} {F F' : List Nat} {base e size n : Nat} {v : Value} {xs : List Value} (h : Chg w w' F F') (ho : w.ownsRow base e size v n xs) (hd : ∀ k, v.ownBlock = some k → k ∉ F) : w'.ownsRow base e size v n xs := by
  refine ⟨ho.1, ?_⟩
  rcases ho.2 with hn | ⟨g, cap, cur, rfl, hb, hgg, rest⟩
  · exact .inl hn
  · refine .inr ⟨g, cap, cur, rfl, hb, ?_, rest⟩
    rw [h.block g (Array.getElem?_eq_some_iff.1 hgg).1 (hd g rfl)]
    exact hgg
theorem Chg.of_below {w w' : World} {F : List Nat} (h : Below w.heap.size w w') : Chg w w' F F := ⟨h.os, h.tape, h.output, h.size, fun k hk _ => h.block k hk, fun k hk => .inl hk⟩
theorem Chg.set {w w' : World} {F F' : List Nat} (h : Chg w w' F F') {a : Addr} (u : Value) (ha : a.block ∈ F) : Chg w (w'.setCell a u) F F' :=
  ⟨h.os, h.tape, h.output, by have := h.size; simp [World.setCell]; exact this, fun k hk hn => (Below.heap_setCell _ _ _ _ (fun e => hn (by rw [e]; exact ha))).trans (h.block k hk hn), h.new⟩
theorem Chg.drew {w w' : World} {F F' : List Nat} (h : Chg w w' F F') : Chg w w'.drew F F' := ⟨h.os, h.tape, h.output, h.size, h.block, h.new⟩
theorem own_setCell {w : World} {base e size n : Nat} {v u : Value} {xs : List Value} {a : Addr} (h : w.ownsRow base e size v n xs) (hne : v.ownBlock ≠ some a.block) : (w.setCell a u).ownsRow base e size v n xs := by
  refine ⟨h.1, ?_⟩
  rcases h.2 with hn | ⟨g, cap, cur, rfl, hb, hgg, rest⟩
  · exact .inl hn
  · refine .inr ⟨g, cap, cur, rfl, hb, ?_, rest⟩
    rw [Below.heap_setCell _ _ _ _ (fun e => hne (by simp [Value.ownBlock, e]))]
    exact hgg
/-- two blocks of other types are two blocks -/
theorem own_ne {w : World} {base e size n g : Nat} {v : Value} {xs : List Value} {c : Array Value} {t : TypeId} {fr : Nat × Nat} (ho : w.ownsRow base e size v n xs) (hg : w.heap[g]? = some (.cells c t fr)) (ht : t ≠ e) : v.ownBlock ≠ some g := by
  intro h
  rcases ho.2 with ⟨rfl, _⟩ | ⟨b, cap, cur, rfl, hb, hgg, rest⟩
  · simp [Value.ownBlock] at h
  · simp [Value.ownBlock] at h
    subst h
    rw [hgg] at hg
    simp at hg
    exact ht hg.2.1.symm
end Go.Proofs.YtpckbpimgoljoaaGreat
/- HELPERS: a region that draws its order: what only reads is taken first, in the text's order, where the rest keeps what it reads, but for the last operation, which waits for all. -/

namespace Go.Proofs.YtpckbpimgoljoaaGreat
open Go Go.RowKit
set_option linter.unusedVariables false
section
variable {P : Program} {ops : Array Oper} {Q : Exit → Act → World → Prop} {md : Region.Mode} {S : World → Prop} {L : Nat}
def wpAnyX (P : Program) (md : Region.Mode) (ops : Array Oper) (Q : Exit → Act → World → Prop) (S : World → Prop) (L : Nat) : Nat → Array Bool → Act → World → Prop
  | 0, listed, a, w => Region.ready md ops listed = [] ∧ Q .normal a w
  | fuel + 1, listed, a, w =>
    (Region.ready md ops listed = [] → Q .normal a w) ∧
    ∀ i ∈ Region.ready md ops listed, wpOp P ops Q i (fun a' w' => (i ≠ L → S w') ∧ wpAnyX P md ops Q S L fuel (listed.setIfInBounds i true) a' w') a w
theorem wpAny_of_X : ∀ (fuel : Nat) (listed : Array Bool) (a : Act) (w : World), wpAnyX P md ops Q S L fuel listed a w → wpAny P md ops Q fuel listed a w
  | 0, _, _, _, h => h
  | fuel + 1, _, _, _, h => ⟨h.1, fun i hi => wpOp_mono (fun a' w' h' => wpAny_of_X fuel _ a' w' h'.2) (h.2 i hi)⟩
theorem wpAnyX_first {i : Nat} {oi : Oper} {v : Value} (hi : ops[i]? = some oi) (hsel : ∀ (j : Nat) (o : Oper) cs b, ops[j]? = some o → o.op ≠ .select cs b)
    (hQ : ∀ c a w, Q (.panic c) (a.put oi.dst v) w → Q (.panic c) a w) (hL : Region.waitsFor md ops L i = true) :
    ∀ (fuel : Nat) (listed : Array Bool) (a : Act) (w : World),
      (∀ j oj, ops[j]? = some oj → j ≠ i → listed.getD j true = false → (∀ e ∈ oj.after, Region.binds md e = true → e.on ≠ i) → oi.apart ops oj = true) →
      i ∈ Region.ready md ops listed → YieldsIf P ops S oi v a → S w →
      wpAnyX P md ops Q S L fuel (listed.setIfInBounds i true) (a.put oi.dst v) w → wpAnyX P md ops Q S L (fuel + 1) listed a w := by
  intro fuel
  induction fuel with
  | zero =>
    intro listed a w _ hr hy hS H
    refine ⟨fun h => (by rw [h] at hr; cases hr), fun j hj => ?_⟩
    by_cases hji : j = i
    · subst hji; exact hy.wpOp hi hS ⟨fun _ => hS, H⟩
    · have := ready_mono hj hji
      rw [H.1] at this
      cases this
  | succ fuel ih =>
    intro listed a w hfree hr hy hS H
    refine ⟨fun h => (by rw [h] at hr; cases hr), fun j hj => ?_⟩
    by_cases hji : j = i
    · subst hji; exact hy.wpOp hi hS ⟨fun _ => hS, H⟩
    · have h1 := H.2 j (ready_mono hj hji)
      obtain ⟨hjun, oj, hoj, hall⟩ := mem_ready.1 hj
      have hnot : ∀ e ∈ oj.after, Region.binds md e = true → e.on ≠ i := fun e he hb heq => by
        have h1 := hall e he hb
        have h0 := (mem_ready.1 hr).1
        rw [heq] at h1
        rcases Nat.lt_or_ge i listed.size with h' | h'
        · simp [h'] at h0 h1; rw [h0] at h1; cases h1
        · simp [Array.getElem?_eq_none h'] at h1
      have hjL : j ≠ L := fun e => by
        subst e
        obtain ⟨o', ho', e, he, hb, hon⟩ := Region.waitsFor_spec hL
        have : o' = oj := Option.some.inj (ho'.symm.trans hoj)
        subst this
        exact hnot e he hb hon
      have h2 := wpOp_putIf hoj (hfree j oj hoj hji hjun hnot) (fun cs b => hsel i oi cs b hi) (fun cs b => hsel j oj cs b hoj) hQ hy h1
      have hfree' : ∀ k ok, ops[k]? = some ok → k ≠ i → (listed.setIfInBounds j true).getD k true = false →
          (∀ e ∈ ok.after, Region.binds md e = true → e.on ≠ i) → oi.apart ops ok = true := fun k ok hk hki hun hno => by
        refine hfree k ok hk hki ?_ hno
        by_cases hjk : j = k
        · subst hjk; exact hjun
        · rw [getD_set_ne true hjk] at hun; exact hun
      refine wpOp_mono (fun a' w' h3 => ⟨fun _ => h3.2.1 hjL, ih (listed.setIfInBounds j true) a' w' hfree' (ready_mono hr (Ne.symm hji)) h3.1 (h3.2.1 hjL) ?_⟩) h2
      rw [Array.setIfInBounds_comm _ _ hji]
      exact h3.2.2
/-- the head: each operation yields, in every world that meets S -/
def wpLex (P : Program) (ops : Array Oper) (Q : Exit → Act → World → Prop) (S : World → Prop) (K : Act → Prop) : List Oper → Act → Prop
  | [], a => K a
  | o :: l, a => ∃ v, YieldsIf P ops S o v a ∧ (∀ c a w, Q (.panic c) (a.put o.dst v) w → Q (.panic c) a w) ∧ wpLex P ops Q S K l (a.put o.dst v)
theorem lex_cons {K : Act → Prop} {o : Oper} {l : List Oper} {a : Act} (v : Value) (hw : Region.wanted o (yielded ops a.tmps) = true) (hv : ∀ w, S w → (execOp a.eval o).run P w = .ok (.value v) w)
    (hQ : ∀ c a w, Q (.panic c) (a.put o.dst v) w → Q (.panic c) a w) (h : wpLex P ops Q S K l (a.put o.dst v)) : wpLex P ops Q S K (o :: l) a := ⟨v, .inl ⟨hw, hv⟩, hQ, h⟩
theorem lex_nil {K : Act → Prop} {a : Act} (h : K a) : wpLex P ops Q S K [] a := h
/-- in the text's order each may come up, is apart from all others, and the last one waits for it -/
def lexB (md : Region.Mode) (ops : Array Oper) (L : Nat) : Nat → Nat → Array Bool → Bool
  | 0, _, _ => true
  | f + 1, k, listed => (Region.ready md ops listed).contains k && Region.free md ops listed k && Region.waitsFor md ops L k && lexB md ops L f (k + 1) (listed.setIfInBounds k true)
def marks : Nat → Nat → Array Bool → Array Bool
  | 0, _, listed => listed
  | f + 1, k, listed => marks f (k + 1) (listed.setIfInBounds k true)
theorem wpAnyX_lex {g : Nat} {w : World} (hsel : Region.noSelect ops = true) (hS : S w) :
    ∀ (l : List Oper) (k : Nat) (listed : Array Bool) (a : Act), (∀ j, j < l.length → l[j]? = ops[k + j]?) → lexB md ops L l.length k listed = true →
    wpLex P ops Q S (fun a' => wpAnyX P md ops Q S L g (marks l.length k listed) a' w) l a → wpAnyX P md ops Q S L (l.length + g) listed a w
  | [], k, listed, a, _, _, h => by simpa [marks, wpLex] using h
  | o :: l, k, listed, a, hl, hB, h => by
    have h0 : ops[k]? = some o := by simpa using (hl 0 (by simp)).symm
    simp only [List.length_cons, lexB, Bool.and_eq_true] at hB
    obtain ⟨⟨⟨hr, hf⟩, hL⟩, hB'⟩ := hB
    obtain ⟨v, hy, hQ, hK⟩ := h
    rw [show (o :: l).length + g = (l.length + g) + 1 by simp only [List.length_cons]; omega]
    exact wpAnyX_first h0 (Region.noSelect_spec hsel) hQ hL (l.length + g) listed a w (Region.free_spec h0 hf) (by simpa using hr) hy hS
      (wpAnyX_lex hsel hS l (k + 1) _ _ (fun j hj => by have := hl (j + 1) (by simp; omega); simpa [Nat.add_assoc, Nat.add_comm 1 j] using this) hB' hK)
/-- the tail: one operation behind the other -/
def wpTail (P : Program) (ops : Array Oper) (Q : Exit → Act → World → Prop) (S : World → Prop) (L : Nat) : List Oper → Nat → Act → World → Prop
  | [], _, a, w => Q .normal a w
  | o :: l, k, a, w => ∀ K : Act → World → Prop, Hid (∀ a' w', (k ≠ L → S w') → wpTail P ops Q S L l (k + 1) a' w' → K a' w') → if Region.wanted o (yielded ops a.tmps) = true then Oper.wp P o a w K Q else K (a.put o.dst undef) w
theorem tail_cons {o : Oper} {l : List Oper} {k : Nat} {a : Act} {w : World} (h : ∀ K : Act → World → Prop, Hid (∀ a' w', (k ≠ L → S w') → wpTail P ops Q S L l (k + 1) a' w' → K a' w') → if Region.wanted o (yielded ops a.tmps) = true then Oper.wp P o a w K Q else K (a.put o.dst undef) w) : wpTail P ops Q S L (o :: l) k a w := h
theorem tail_nil {k : Nat} {a : Act} {w : World} (h : Q .normal a w) : wpTail P ops Q S L [] k a w := h
theorem wpAnyX_of_tail : ∀ (l : List Oper) (k : Nat) (listed : Array Bool) (a : Act) (w : World), (∀ j, l[j]? = ops[k + j]?) →
    Region.seqB md ops l.length k listed = true → wpTail P ops Q S L l k a w → wpAnyX P md ops Q S L l.length listed a w
  | [], _, _, _, _, _, hB, h => ⟨by simpa [Region.seqB] using hB, h⟩
  | o :: l, k, listed, a, w, hl, hB, h => by
    have h0 : ops[k]? = some o := by simpa using (hl 0).symm
    simp only [List.length_cons, Region.seqB, Bool.and_eq_true, decide_eq_true_eq] at hB
    refine ⟨fun h1 => absurd (hB.1.symm.trans h1) (by simp), fun j hj => ?_⟩
    rw [hB.1] at hj
    have : j = k := by simpa using hj
    subst this
    have h1 := h (fun a' w' => (j ≠ L → S w') ∧ wpAnyX P md ops Q S L l.length (listed.setIfInBounds j true) a' w') ((fun a' w' h1 h2 => ⟨h1, wpAnyX_of_tail l (j + 1) _ a' w' (fun i => by have := hl (i + 1); simpa [Nat.add_assoc, Nat.add_comm 1 i] using this) hB.2 h2⟩))
    unfold wpOp
    simp only [h0]
    split
    · rename_i hw; rw [if_pos hw] at h1; exact .inl h1
    · rename_i hw; rw [if_neg hw] at h1; exact h1
theorem wp_region_lex {id : Nat} {a : Act} {w : World} {l : List Oper} (n L : Nat) (S : World → Prop) (hm : P.follows .mixedOrders = true) (hsel : Region.noSelect l.toArray = true) (hn : n ≤ l.length) (hB : lexB .any l.toArray L n 0 (Array.replicate l.length false) = true)
    (hT : Region.seqB .any l.toArray (l.length - n) n (marks n 0 (Array.replicate l.length false)) = true) (hS : S w.drew)
    (h : wpLex P l.toArray Q S (fun a' => wpTail P l.toArray Q S L (l.drop n) n a' w.drew) (l.take n) a) : (Code.region id l.toArray true).wp P Q a w := by
  have htl : (l.take n).length = n := by simp; omega
  have hdl : (l.drop n).length = l.length - n := by simp
  have hlex : ∀ (l' : List Oper) (a : Act), wpLex P l.toArray Q S (fun a' => wpTail P l.toArray Q S L (l.drop n) n a' w.drew) l' a → wpLex P l.toArray Q S (fun a' => wpAnyX P .any l.toArray Q S L (l.length - n) (marks n 0 (Array.replicate l.length false)) a' w.drew) l' a := by
    intro l'
    induction l' with
    | nil => intro a h; have := wpAnyX_of_tail (md := .any) (ops := l.toArray) (Q := Q) (S := S) (L := L) (P := P) (l.drop n) n (marks n 0 (Array.replicate l.length false)) a w.drew (fun j => by simp [List.getElem?_drop]) (by rw [hdl]; exact hT) h; rw [hdl] at this; exact this
    | cons o l' ih => rintro a ⟨v, h1, h2, h3⟩; exact ⟨v, h1, h2, ih _ h3⟩
  have H := wpAnyX_lex (md := .any) (L := L) (Q := Q) (g := l.length - n) (P := P) (w := w.drew) hsel hS (l.take n) 0 (Array.replicate l.length false) a (fun j hj => by
    rw [htl] at hj
    simp [hj]) (by rw [htl]; exact hB) (by rw [htl]; exact hlex _ _ h)
  rw [htl, show n + (l.length - n) = l.length by omega] at H
  exact wp_region_any hm (by simpa using wpAny_of_X _ _ _ _ H)
end
end Go.Proofs.YtpckbpimgoljoaaGreat
namespace Go.Lk
open Go.RowKit
set_option linter.unusedVariables false
set_option linter.unusedSimpArgs false
def back : Nat → Nat
  | 0 => 2
  | 1 => 1
  | 2 => 8
  | 3 => 4
  | 4 => 16
  | _ => 32
def bk : Nat → Nat → Nat
  | 0, _ => 0
  | k + 1, m => if m.testBit k then bk k m ||| back k else bk k m
def put (k : Nat) (x : Int) : Int := x - x % 64 + (bk k (x % 64).toNat : Nat)
end Go.Lk
