/- HELPERS: rows of threads in memory; a thread is put. -/
import Derived.Test.YtpckbpimgoljoaaGreatZA
import Derived.Laws.BitsLemmas
import Derived.WalkLawsBesides
import Derived.Lib.SliceRun
import Derived.Deep.OwnRows
import Derived.Test.YtpckbpimgoljoaaGreatZC
import Derived.Test.YtpckbpimgoljoaaGreatZD
import Derived.Laws.EntriesVeiled
import Derived.Deep.Cut
import Derived.Deep.CutRange
import Derived.Test.YtpckbpimgoljoaaGreatZB
import Derived.Laws.Rows
import Derived.LoopN
import Derived.Laws.IdiomCopy
import Derived.Deep.Onto
import Derived.Deep.RegionHeld3
/- HELPERS: sets of numbers: a bit a number, and the row of those that came. -/
namespace Go.Proofs.YtpckbpimgoljoaaGreat
open Go.RowKit
set_option linter.unusedVariables false
set_option linter.unusedSimpArgs false
theorem u64_in (n : Nat) (h : n < 2 ^ 64) : IntKind.u64.wrap (n : Int) = (n : Int) := by
  simp [IntKind.wrap, IntKind.bits, IntKind.signed]
  omega
theorem u64_in' (n : Int) (h0 : 0 ≤ n) (h : n < 2 ^ 64) : IntKind.u64.wrap n = n := by
  simp [IntKind.wrap, IntKind.bits, IntKind.signed]
  omega
theorem pow_lt (i : Nat) : 2 ^ (i % 64) < 2 ^ 64 := Nat.pow_lt_pow_right (by decide) (Nat.mod_lt _ (by decide))
abbrev U64 (M : List Nat) : List Value := M.map (fun (x : Nat) => Value.int .u64 (x : Int))
theorem getD_in (M : List Nat) {j : Nat} (hj : j < M.length) : M.getD j 0 = M[j] := by simp [List.getD, hj]
theorem and_pow (a k : Nat) : a &&& 2 ^ k = if a.testBit k then 2 ^ k else 0 := by
  apply Nat.eq_of_testBit_eq
  intro j
  rw [Nat.testBit_and, Nat.testBit_two_pow]
  by_cases hj : k = j
  · subst hj
    by_cases h : a.testBit k = true
    · simp [h, Nat.testBit_two_pow]
    · simp [h]
  · by_cases h : a.testBit k = true
    · simp [h, Nat.testBit_two_pow, hj]
    · simp [h, hj]
/-- the bits of M tell of the numbers below n which are in l -/
structure Marks (n : Nat) (M : List Nat) (l : List Int) : Prop where
  len : M.length = (n + 63) / 64
  fits : ∀ x ∈ M, x < 2 ^ 64
  bit : ∀ i, i < n → (M.getD (i / 64) 0).testBit (i % 64) = decide ((i : Int) ∈ l)
  rng : ∀ x ∈ l, 0 ≤ x ∧ x < n
theorem Marks.get {n : Nat} {M : List Nat} {l : List Int} (h : Marks n M l) (j : Nat) : M.getD j 0 < 2 ^ 64 := by
  by_cases hj : j < M.length
  · rw [getD_in M hj]
    exact h.fits _ (List.getElem_mem hj)
  · rw [show M.getD j 0 = 0 by simp [List.getD, List.getElem?_eq_none (Nat.le_of_not_lt hj)]]
    decide
theorem Marks.has {n i : Nat} {M : List Nat} {l : List Int} (h : Marks n M l) (hi : i < n) :
    (bits .and .u64 ((M.getD (i / 64) 0 : Nat) : Int) ((2 ^ (i % 64) : Nat) : Int) != 0) = decide ((i : Int) ∈ l) := by
  rw [(bits_nat .u64 64 (by decide) u64_in' _ _ (h.get _) (pow_lt i)).1, ← h.bit i hi]
  rw [and_pow]
  have hp : 0 < 2 ^ (i % 64) := Nat.pow_pos (by decide)
  by_cases hb : (M.getD (i / 64) 0).testBit (i % 64) = true
  · rw [if_pos hb, hb]
    have : ((2 ^ (i % 64) : Nat) : Int) ≠ 0 := by omega
    exact bne_iff_ne.2 this
  · rw [if_neg hb]
    simp only [Bool.not_eq_true] at hb
    rw [hb]
    rfl
theorem Marks.add {n i : Nat} {M : List Nat} {l : List Int} (h : Marks n M l) (hi : i < n) :
    Marks n (M.set (i / 64) (M.getD (i / 64) 0 ||| 2 ^ (i % 64))) (l ++ [(i : Int)]) := by
  have hq : i / 64 < M.length := by rw [h.len]; omega
  refine ⟨by rw [List.length_set]; exact h.len, fun x hx => ?_, fun k hk => ?_, fun x hx => ?_⟩
  · rcases List.mem_or_eq_of_mem_set hx with hx | rfl
    · exact h.fits x hx
    · exact Nat.or_lt_two_pow (h.get _) (pow_lt i)
  · have e := h.bit k hk
    by_cases hkq : k / 64 = i / 64
    · rw [hkq, getD_in _ (by rw [List.length_set]; exact hq), List.getElem_set_self, Nat.testBit_or, ← hkq, e, Nat.testBit_two_pow]
      rw [Bool.eq_iff_iff]
      simp
      constructor
      · rintro (h | h)
        · exact .inl h
        · right; omega
      · rintro (h | h)
        · exact .inl h
        · right; omega
    · have hne : (k : Int) ≠ (i : Int) := fun h => hkq (by rw [show k = i by omega])
      rw [show (M.set (i / 64) (M.getD (i / 64) 0 ||| 2 ^ (i % 64))).getD (k / 64) 0 = M.getD (k / 64) 0 by
        simp [List.getD, List.getElem?_set, show ¬ i / 64 = k / 64 by omega], e]
      simp [hne]
  · rcases List.mem_append.1 hx with hx | hx
    · exact h.rng x hx
    · simp at hx; omega
theorem Marks.none (n : Nat) : Marks n (List.replicate ((n + 63) / 64) 0) [] := by
  refine ⟨by simp, fun x hx => ?_, fun i hi => ?_, fun x hx => by cases hx⟩
  · rw [List.eq_of_mem_replicate hx]; decide
  · have : (List.replicate ((n + 63) / 64) 0).getD (i / 64) 0 = 0 := by
      simp only [List.getD, List.getElem?_replicate]
      split <;> rfl
    rw [this]
    simp
theorem info68 : (Tryz.prog.info? 131).map (fun i => (i.zero, i.size, i.bytes)) = some (some (.int .u64 0), 1, 8) := by kernel_rfl
end Go.Proofs.YtpckbpimgoljoaaGreat
/- HELPERS: the contracts of the methods of a set. -/
namespace Go.Proofs.YtpckbpimgoljoaaGreat
open Go.RowKit
set_option linter.unusedVariables false
set_option linter.unusedSimpArgs false
theorem Chg.drewN {w w' : World} {F F' : List Nat} (h : Chg w w' F F') (k : Nat) : Chg w (w'.drewN k) F F' := ⟨h.os, h.tape, h.output, h.size, h.block, h.new⟩
end Go.Proofs.YtpckbpimgoljoaaGreat
/- HELPERS: a new set, a cleared one; the call at the head of each law. -/
namespace Go.Proofs.YtpckbpimgoljoaaGreat
open Go.RowKit
set_option linter.unusedVariables false
set_option linter.unusedSimpArgs false
end Go.Proofs.YtpckbpimgoljoaaGreat
/- HELPERS: the machine in memory; its small questions. -/
namespace Go.Proofs.YtpckbpimgoljoaaGreat
open Go.RowKit Go.Lk
set_option linter.unusedVariables false
set_option linter.unusedSimpArgs false
/-- what the machine's cells hold -/
structure Mv where
  ad : Option Addr
  n : Nat
  c : Nat
  S : Nat
  K : Nat
  tad : Option Addr
  tn : Nat
  tc : Nat
  j : Nat
  sb : Nat
  bits : Int
  z1 : Option Addr
  n1 : Nat
  c1 : Nat
  k1 : Nat
  z2 : Option Addr
  n2 : Nat
  c2 : Nat
  k2 : Nat
  ub : Nat
  uc : Nat
  fok : Bool
  f1 : Option Addr
  f2 : Nat
  f3 : Nat
  fw : Int
  fs : Nat
end Go.Proofs.YtpckbpimgoljoaaGreat
/- HELPERS: depth first in memory: the machine's cells, its map, its stack. -/
namespace Go.Proofs.YtpckbpimgoljoaaGreat
open Go.RowKit Go.Lk
set_option linter.unusedVariables false
set_option linter.unusedSimpArgs false
def Tk.cs : Tk → List Value
  | .go i j => [.int .i32 (i : Int), .int .i32 (j : Int)]
  | .un a o => [.int .i32 (-1 - (a : Int)), .int .i32 o]
theorem Tk.cs_len (t : Tk) : t.cs.length = 2 := by cases t <;> rfl
theorem Tk.one (t : Tk) : ∀ u ∈ t.cs, u.oneCell' = true := by
  cases t <;> (intro u hu; simp [Tk.cs] at hu; rcases hu with rfl | rfl <;> rfl)
/-- the stack's cells, its top last -/
def stk : List Tk → List Value
  | [] => []
  | t :: st => stk st ++ t.cs
theorem stk_len (st : List Tk) : (stk st).length = st.length * 2 := by
  induction st with
  | nil => rfl
  | cons t st ih => rw [stk, List.length_append, ih, Tk.cs_len, List.length_cons]; omega
theorem stk_top (t : Tk) (st : List Tk) (k : Nat) (hk : k < 2) : (stk (t :: st))[st.length * 2 + k]? = t.cs[k]? := by
  rw [stk, List.getElem?_append_right (by rw [stk_len]; omega), stk_len]
  congr 1
  omega
/-- what of the machine's cells stays -/
structure Bk where
  ad : Option Addr
  n : Nat
  c : Nat
  S : Nat
  K : Nat
  tad : Option Addr
  tn : Nat
  tc : Nat
  ub : Nat
  a : Nat
/-- what of them turns: the words, the stack, what is found -/
structure Bv where
  w1 : Option Addr
  w2 : Nat
  w3 : Nat
  z1 : Option Addr
  z2 : Nat
  z3 : Nat
  most : Nat
  fok : Bool
  f1 : Option Addr
  f2 : Nat
  f3 : Nat
  fw : Int
  fs : Nat
abbrev bcs (C : Bk) (V : Bv) : Array Value := #[.slice C.ad C.n C.c, .int .i64 (C.S : Int), .int .i64 (C.K : Int), .slice C.tad C.tn C.tc, .slice (some ⟨C.ub, 0, none⟩) C.K C.K, .int .i64 (C.n : Int), .int .i64 (C.a : Int), .slice V.w1 V.w2 V.w3, .slice V.z1 V.z2 V.z3, .int .i64 (V.most : Int), .bool V.fok, .slice V.f1 V.f2 V.f3, .int .i64 V.fw, .int .i64 (V.fs : Int)]
def BM (w : World) (b : Nat) (C : Bk) (V : Bv) : Prop := w.heap[b]? = some (.cells (bcs C V) 67 (0, 0))
theorem BM.c {w : World} {b : Nat} {C : Bk} {V : Bv} (h : BM w b C V) (k : Nat) : w.cell? ⟨b, k, none⟩ = (bcs C V)[k]? := Joins.cell_of_block h k
theorem BM.u {w : World} {b : Nat} {C : Bk} {V : Bv} (h : BM w b C V) (k : Nat) : w.frozen? ⟨b, k, none⟩ = false := Joins.unfrozen_of_block h k
theorem BM.lt {w : World} {b : Nat} {C : Bk} {V : Bv} (h : BM w b C V) : b < w.heap.size := (Array.getElem?_eq_some_iff.1 h).1
theorem BM.kept {w w' : World} {b : Nat} {C : Bk} {V : Bv} (h : BM w b C V) (hk : w'.heap[b]? = w.heap[b]?) : BM w' b C V := hk.trans h
theorem BM.upd {w : World} {b : Nat} {C : Bk} {V V' : Bv} (h : BM w b C V) (k : Nat) (v : Value) (e : (bcs C V).setIfInBounds k v = bcs C V') : BM (w.setCell ⟨b, k, none⟩ v) b C V' := by
  have := Joins.block_setCell (i := k) h v
  rw [e] at this
  exact this
/-- the words tell which pairs were met -/
structure Bits (n a len : Nat) (m : List Pt) (W : List Nat) : Prop where
  sml : W.length ≤ 300000
  fits : ∀ x ∈ W, x < 2 ^ 64
  bit : ∀ i j, i < n → a ≤ j → j ≤ len → (W.getD (((j - a) * n + i) / 64) 0).testBit (((j - a) * n + i) % 64) = decide ((i, j) ∈ m)
theorem getD_fit {W : List Nat} (h : ∀ x ∈ W, x < 2 ^ 64) (j : Nat) : W.getD j 0 < 2 ^ 64 := by
  by_cases hj : j < W.length
  · rw [getD_in W hj]
    exact h _ (List.getElem_mem hj)
  · rw [show W.getD j 0 = 0 by simp [List.getD, List.getElem?_eq_none (Nat.le_of_not_lt hj)]]
    decide
theorem Bits.more {n a len : Nat} {m : List Pt} {W : List Nat} (h : Bits n a len m W) (k : Nat) (hk : W.length + k ≤ 300000) : Bits n a len m (W ++ List.replicate k 0) := by
  refine ⟨by simpa using hk, fun x hx => ?_, fun i j hi ha hj => ?_⟩
  · rcases List.mem_append.1 hx with hx | hx
    · exact h.fits x hx
    · rw [List.eq_of_mem_replicate hx]; decide
  · rw [← h.bit i j hi ha hj]
    congr 1
    simp only [List.getD_eq_getElem?_getD, List.getElem?_append]
    split
    · rfl
    · rename_i hl
      rw [List.getElem?_eq_none (by omega : W.length ≤ _), List.getElem?_replicate]
      split <;> rfl
theorem Bits.has {n a len i j : Nat} {m : List Pt} {W : List Nat} (h : Bits n a len m W) (hi : i < n) (ha : a ≤ j) (hj : j ≤ len) {k : Nat} (hk : k = (j - a) * n + i) :
    (bits .and .u64 ((W.getD (k / 64) 0 : Nat) : Int) ((2 ^ (k % 64) : Nat) : Int) != 0) = decide ((i, j) ∈ m) := by
  rw [(bits_nat .u64 64 (by decide) u64_in' _ _ (getD_fit h.fits _) (pow_lt k)).1, ← h.bit i j hi ha hj, ← hk, and_pow]
  have hp : 0 < 2 ^ (k % 64) := Nat.pow_pos (by decide)
  by_cases hb : (W.getD (k / 64) 0).testBit (k % 64) = true
  · rw [if_pos hb, hb]
    have : ((2 ^ (k % 64) : Nat) : Int) ≠ 0 := by omega
    exact bne_iff_ne.2 this
  · rw [if_neg hb]
    simp only [Bool.not_eq_true] at hb
    rw [hb]
    rfl
theorem Bits.add {n a len i j : Nat} {m : List Pt} {W : List Nat} (h : Bits n a len m W) (hi : i < n) (ha : a ≤ j) (hj : j ≤ len) {k : Nat} (hk : k = (j - a) * n + i) (hq : k / 64 < W.length) :
    Bits n a len (m ++ [(i, j)]) (W.set (k / 64) (W.getD (k / 64) 0 ||| 2 ^ (k % 64))) := by
  refine ⟨by rw [List.length_set]; exact h.sml, fun x hx => ?_, fun x y hx hay hy => ?_⟩
  · rcases List.mem_or_eq_of_mem_set hx with hx | rfl
    · exact h.fits x hx
    · exact Nat.or_lt_two_pow (getD_fit h.fits _) (pow_lt k)
  · have e := h.bit x y hx hay hy
    obtain ⟨k2, hk2⟩ : ∃ k2, k2 = (y - a) * n + x := ⟨_, rfl⟩
    rw [← hk2] at e ⊢
    have hiff : k2 = k ↔ (x = i ∧ y = j) := by
      constructor
      · intro e'
        have := enc_inj hx hi (show (y - a) * n + x = (j - a) * n + i by omega)
        exact ⟨this.2, by omega⟩
      · rintro ⟨rfl, rfl⟩; omega
    by_cases hkq : k2 / 64 = k / 64
    · rw [hkq, getD_in _ (by rw [List.length_set]; exact hq), List.getElem_set_self, Nat.testBit_or, ← hkq, e, Nat.testBit_two_pow]
      rw [Bool.eq_iff_iff]
      simp only [Bool.or_eq_true, decide_eq_true_eq, List.mem_append, List.mem_singleton, Prod.mk.injEq]
      rw [← hiff]
      constructor
      · rintro (h | h)
        · exact .inl h
        · right; omega
      · rintro (h | h)
        · exact .inl h
        · right; omega
    · have hne : k2 ≠ k := fun h => hkq (by rw [h])
      rw [show (W.set (k / 64) (W.getD (k / 64) 0 ||| 2 ^ (k % 64))).getD (k2 / 64) 0 = W.getD (k2 / 64) 0 by
        simp [List.getD, List.getElem?_set, show ¬ k / 64 = k2 / 64 by omega], e]
      have : ¬ (x = i ∧ y = j) := fun h => hne (hiff.2 h)
      simp [this]
theorem Bits.nil (n a len : Nat) : Bits n a len [] [] := ⟨by simp, by simp, fun i j _ _ _ => by simp⟩
/-- what is asked of a program, a text and a place, and told by the machine's cells -/
structure BC (l : List In) (tx : List Int) (C : Bk) : Prop where
  len : C.n = l.length
  may : mayB l (C.S : Int) (C.K : Int) = true
  tn : C.tn = tx.length
  tl : C.tn ≤ 4194304
  at_ : C.a ≤ C.tn
  big : C.n * (C.tn - C.a + 1) ≤ 16777216
/-- the machine while it searches -/
structure BI (w : World) (B b : Nat) (l : List In) (tx : List Int) (C : Bk) (V : Bv) (st : List Tk) (m : List Pt) (cp : List Int) (W : List Nat) : Prop where
  mb : BM w b C V
  lo : B ≤ b
  pi : PI w B C.ad C.n l
  tx : TextAt B w C.tad C.tn tx
  cap : w.ownsRow B 3 1 (.slice (some ⟨C.ub, 0, none⟩) C.K C.K) C.K (I64 cp)
  row : w.ownsRow B 105 2 (.slice V.z1 V.z2 V.z3) V.z2 (stk st)
  wd : w.ownsRow B 131 1 (.slice V.w1 V.w2 V.w3) V.w2 (U64 W)
  bit : Bits C.n C.a C.tn m W
  zl : V.z2 = st.length
  wl : V.w2 = W.length
  okm : OkP C.n C.a C.tn m
  okt : ∀ t ∈ st, t.ok C.n C.a C.tn C.K
  okc : okCZ C.tn cp
  stl : st.length ≤ m.length + 1
section
variable {w w' : World} {B b : Nat} {l : List In} {tx : List Int} {C : Bk} {V V' : Bv} {st : List Tk} {m : List Pt} {cp : List Int} {W : List Nat}
theorem BI.size (h : BI w B b l tx C V st m cp W) : B ≤ w.heap.size := by have := h.lo; have := h.mb.lt; omega
/-- what a machine leaves: nothing it lies in has turned, nor what lies below -/
theorem BI.keep (h : BI w B b l tx C V st m cp W) (hb : Below B w w') (h1 : w'.heap[b]? = w.heap[b]?) (h2 : w'.heap[C.ub]? = w.heap[C.ub]?) (h3 : ∀ k, (Value.slice V.z1 V.z2 V.z3).ownBlock = some k → w'.heap[k]? = w.heap[k]?) (h4 : ∀ k, (Value.slice V.w1 V.w2 V.w3).ownBlock = some k → w'.heap[k]? = w.heap[k]?) : BI w' B b l tx C V st m cp W :=
  ⟨h.mb.kept h1, h.lo, h.pi.kept hb (Nat.le_refl _), h.tx.below hb, row_kept h.cap (fun k hk => by simp [Value.ownBlock] at hk; subst hk; exact h2), row_kept h.row h3, row_kept h.wd h4, h.bit, h.zl, h.wl, h.okm, h.okt, h.okc, h.stl⟩
theorem BI.below (h : BI w B b l tx C V st m cp W) (hb : Below w.heap.size w w') : BI w' B b l tx C V st m cp W :=
  h.keep (Joins.below_le hb h.size) (hb.block _ h.mb.lt) (hb.block _ (h.cap.lt _ rfl).2) (fun k hk => hb.block _ (h.row.lt k hk).2) (fun k hk => hb.block _ (h.wd.lt k hk).2)
theorem BI.ub_ne (h : BI w B b l tx C V st m cp W) : C.ub ≠ b := fun e => own_ne h.cap h.mb (by decide) (by rw [e]; rfl)
theorem BI.cap_block (h : BI w B b l tx C V st m cp W) : ∃ arr, w.heap[C.ub]? = some (.cells arr 3 (0, 0)) := by
  rcases h.cap.2 with ⟨e', _⟩ | ⟨g, cap, cur, e', _, hg, _⟩
  · cases e'
  · simp only [Value.slice.injEq, Option.some.injEq, Addr.mk.injEq] at e'
    obtain ⟨⟨rfl, _⟩, _⟩ := e'
    exact ⟨_, hg⟩
theorem BI.row_ub (h : BI w B b l tx C V st m cp W) : (Value.slice V.z1 V.z2 V.z3).ownBlock ≠ some C.ub := by
  obtain ⟨arr, ha⟩ := h.cap_block
  exact own_ne h.row ha (by decide)
theorem BI.wd_ub (h : BI w B b l tx C V st m cp W) : (Value.slice V.w1 V.w2 V.w3).ownBlock ≠ some C.ub := by
  obtain ⟨arr, ha⟩ := h.cap_block
  exact own_ne h.wd ha (by decide)
theorem BI.row_b (h : BI w B b l tx C V st m cp W) : (Value.slice V.z1 V.z2 V.z3).ownBlock ≠ some b := own_ne h.row h.mb (by decide)
theorem BI.wd_b (h : BI w B b l tx C V st m cp W) : (Value.slice V.w1 V.w2 V.w3).ownBlock ≠ some b := own_ne h.wd h.mb (by decide)
theorem own_at {w : World} {base e size n : Nat} {v : Value} {xs : List Value} (h : w.ownsRow base e size v n xs) {k : Nat} (hk : v.ownBlock = some k) : ∃ arr, w.heap[k]? = some (.cells arr e (0, 0)) := by
  rcases h.2 with ⟨e', _⟩ | ⟨g, cap, cur, e', _, hg, _⟩
  · subst e'; simp [Value.ownBlock] at hk
  · subst e'
    simp [Value.ownBlock] at hk
    subst hk
    exact ⟨_, hg⟩
theorem own_apart {w : World} {base e size n base' e' size' n' : Nat} {v v' : Value} {xs xs' : List Value} (h : w.ownsRow base e size v n xs) (h' : w.ownsRow base' e' size' v' n' xs') (hne : e ≠ e') {k : Nat} (hk : v.ownBlock = some k) : v'.ownBlock ≠ some k := by
  obtain ⟨arr, ha⟩ := own_at h hk
  exact own_ne h' ha hne
/-- the machine's own cells are written -/
theorem BI.put (h : BI w B b l tx C V st m cp W) (k : Nat) (v : Value) (e : (bcs C V).setIfInBounds k v = bcs C V') (e1 : V'.z1 = V.z1 ∧ V'.z2 = V.z2 ∧ V'.z3 = V.z3) (e2 : V'.w1 = V.w1 ∧ V'.w2 = V.w2 ∧ V'.w3 = V.w3) :
    BI (w.setCell ⟨b, k, none⟩ v) B b l tx C V' st m cp W ∧ Below B w (w.setCell ⟨b, k, none⟩ v) := by
  have hb : Below B w (w.setCell ⟨b, k, none⟩ v) := (Below.refl B w).setCell (p := ⟨b, k, none⟩) h.lo _
  have ho : ∀ q, q ≠ b → (w.setCell ⟨b, k, none⟩ v).heap[q]? = w.heap[q]? := fun q hq => Below.heap_setCell _ _ _ _ hq
  refine ⟨⟨h.mb.upd k v e, h.lo, h.pi.kept hb (Nat.le_refl _), h.tx.below hb, row_kept h.cap (fun q hq => ho q (fun e => own_ne h.cap h.mb (by decide) (by rw [← e]; exact hq))), ?_, ?_, h.bit, ?_, ?_, h.okm, h.okt, h.okc, h.stl⟩, hb⟩
  · rw [e1.1, e1.2.1, e1.2.2]
    exact row_kept h.row (fun q hq => ho q (fun e => h.row_b (by rw [← e]; exact hq)))
  · rw [e2.1, e2.2.1, e2.2.2]
    exact row_kept h.wd (fun q hq => ho q (fun e => h.wd_b (by rw [← e]; exact hq)))
  · rw [e1.2.1]; exact h.zl
  · rw [e2.2.1]; exact h.wl
/-- a capture is written -/
theorem BI.setc (h : BI w B b l tx C V st m cp W) (k : Nat) {v : Int} (hv : -1 ≤ v ∧ v ≤ (C.tn : Int)) : BI (w.setCell ⟨C.ub, k, none⟩ (.int .i64 v)) B b l tx C V st m (cp.set k v) W ∧ Below B w (w.setCell ⟨C.ub, k, none⟩ (.int .i64 v)) := by
  have hgc := h.cap.lt C.ub rfl
  have hb : Below B w (w.setCell ⟨C.ub, k, none⟩ (.int .i64 v)) := (Below.refl B w).setCell (p := ⟨C.ub, k, none⟩) hgc.1 _
  have ho : ∀ q, q ≠ C.ub → (w.setCell ⟨C.ub, k, none⟩ (.int .i64 v)).heap[q]? = w.heap[q]? := fun q hq => Below.heap_setCell _ _ _ _ hq
  have hc := row_setC h.cap k (.int .i64 v)
  rw [show (I64 cp).set k (.int .i64 v) = I64 (cp.set k v) by simp [I64, List.map_set]] at hc
  exact ⟨⟨h.mb.kept (ho b (fun e => h.ub_ne e.symm)), h.lo, h.pi.kept hb (Nat.le_refl _), h.tx.below hb, hc, row_kept h.row (fun q hq => ho q (fun e => h.row_ub (by rw [← e]; exact hq))), row_kept h.wd (fun q hq => ho q (fun e => h.wd_ub (by rw [← e]; exact hq))), h.bit, h.zl, h.wl, h.okm, h.okt, h.okc.set k hv, h.stl⟩, hb⟩
end
end Go.Proofs.YtpckbpimgoljoaaGreat
/- HELPERS: tasks: made, asked, undone. -/
namespace Go.Proofs.YtpckbpimgoljoaaGreat
open Go.RowKit Go.Lk
set_option linter.unusedVariables false
set_option linter.unusedSimpArgs false
theorem i32_ok (x : Int) (h : -2147483648 ≤ x) (h2 : x < 2147483648) : IntKind.i32.wrap x = x := by simp [IntKind.wrap, IntKind.bits, IntKind.signed]; omega
abbrev goV (i j : Nat) : Value := .agg #[.int .i32 (i : Int), .int .i32 (j : Int)]
abbrev unV (a : Nat) (o : Int) : Value := .agg #[.int .i32 (-1 - (a : Int)), .int .i32 o]
set_option maxRecDepth 100000 in
set_option maxHeartbeats 2000000 in
theorem toMeet48 (i j : Nat) (w : World) (hi : i < 2147483648) (hj : j < 2147483648) : Calls Tryz.prog 50 #[.int .i64 (i : Int), .int .i64 (j : Int)] w fun e w' => e = .returned (goV i j) ∧ Below w.heap.size w w' := by
  have a1 := i32_ok (i : Int) (by omega) (by omega)
  have a2 := i32_ok (j : Int) (by omega) (by omega)
  go_enter Tryz.func50, Tryz.ntmps50
  go_wp2
  refine bodyPost_ret (results_cell_row rfl _ _ w.heap.size 105 _ (0, 0) _ rfl (heap_alloc_new w _) Tryz.underlying105 rfl (by kernel_rfl)) rfl ?_
  exact ⟨rfl, Joins.below_alloc1 w _⟩
set_option maxRecDepth 100000 in
set_option maxHeartbeats 2000000 in
theorem toUndo81 (a : Nat) (o : Int) (w : World) (ha : a < 2147483647) (ho : -1 ≤ o ∧ o < 2147483648) : Calls Tryz.prog 92 #[.int .i64 (a : Int), .int .i64 o] w fun e w' => e = .returned (unV a o) ∧ Below w.heap.size w w' := by
  have a0 := wrap_ok (-1 - (a : Int)) (by omega) (by omega)
  have a1 := i32_ok (-1 - (a : Int)) (by omega) (by omega)
  have a2 := i32_ok o (by omega) (by omega)
  go_enter Tryz.func92, Tryz.ntmps92
  go_wp2
  refine bodyPost_ret (results_cell_row rfl _ _ w.heap.size 105 _ (0, 0) _ rfl (heap_alloc_new w _) Tryz.underlying105 rfl (by kernel_rfl)) rfl ?_
  exact ⟨rfl, Joins.below_alloc1 w _⟩
set_option maxRecDepth 100000 in
set_option maxHeartbeats 2000000 in
theorem isUndo50_go (i j : Nat) (w : World) : Calls Tryz.prog 52 #[goV i j] w fun e w' => e = .returned (.bool false) ∧ Below w.heap.size w w' := by
  have b1 : decide ((i : Int) < 0) = false := by simp
  go_enter Tryz.func52, Tryz.ntmps52
  go_wp2
  go_ret
  exact ⟨rfl, Joins.below_alloc1 w _⟩
set_option maxRecDepth 100000 in
set_option maxHeartbeats 2000000 in
theorem isUndo50_un (a : Nat) (o : Int) (w : World) : Calls Tryz.prog 52 #[unV a o] w fun e w' => e = .returned (.bool true) ∧ Below w.heap.size w w' := by
  have b1 : decide (-1 - (a : Int) < 0) = true := by simp; omega
  go_enter Tryz.func52, Tryz.ntmps52
  go_wp2
  go_ret
  exact ⟨rfl, Joins.below_alloc1 w _⟩
set_option maxRecDepth 100000 in
set_option maxHeartbeats 2000000 in
theorem pair52 (i j : Nat) (w : World) (hi : i < 2147483648) (hj : j < 2147483648) : Calls Tryz.prog 54 #[(goV i j)] w fun e w' => e = .returned (.tuple #[.int .i64 (i : Int), .int .i64 (j : Int)]) ∧ Below w.heap.size w w' := by
  have a1 := wrap_ok (i : Int) (by omega) (by omega)
  have a2 := wrap_ok (j : Int) (by omega) (by omega)
  go_enter Tryz.func54, Tryz.ntmps54
  go_wp2
  go_region
  all_goals go_wp2
  all_goals go_ret2
  all_goals exact ⟨rfl, below_drewN' (Joins.below_alloc1 w _) _⟩
set_option maxRecDepth 100000 in
set_option maxHeartbeats 2000000 in
theorem undo51 {w : World} {B b : Nat} {l : List In} {tx : List Int} {C : Bk} {V : Bv} {st : List Tk} {m : List Pt} {cp : List Int} {W : List Nat} (a : Nat) (o : Int) (h : BI w B b l tx C V st m cp W) (ha : a < C.K) (hK : C.K ≤ 1002) (ho : -1 ≤ o ∧ o ≤ (C.tn : Int)) (ht : C.tn ≤ 4194304) :
    Calls Tryz.prog 53 #[(unV a o), .slice (some ⟨C.ub, 0, none⟩) C.K C.K] w fun e w' => e = .returned (.tuple #[]) ∧ BI w' B b l tx C V st m (cp.set a o) W ∧ Below B w w' ∧ ∀ k, k < w.heap.size → k ≠ C.ub → w'.heap[k]? = w.heap[k]? := by
  obtain ⟨U, hU⟩ : ∃ U, U = w.alloc (.cells #[.int .i32 (-1 - (a : Int)), .int .i32 o] 105) := ⟨_, rfl⟩
  have hb : Below w.heap.size w U := by rw [hU]; exact Joins.below_alloc1 w _
  have hX : U.heap[w.heap.size]? = some (.cells #[.int .i32 (-1 - (a : Int)), .int .i32 o] 105 (0, 0)) := by rw [hU]; exact heap_alloc_new w _
  have hBU := h.below hb
  have c0 := Joins.cell_of_block hX 0
  have c1 := Joins.cell_of_block hX 1
  simp at c0 c1
  have hcl : cp.length = C.K := by have := h.cap.1; simpa [I64] using this
  have d0 := hBU.cap.cellAt a (by omega)
  obtain ⟨vv, hvv⟩ : ∃ vv, (I64 cp)[a]? = some vv := ⟨_, List.getElem?_eq_getElem (by simp [I64]; omega)⟩
  rw [hvv] at d0
  have f0 := hBU.cap.frozenAt a
  have a1 := i32_ok (-1 - (-1 - (a : Int))) (by omega) (by omega)
  have a2 := wrap_ok o (by omega) (by omega)
  have e1 : -1 - (-1 - (a : Int)) = (a : Int) := by omega
  rw [e1] at a1
  have b2 : (a : Int) < (C.K : Int) := by omega
  have HS := hid (hBU.setc a ho)
  have HB := hid (Joins.below_le hb h.size)
  have HK : Hid (∀ k, k < w.heap.size → U.heap[k]? = w.heap[k]?) := fun k hk => hb.block k hk
  obtain ⟨y, hy⟩ : ∃ y, y = w.heap.size := ⟨_, rfl⟩
  rw [← hy] at c0 c1
  clear h hBU hX hb hcl hvv
  go_enter Tryz.func53, Tryz.ntmps53
  go_upto_region 1 with fail
  rw [← hU, ← hy]
  clear hU hy
  go_wp2
  go_end0
  exact ⟨rfl, HS.out.1, HB.out.trans HS.out.2, fun k hk hne => (Below.heap_setCell _ _ _ _ hne).trans (HK.out k hk)⟩
end Go.Proofs.YtpckbpimgoljoaaGreat
/- HELPERS: slices.Repeat of one number, any number of times. -/
namespace Go.Proofs.YtpckbpimgoljoaaGreat
open Go.RowKit
set_option linter.unusedVariables false
set_option linter.unusedSimpArgs false
theorem size3 : (Tryz.prog.info? 3).map (·.size) = some 1 := by kernel_rfl
abbrev M1 : Value := .int .i64 (-1)
theorem copy_one (W : World) (b o dl dc sc : Nat) (a : Addr) (hs : W.cell? (a.add 0) = some M1) (hd : (W.cell? ⟨b, o, none⟩).isSome = true) (hf : W.frozen? ⟨b, o, none⟩ = false) (hdl : 1 ≤ dl) :
    (Builtin.copy_ #[29, 29] 3 #[.slice (some ⟨b, o, none⟩) dl dc, .slice (some a) 1 sc]).run Tryz.prog W = .ok (.int .i64 1) (W.setCell ⟨b, o, none⟩ M1) := by
  have h := run_copy_cells (P := Tryz.prog) W 29 29 3 3 b o dl dc a 1 sc [M1] Tryz.underlying29 size3 (by simp [Nat.min_def]; omega) (by intro j v hj; match j, hj with | 0, hj => simp at hj; subst hj; exact hs) (by intro j hj; simp at hj; subst hj; exact hd) (by intro j hj; simp at hj; subst hj; exact hf) (by intro v hv; simp at hv; subst hv; rfl)
  exact h
theorem u64_small (n : Int) (h0 : 0 ≤ n) (h1 : n < 2 ^ 40) : IntKind.u64.wrap n = n := by
  simp [IntKind.wrap, IntKind.bits, IntKind.signed]
  omega
theorem and32 (c : Nat) (hc : c ≤ 10000) : bits .and .u64 (c : Int) 4294967295 = (c : Int) := by
  have h := bits_mask .u64 40 (by decide) u64_small 32 (by decide) (c : Int) (by omega) (by omega)
  have e : ((2 : Int) ^ 32 - 1) = 4294967295 := by decide
  rw [e] at h
  rw [h]
  omega
set_option maxRecDepth 100000 in
set_option maxHeartbeats 2000000 in
theorem mul88g (c : Nat) (hc : c ≤ 10000) (w : World) : Calls Tryz.prog 87 #[.int .u64 1, .int .u64 (c : Int)] w fun e w' => e = .returned (.tuple #[.int .u64 0, .int .u64 (c : Int)]) ∧ w' = w := by
  have a1 : bits .and .u64 1 4294967295 = 1 := and32 1 (by omega)
  have a2 := and32 c hc
  have a0 : bits .and .u64 0 4294967295 = 0 := and32 0 (by omega)
  have wc : IntKind.u64.wrap (c : Int) = (c : Int) := u64_small _ (by omega) (by omega)
  have w0 : IntKind.u64.wrap 0 = 0 := u64_small _ (by omega) (by omega)
  have d1 : (c : Int) / 4294967296 = 0 := by omega
  go_enter Tryz.func87, Tryz.ntmps87
  go_wp2
  go_ret2
  refine ⟨?_, rfl⟩
  simp [a1, a2, a0, wc, w0, d1]
set_option maxRecDepth 100000 in
set_option maxHeartbeats 2000000 in
theorem mul63g (c : Nat) (hc : c ≤ 10000) (w : World) : Calls Tryz.prog 48 #[.int .u64 1, .int .u64 (c : Int)] w fun e w' => e = .returned (.tuple #[.int .u64 0, .int .u64 (c : Int)]) ∧ w' = w := by
  have HC := mul88g c hc
  have wc : IntKind.u64.wrap (c : Int) = (c : Int) := u64_small _ (by omega) (by omega)
  go_enter Tryz.func48, Tryz.ntmps48
  go_wp2_with (go_at_call 87; (with_reducible refine (HC _).mono ?_); rintro e w' ⟨rfl, rfl⟩)
  go_ret2
  exact ⟨rfl, rfl⟩
theorem makeN (c : Nat) (hc : c ≤ 10000) (w : World) : (Instr.makeSlice 29 (.int .i64 (c : Int)) (.int .i64 (c : Int))).run Tryz.prog w = .ok (.slice (some ⟨w.heap.size, 0, none⟩) c c) (w.alloc (.cells (madeCells #[.int .i64 0] c) 3)) :=
  run_make_row' (P := Tryz.prog) 29 3 (.int .i64 0) 8 Tryz.underlying29 info3 rfl .i64 .i64 c (by omega) (by omega) w
theorem below_setC {B b : Nat} {a : World} (hb : B ≤ b) : ∀ (vs : List Value) (o : Nat) (w : World), Below B a w → Below B a (w.setCells b o vs)
  | [], _, _, h => h
  | v :: vs, o, w, h => below_setC hb vs (o + 1) _ (h.setCell (by exact hb) v)
/-- a row of c cells of which the first ones are written -/
def RI (nb c n : Nat) (W : World) : Prop := ∃ arr : Array Value, W.heap[nb]? = some (.cells arr 3 (0, 0)) ∧ arr.size = c ∧ ∀ i, i < n → arr[i]? = some M1
theorem RI.next {nb c n : Nat} {W : World} (h : RI nb c n W) (hn : n < c) : RI nb c (n + 1) (W.setCell ⟨nb, n, none⟩ M1) := by
  obtain ⟨arr, h1, h2, h3⟩ := h
  refine ⟨arr.setIfInBounds n M1, Joins.block_setCell (i := n) h1 _, by simp [h2], fun i hi => ?_⟩
  by_cases e : i = n
  · subst e; simp [h2, hn]
  · rw [Array.getElem?_setIfInBounds_ne (by omega)]; exact h3 i (by omega)
theorem RI.more {nb c : Nat} : ∀ (k n : Nat) {W : World}, RI nb c n W → n + k ≤ c → RI nb c (n + k) (W.setCells nb n (List.replicate k M1)) := by
  intro k
  induction k with
  | zero => intro n W h _; exact h
  | succ k ih =>
    intro n W h hk
    rw [List.replicate_succ, World.setCells]
    have := ih (n + 1) (h.next (by omega)) (by omega)
    rwa [show n + 1 + k = n + (k + 1) by omega] at this
theorem RI.cell {nb c n : Nat} {W : World} (h : RI nb c n W) {i : Nat} (hi : i < n) : W.cell? ⟨nb, i, none⟩ = some M1 := by
  obtain ⟨arr, h1, h2, h3⟩ := h
  rw [Joins.cell_of_block h1 i]
  exact h3 i hi
theorem RI.some {nb c n : Nat} {W : World} (h : RI nb c n W) {i : Nat} (hi : i < c) : (W.cell? ⟨nb, i, none⟩).isSome = true := by
  obtain ⟨arr, h1, h2, h3⟩ := h
  rw [Joins.cell_of_block h1 i]
  simp [h2, hi]
theorem RI.free {nb c n : Nat} {W : World} (h : RI nb c n W) (i : Nat) : W.frozen? ⟨nb, i, none⟩ = false := by
  obtain ⟨arr, h1, h2, h3⟩ := h
  exact Joins.unfrozen_of_block h1 i
theorem copy_self (nb c n : Nat) (W : World) (h : RI nb c n W) (hn : 1 ≤ n) (hnc : n ≤ c) :
    (Builtin.copy_ #[29, 29] 3 #[.slice (some ⟨nb, n, none⟩) (c - n) (c - n), .slice (some ⟨nb, 0, none⟩) n c]).run Tryz.prog W = .ok (.int .i64 ((min n (c - n) : Nat) : Int)) (W.setCells nb n (List.replicate (min n (c - n)) M1)) := by
  have h := run_copy_cells (P := Tryz.prog) W 29 29 3 3 nb n (c - n) (c - n) ⟨nb, 0, none⟩ n c (List.replicate (min n (c - n)) M1) Tryz.underlying29 size3 (by simp) (by
      intro j v hj
      have hj' : j < min n (c - n) := by
        have := (List.getElem?_eq_some_iff.1 hj).1
        simpa using this
      simp [hj'] at hj
      subst hj
      have := h.cell (i := j) (by omega)
      rw [show ((⟨nb, 0, none⟩ : Addr).add j) = ⟨nb, j, none⟩ by by_cases e : j = 0 <;> simp [Addr.add, e]]
      exact this) (by intro j hj; simp at hj; exact h.some (by omega)) (by intro j hj; exact h.free _) (by intro v hv; simp at hv; obtain ⟨_, rfl⟩ := hv; rfl)
  simpa [goInt] using h
set_option maxRecDepth 100000 in
set_option maxHeartbeats 2000000 in
theorem repeat51g (xb cap c : Nat) (hc1 : 1 ≤ c) (hc2 : c ≤ 10000) (w : World) (hx : w.cell? ⟨xb, 0, none⟩ = some (.int .i64 (-1))) (hxl : xb < w.heap.size) :
    Calls Tryz.prog 32 #[.slice (some ⟨xb, 0, none⟩) 1 cap, .int .i64 (c : Int)] w fun e w' => e = .returned (.slice (some ⟨w.heap.size, 0, none⟩) c c) ∧ Below w.heap.size w w' ∧ RI w.heap.size c c w' := by
  have HC := mul63g c hc2 w
  have hmk := makeN c hc2 w
  have wc : IntKind.u64.wrap (c : Int) = (c : Int) := u64_small _ (by omega) (by omega)
  have wi : IntKind.i64.wrap (c : Int) = (c : Int) := by simp [IntKind.wrap, IntKind.bits, IntKind.signed]; omega
  obtain ⟨nb, hnb⟩ : ∃ nb, nb = w.heap.size := ⟨_, rfl⟩
  obtain ⟨V0, hV0⟩ : ∃ V, V = w.alloc (.cells (madeCells #[.int .i64 0] c) 3) := ⟨_, rfl⟩
  obtain ⟨V1, hV1⟩ : ∃ V, V = V0.setCell ⟨nb, 0, none⟩ M1 := ⟨_, rfl⟩
  have h0 : RI nb c 0 V0 := by rw [hV0, hnb]; exact ⟨_, heap_alloc_new w _, by simp [madeCells], fun i hi => by omega⟩
  have h1 : RI nb c 1 V1 := by rw [hV1]; exact h0.next (by omega)
  have hB1 : Below w.heap.size w V1 := by
    rw [hV1, hV0]
    exact (Joins.below_alloc1 w _).setCell (by show w.heap.size ≤ nb; omega) _
  have k1 : (Builtin.copy_ #[29, 29] 3 #[.slice (some ⟨nb, 0, none⟩) c c, .slice (some ⟨xb, 0, none⟩) 1 cap]).run Tryz.prog V0 = .ok (.int .i64 1) V1 := by
    rw [hV1]
    exact copy_one V0 nb 0 c c cap ⟨xb, 0, none⟩ (by rw [hV0]; exact (World.cell?_alloc_lt _ _ _ hxl).trans hx) (h0.some (by omega)) (h0.free 0) (by omega)
  rw [← hV0, ← hnb] at hmk
  rw [← hnb]
  have HB1 := hid hB1
  have H1 := hid h1
  have HNB := hid hnb
  clear h0 h1 hB1 hV0 hV1 hnb hx
  go_enter Tryz.func32, Tryz.ntmps32
  go_wp2_with (go_at_call 48; (with_reducible refine HC.mono ?_); rintro e w' ⟨rfl, hw'⟩; rw [hw']; clear hw' HC)
  go_loopw [8] (fun x wq => ∃ n : Nat, x = .int .i64 (n : Int) ∧ 1 ≤ n ∧ n ≤ c ∧ Hid (RI nb c n wq ∧ Below w.heap.size w wq)) (fun x _ => c - (intOf x).toNat)
  case atStart => exact ⟨1, rfl, by omega, by omega, by exact ⟨H1.out, HB1.out⟩⟩
  case round =>
    obtain ⟨n, rfl, hn1, hnc, HI⟩ := hrel
    by_cases hlt : n < c
    · have b1 : decide ((n : Int) < (c : Int)) = true := by simp; omega
      have b2 : (n : Int) < (c : Int) := by omega
      have kc := copy_self nb c n wr.drew (by exact HI.out.1) hn1 hnc
      have ad : IntKind.i64.wrap ((n : Int) + ((min n (c - n) : Nat) : Int)) = ((n + min n (c - n) : Nat) : Int) := by simp [IntKind.wrap, IntKind.bits, IntKind.signed]; omega
      have i1 : (n : Int) ≤ (c : Int) := by omega
      have i0 : (0 : Int) ≤ (n : Int) := by omega
      go_wp2_with fail
      go_region
      all_goals
        go_wp2
        refine ⟨⟨n + min n (c - n), by push_cast; rfl, by omega, by omega, by exact ⟨RI.more _ _ (show RI nb c n wr.drew from HI.out.1) (by omega), below_setC (by have := HNB.out; omega) _ _ _ HI.out.2.drew⟩⟩, by simp [intOf]; omega⟩
    · have b1 : decide ((n : Int) < (c : Int)) = false := by simp; omega
      obtain rfl : n = c := by omega
      go_wp2
      go_ret
      refine ⟨rfl, ?_, HI.out.1⟩
      rw [HNB.out]
      exact HI.out.2
end Go.Proofs.YtpckbpimgoljoaaGreat
/- HELPERS: a program is copied. -/
namespace Go.Proofs.YtpckbpimgoljoaaGreat
open Go.RowKit
set_option linter.unusedVariables false
set_option linter.unusedSimpArgs false
end Go.Proofs.YtpckbpimgoljoaaGreat
/- HELPERS: the machine in memory: an assertion asked, a match, a thread put. -/
namespace Go.Proofs.YtpckbpimgoljoaaGreat
open Go.RowKit Go.Lk
set_option linter.unusedVariables false
set_option linter.unusedSimpArgs false
theorem look_text {N : Nat} {w : World} {ad : Option Addr} {n : Nat} {l : List Int} (h : TextAt N w ad n l) : Look.TextAt N w ad n l := h
theorem look_at (l : List Int) (p : Nat) (hp : p ≤ l.length) : Look.atN l (p : Int) = atP l p := by
  unfold Look.atN
  rw [if_neg (by omega)]
  rfl
/-- what is found, in memory -/
def FD (w : World) (N K : Nat) (M : Mv) (fb : List Nat) : Fd → Prop
  | none => M.fok = false ∧ M.f1 = none ∧ M.f2 = 0 ∧ M.f3 = 0 ∧ M.fw = 0 ∧ fb = []
  | some y => ∃ g, M.fok = true ∧ M.f1 = some ⟨g, 0, none⟩ ∧ M.f2 = K ∧ M.f3 = K ∧ M.fw = y.1 ∧ fb = [g] ∧ w.ownsRow N 3 1 (.slice (some ⟨g, 0, none⟩) K K) K (I64 y.2)
end Go.Proofs.YtpckbpimgoljoaaGreat
namespace Go.Proofs.YtpckbpimgoljoaaGreat
open Go.RowKit Go.Lk
set_option linter.unusedVariables false
set_option linter.unusedSimpArgs false
/-- a thread: its instruction, the block of its captures, the captures -/
structure En where
  i : Nat
  b : Nat
  c : List Int
instance : Inhabited En := ⟨⟨0, 0, []⟩⟩
def En.th (e : En) : Th := (e.i, e.c)
def En.cs (K : Nat) (e : En) : List Value := [.int .i64 (e.i : Int), .slice (some ⟨e.b, 0, none⟩) K K]
/-- the same memory -/
structure Eqw (w w' : World) : Prop where
  heap : w'.heap = w.heap
  os : w'.os = w.os
  tape : w'.tape = w.tape
  output : w'.output = w.output
theorem Eqw.drewN (w : World) (k : Nat) : Eqw w (w.drewN k) := ⟨rfl, rfl, rfl, rfl⟩
theorem Eqw.drew (w : World) : Eqw w w.drew := ⟨rfl, rfl, rfl, rfl⟩
theorem Eqw.trans {a b c : World} (h : Eqw a b) (k : Eqw b c) : Eqw a c := ⟨k.heap.trans h.heap, k.os.trans h.os, k.tape.trans h.tape, k.output.trans h.output⟩
theorem Eqw.blk {w w' : World} (h : Eqw w w') (k : Nat) : w'.heap[k]? = w.heap[k]? := by rw [h.heap]
theorem Eqw.below {w w' : World} (h : Eqw w w') (B : Nat) : Below B w w' := ⟨h.os, h.tape, h.output, by rw [h.heap]; exact Nat.le_refl _, fun k _ => h.blk k⟩
theorem Eqw.row {w w' : World} (h : Eqw w w') {base e size n : Nat} {v : Value} {xs : List Value} (r : w.ownsRow base e size v n xs) : w'.ownsRow base e size v n xs := row_kept r (fun b _ => h.blk b)
end Go.Proofs.YtpckbpimgoljoaaGreat
