/- HELPERS: depth first in memory: the machine's cells, its map, its stack. -/
import Derived.Test.YtodpmmlfdkdemaaBc
import Derived.Test.YtodpmmlfdkdemaaPc
namespace Go.Proofs.Ytodpmmlfdkdemaa
open Go.RowKit Go.Lk
set_option linter.unusedVariables false
set_option linter.unusedSimpArgs false
def Tk.cs : Tk → List Value
  | .go i j => [.int .i32 (i : Int), .int .i32 (j : Int)]
  | .un a o => [.int .i32 (-1 - (a : Int)), .int .i32 o]
theorem Tk.cs_len (t : Tk) : t.cs.length = 2 := by cases t <;> rfl
theorem Tk.one (t : Tk) : ∀ u ∈ t.cs, u.oneCell' = true := by
  cases t <;> (intro u hu; simp [Tk.cs] at hu; rcases hu with rfl | rfl <;> rfl)
/-- the stack's cells, its top last -/
def stk : List Tk → List Value
  | [] => []
  | t :: st => stk st ++ t.cs
theorem stk_len (st : List Tk) : (stk st).length = st.length * 2 := by
  induction st with
  | nil => rfl
  | cons t st ih => rw [stk, List.length_append, ih, Tk.cs_len, List.length_cons]; omega
theorem stk_top (t : Tk) (st : List Tk) (k : Nat) (hk : k < 2) : (stk (t :: st))[st.length * 2 + k]? = t.cs[k]? := by
  rw [stk, List.getElem?_append_right (by rw [stk_len]; omega), stk_len]
  congr 1
  omega
/-- what of the machine's cells stays -/
structure Bk where
  ad : Option Addr
  n : Nat
  c : Nat
  S : Nat
  K : Nat
  tad : Option Addr
  tn : Nat
  tc : Nat
  ub : Nat
  a : Nat
/-- what of them turns: the words, the stack, what is found -/
structure Bv where
  w1 : Option Addr
  w2 : Nat
  w3 : Nat
  z1 : Option Addr
  z2 : Nat
  z3 : Nat
  most : Nat
  fok : Bool
  f1 : Option Addr
  f2 : Nat
  f3 : Nat
  fw : Int
  fs : Nat
abbrev bcs (C : Bk) (V : Bv) : Array Value := #[.slice C.ad C.n C.c, .int .i64 (C.S : Int), .int .i64 (C.K : Int), .slice C.tad C.tn C.tc, .slice (some ⟨C.ub, 0, none⟩) C.K C.K, .int .i64 (C.n : Int), .int .i64 (C.a : Int), .slice V.w1 V.w2 V.w3, .slice V.z1 V.z2 V.z3, .int .i64 (V.most : Int), .bool V.fok, .slice V.f1 V.f2 V.f3, .int .i64 V.fw, .int .i64 (V.fs : Int)]
def BM (w : World) (b : Nat) (C : Bk) (V : Bv) : Prop := w.heap[b]? = some (.cells (bcs C V) 67 (0, 0))
theorem BM.c {w : World} {b : Nat} {C : Bk} {V : Bv} (h : BM w b C V) (k : Nat) : w.cell? ⟨b, k, none⟩ = (bcs C V)[k]? := Joins.cell_of_block h k
theorem BM.u {w : World} {b : Nat} {C : Bk} {V : Bv} (h : BM w b C V) (k : Nat) : w.frozen? ⟨b, k, none⟩ = false := Joins.unfrozen_of_block h k
theorem BM.lt {w : World} {b : Nat} {C : Bk} {V : Bv} (h : BM w b C V) : b < w.heap.size := (Array.getElem?_eq_some_iff.1 h).1
theorem BM.kept {w w' : World} {b : Nat} {C : Bk} {V : Bv} (h : BM w b C V) (hk : w'.heap[b]? = w.heap[b]?) : BM w' b C V := hk.trans h
theorem BM.upd {w : World} {b : Nat} {C : Bk} {V V' : Bv} (h : BM w b C V) (k : Nat) (v : Value) (e : (bcs C V).setIfInBounds k v = bcs C V') : BM (w.setCell ⟨b, k, none⟩ v) b C V' := by
  have := Joins.block_setCell (i := k) h v
  rw [e] at this
  exact this
/-- the words tell which pairs were met -/
structure Bits (n a len : Nat) (m : List Pt) (W : List Nat) : Prop where
  sml : W.length ≤ 300000
  fits : ∀ x ∈ W, x < 2 ^ 64
  bit : ∀ i j, i < n → a ≤ j → j ≤ len → (W.getD (((j - a) * n + i) / 64) 0).testBit (((j - a) * n + i) % 64) = decide ((i, j) ∈ m)
theorem getD_fit {W : List Nat} (h : ∀ x ∈ W, x < 2 ^ 64) (j : Nat) : W.getD j 0 < 2 ^ 64 := by
  by_cases hj : j < W.length
  · rw [getD_in W hj]
    exact h _ (List.getElem_mem hj)
  · rw [show W.getD j 0 = 0 by simp [List.getD, List.getElem?_eq_none (Nat.le_of_not_lt hj)]]
    decide
theorem Bits.more {n a len : Nat} {m : List Pt} {W : List Nat} (h : Bits n a len m W) (k : Nat) (hk : W.length + k ≤ 300000) : Bits n a len m (W ++ List.replicate k 0) := by
  refine ⟨by simpa using hk, fun x hx => ?_, fun i j hi ha hj => ?_⟩
  · rcases List.mem_append.1 hx with hx | hx
    · exact h.fits x hx
    · rw [List.eq_of_mem_replicate hx]; decide
  · rw [← h.bit i j hi ha hj]
    congr 1
    simp only [List.getD_eq_getElem?_getD, List.getElem?_append]
    split
    · rfl
    · rename_i hl
      rw [List.getElem?_eq_none (by omega : W.length ≤ _), List.getElem?_replicate]
      split <;> rfl
theorem Bits.has {n a len i j : Nat} {m : List Pt} {W : List Nat} (h : Bits n a len m W) (hi : i < n) (ha : a ≤ j) (hj : j ≤ len) {k : Nat} (hk : k = (j - a) * n + i) :
    (bits .and .u64 ((W.getD (k / 64) 0 : Nat) : Int) ((2 ^ (k % 64) : Nat) : Int) != 0) = decide ((i, j) ∈ m) := by
  rw [(bits_nat .u64 64 (by decide) u64_in' _ _ (getD_fit h.fits _) (pow_lt k)).1, ← h.bit i j hi ha hj, ← hk, and_pow]
  have hp : 0 < 2 ^ (k % 64) := Nat.pow_pos (by decide)
  by_cases hb : (W.getD (k / 64) 0).testBit (k % 64) = true
  · rw [if_pos hb, hb]
    have : ((2 ^ (k % 64) : Nat) : Int) ≠ 0 := by omega
    exact bne_iff_ne.2 this
  · rw [if_neg hb]
    simp only [Bool.not_eq_true] at hb
    rw [hb]
    rfl
theorem Bits.add {n a len i j : Nat} {m : List Pt} {W : List Nat} (h : Bits n a len m W) (hi : i < n) (ha : a ≤ j) (hj : j ≤ len) {k : Nat} (hk : k = (j - a) * n + i) (hq : k / 64 < W.length) :
    Bits n a len (m ++ [(i, j)]) (W.set (k / 64) (W.getD (k / 64) 0 ||| 2 ^ (k % 64))) := by
  refine ⟨by rw [List.length_set]; exact h.sml, fun x hx => ?_, fun x y hx hay hy => ?_⟩
  · rcases List.mem_or_eq_of_mem_set hx with hx | rfl
    · exact h.fits x hx
    · exact Nat.or_lt_two_pow (getD_fit h.fits _) (pow_lt k)
  · have e := h.bit x y hx hay hy
    obtain ⟨k2, hk2⟩ : ∃ k2, k2 = (y - a) * n + x := ⟨_, rfl⟩
    rw [← hk2] at e ⊢
    have hiff : k2 = k ↔ (x = i ∧ y = j) := by
      constructor
      · intro e'
        have := enc_inj hx hi (show (y - a) * n + x = (j - a) * n + i by omega)
        exact ⟨this.2, by omega⟩
      · rintro ⟨rfl, rfl⟩; omega
    by_cases hkq : k2 / 64 = k / 64
    · rw [hkq, getD_in _ (by rw [List.length_set]; exact hq), List.getElem_set_self, Nat.testBit_or, ← hkq, e, Nat.testBit_two_pow]
      rw [Bool.eq_iff_iff]
      simp only [Bool.or_eq_true, decide_eq_true_eq, List.mem_append, List.mem_singleton, Prod.mk.injEq]
      rw [← hiff]
      constructor
      · rintro (h | h)
        · exact .inl h
        · right; omega
      · rintro (h | h)
        · exact .inl h
        · right; omega
    · have hne : k2 ≠ k := fun h => hkq (by rw [h])
      rw [show (W.set (k / 64) (W.getD (k / 64) 0 ||| 2 ^ (k % 64))).getD (k2 / 64) 0 = W.getD (k2 / 64) 0 by
        simp [List.getD, List.getElem?_set, show ¬ k / 64 = k2 / 64 by omega], e]
      have : ¬ (x = i ∧ y = j) := fun h => hne (hiff.2 h)
      simp [this]
theorem Bits.nil (n a len : Nat) : Bits n a len [] [] := ⟨by simp, by simp, fun i j _ _ _ => by simp⟩
/-- what is asked of a program, a text and a place, and told by the machine's cells -/
structure BC (l : List In) (tx : List Int) (C : Bk) : Prop where
  len : C.n = l.length
  may : mayB l (C.S : Int) (C.K : Int) = true
  tn : C.tn = tx.length
  tl : C.tn ≤ 4194304
  at_ : C.a ≤ C.tn
  big : C.n * (C.tn - C.a + 1) ≤ 16777216
/-- the machine while it searches -/
structure BI (w : World) (B b : Nat) (l : List In) (tx : List Int) (C : Bk) (V : Bv) (st : List Tk) (m : List Pt) (cp : List Int) (W : List Nat) : Prop where
  mb : BM w b C V
  lo : B ≤ b
  pi : PI w B C.ad C.n l
  tx : TextAt B w C.tad C.tn tx
  cap : w.ownsRow B 3 1 (.slice (some ⟨C.ub, 0, none⟩) C.K C.K) C.K (I64 cp)
  row : w.ownsRow B 97 2 (.slice V.z1 V.z2 V.z3) V.z2 (stk st)
  wd : w.ownsRow B 119 1 (.slice V.w1 V.w2 V.w3) V.w2 (U64 W)
  bit : Bits C.n C.a C.tn m W
  zl : V.z2 = st.length
  wl : V.w2 = W.length
  okm : OkP C.n C.a C.tn m
  okt : ∀ t ∈ st, t.ok C.n C.a C.tn C.K
  okc : okC C.tn cp
  stl : st.length ≤ m.length + 1
section
variable {w w' : World} {B b : Nat} {l : List In} {tx : List Int} {C : Bk} {V V' : Bv} {st : List Tk} {m : List Pt} {cp : List Int} {W : List Nat}
theorem BI.size (h : BI w B b l tx C V st m cp W) : B ≤ w.heap.size := by have := h.lo; have := h.mb.lt; omega
/-- what a machine leaves: nothing it lies in has turned, nor what lies below -/
theorem BI.keep (h : BI w B b l tx C V st m cp W) (hb : Below B w w') (h1 : w'.heap[b]? = w.heap[b]?) (h2 : w'.heap[C.ub]? = w.heap[C.ub]?) (h3 : ∀ k, (Value.slice V.z1 V.z2 V.z3).ownBlock = some k → w'.heap[k]? = w.heap[k]?) (h4 : ∀ k, (Value.slice V.w1 V.w2 V.w3).ownBlock = some k → w'.heap[k]? = w.heap[k]?) : BI w' B b l tx C V st m cp W :=
  ⟨h.mb.kept h1, h.lo, h.pi.kept hb (Nat.le_refl _), h.tx.below hb, row_kept h.cap (fun k hk => by simp [Value.ownBlock] at hk; subst hk; exact h2), row_kept h.row h3, row_kept h.wd h4, h.bit, h.zl, h.wl, h.okm, h.okt, h.okc, h.stl⟩
theorem BI.below (h : BI w B b l tx C V st m cp W) (hb : Below w.heap.size w w') : BI w' B b l tx C V st m cp W :=
  h.keep (Joins.below_le hb h.size) (hb.block _ h.mb.lt) (hb.block _ (h.cap.lt _ rfl).2) (fun k hk => hb.block _ (h.row.lt k hk).2) (fun k hk => hb.block _ (h.wd.lt k hk).2)
theorem BI.ub_ne (h : BI w B b l tx C V st m cp W) : C.ub ≠ b := fun e => own_ne h.cap h.mb (by decide) (by rw [e]; rfl)
theorem BI.cap_block (h : BI w B b l tx C V st m cp W) : ∃ arr, w.heap[C.ub]? = some (.cells arr 3 (0, 0)) := by
  rcases h.cap.2 with ⟨e', _⟩ | ⟨g, cap, cur, e', _, hg, _⟩
  · cases e'
  · simp only [Value.slice.injEq, Option.some.injEq, Addr.mk.injEq] at e'
    obtain ⟨⟨rfl, _⟩, _⟩ := e'
    exact ⟨_, hg⟩
theorem BI.row_ub (h : BI w B b l tx C V st m cp W) : (Value.slice V.z1 V.z2 V.z3).ownBlock ≠ some C.ub := by
  obtain ⟨arr, ha⟩ := h.cap_block
  exact own_ne h.row ha (by decide)
theorem BI.wd_ub (h : BI w B b l tx C V st m cp W) : (Value.slice V.w1 V.w2 V.w3).ownBlock ≠ some C.ub := by
  obtain ⟨arr, ha⟩ := h.cap_block
  exact own_ne h.wd ha (by decide)
theorem BI.row_b (h : BI w B b l tx C V st m cp W) : (Value.slice V.z1 V.z2 V.z3).ownBlock ≠ some b := own_ne h.row h.mb (by decide)
theorem BI.wd_b (h : BI w B b l tx C V st m cp W) : (Value.slice V.w1 V.w2 V.w3).ownBlock ≠ some b := own_ne h.wd h.mb (by decide)
theorem own_at {w : World} {base e size n : Nat} {v : Value} {xs : List Value} (h : w.ownsRow base e size v n xs) {k : Nat} (hk : v.ownBlock = some k) : ∃ arr, w.heap[k]? = some (.cells arr e (0, 0)) := by
  rcases h.2 with ⟨e', _⟩ | ⟨g, cap, cur, e', _, hg, _⟩
  · subst e'; simp [Value.ownBlock] at hk
  · subst e'
    simp [Value.ownBlock] at hk
    subst hk
    exact ⟨_, hg⟩
theorem own_apart {w : World} {base e size n base' e' size' n' : Nat} {v v' : Value} {xs xs' : List Value} (h : w.ownsRow base e size v n xs) (h' : w.ownsRow base' e' size' v' n' xs') (hne : e ≠ e') {k : Nat} (hk : v.ownBlock = some k) : v'.ownBlock ≠ some k := by
  obtain ⟨arr, ha⟩ := own_at h hk
  exact own_ne h' ha hne
/-- the machine's own cells are written -/
theorem BI.put (h : BI w B b l tx C V st m cp W) (k : Nat) (v : Value) (e : (bcs C V).setIfInBounds k v = bcs C V') (e1 : V'.z1 = V.z1 ∧ V'.z2 = V.z2 ∧ V'.z3 = V.z3) (e2 : V'.w1 = V.w1 ∧ V'.w2 = V.w2 ∧ V'.w3 = V.w3) :
    BI (w.setCell ⟨b, k, none⟩ v) B b l tx C V' st m cp W ∧ Below B w (w.setCell ⟨b, k, none⟩ v) := by
  have hb : Below B w (w.setCell ⟨b, k, none⟩ v) := (Below.refl B w).setCell (p := ⟨b, k, none⟩) h.lo _
  have ho : ∀ q, q ≠ b → (w.setCell ⟨b, k, none⟩ v).heap[q]? = w.heap[q]? := fun q hq => Below.heap_setCell _ _ _ _ hq
  refine ⟨⟨h.mb.upd k v e, h.lo, h.pi.kept hb (Nat.le_refl _), h.tx.below hb, row_kept h.cap (fun q hq => ho q (fun e => own_ne h.cap h.mb (by decide) (by rw [← e]; exact hq))), ?_, ?_, h.bit, ?_, ?_, h.okm, h.okt, h.okc, h.stl⟩, hb⟩
  · rw [e1.1, e1.2.1, e1.2.2]
    exact row_kept h.row (fun q hq => ho q (fun e => h.row_b (by rw [← e]; exact hq)))
  · rw [e2.1, e2.2.1, e2.2.2]
    exact row_kept h.wd (fun q hq => ho q (fun e => h.wd_b (by rw [← e]; exact hq)))
  · rw [e1.2.1]; exact h.zl
  · rw [e2.2.1]; exact h.wl
/-- a capture is written -/
theorem BI.setc (h : BI w B b l tx C V st m cp W) (k : Nat) {v : Int} (hv : -1 ≤ v ∧ v ≤ (C.tn : Int)) : BI (w.setCell ⟨C.ub, k, none⟩ (.int .i64 v)) B b l tx C V st m (cp.set k v) W ∧ Below B w (w.setCell ⟨C.ub, k, none⟩ (.int .i64 v)) := by
  have hgc := h.cap.lt C.ub rfl
  have hb : Below B w (w.setCell ⟨C.ub, k, none⟩ (.int .i64 v)) := (Below.refl B w).setCell (p := ⟨C.ub, k, none⟩) hgc.1 _
  have ho : ∀ q, q ≠ C.ub → (w.setCell ⟨C.ub, k, none⟩ (.int .i64 v)).heap[q]? = w.heap[q]? := fun q hq => Below.heap_setCell _ _ _ _ hq
  have hc := row_setC h.cap k (.int .i64 v)
  rw [show (I64 cp).set k (.int .i64 v) = I64 (cp.set k v) by simp [I64, List.map_set]] at hc
  exact ⟨⟨h.mb.kept (ho b (fun e => h.ub_ne e.symm)), h.lo, h.pi.kept hb (Nat.le_refl _), h.tx.below hb, hc, row_kept h.row (fun q hq => ho q (fun e => h.row_ub (by rw [← e]; exact hq))), row_kept h.wd (fun q hq => ho q (fun e => h.wd_ub (by rw [← e]; exact hq))), h.bit, h.zl, h.wl, h.okm, h.okt, h.okc.set k hv, h.stl⟩, hb⟩
end
end Go.Proofs.Ytodpmmlfdkdemaa
