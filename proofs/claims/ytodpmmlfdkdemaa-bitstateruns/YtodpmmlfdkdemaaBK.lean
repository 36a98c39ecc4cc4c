/- HELPERS: the law BitstatePike. -/
import Derived.OrdersHeld
import Derived.StillTail
import Derived.Tactics
import Derived.RowKit
import Derived.Below
import Derived.Test.YtodpmmlfdkdemaaBd
import Derived.Laws.Rows
import Derived.Test.YtodpmmlfdkdemaaPe
import Derived.Lib.MinMax
import Derived.Test.YtodpmmlfdkdemaaRq
import Derived.Lib.AppendZerosOnto
import Derived.Deep.RegionHeld2
import Derived.Deep.LoopGhost
import Derived.WalkMore
import Derived.Test.YtodpmmlfdkdemaaPd
import Derived.Test.YtodpmmlfdkdemaaQb
import Derived.Test.YtodpmmlfdkdemaaQc
import Derived.Test.YtodpmmlfdkdemaaPr
/- HELPERS: a region that draws its order: what only reads is taken first, in the text's order, where the rest keeps what it reads, behind every operation. -/

namespace Go.Proofs.Ytodpmmlfdkdemaa
open Go Go.RowKit
set_option linter.unusedVariables false
section
variable {P : Program} {ops : Array Oper} {Q : Exit → Act → World → Prop} {md : Region.Mode} {S : World → Prop}
def wpAnyY (P : Program) (md : Region.Mode) (ops : Array Oper) (Q : Exit → Act → World → Prop) (S : World → Prop) : Nat → Array Bool → Act → World → Prop
  | 0, listed, a, w => Region.ready md ops listed = [] ∧ Q .normal a w
  | fuel + 1, listed, a, w =>
    (Region.ready md ops listed = [] → Q .normal a w) ∧
    ∀ i ∈ Region.ready md ops listed, wpOp P ops Q i (fun a' w' => S w' ∧ wpAnyY P md ops Q S fuel (listed.setIfInBounds i true) a' w') a w
theorem wpAny_of_Y : ∀ (fuel : Nat) (listed : Array Bool) (a : Act) (w : World), wpAnyY P md ops Q S fuel listed a w → wpAny P md ops Q fuel listed a w
  | 0, _, _, _, h => h
  | fuel + 1, _, _, _, h => ⟨h.1, fun i hi => wpOp_mono (fun a' w' h' => wpAny_of_Y fuel _ a' w' h'.2) (h.2 i hi)⟩
theorem wpAnyY_first {i : Nat} {oi : Oper} {v : Value} (hi : ops[i]? = some oi) (hsel : ∀ (j : Nat) (o : Oper) cs b, ops[j]? = some o → o.op ≠ .select cs b)
    (hQ : ∀ c a w, Q (.panic c) (a.put oi.dst v) w → Q (.panic c) a w) :
    ∀ (fuel : Nat) (listed : Array Bool) (a : Act) (w : World),
      (∀ j oj, ops[j]? = some oj → j ≠ i → listed.getD j true = false → (∀ e ∈ oj.after, Region.binds md e = true → e.on ≠ i) → oi.apart ops oj = true) →
      i ∈ Region.ready md ops listed → YieldsIf P ops S oi v a → S w →
      wpAnyY P md ops Q S fuel (listed.setIfInBounds i true) (a.put oi.dst v) w → wpAnyY P md ops Q S (fuel + 1) listed a w := by
  intro fuel
  induction fuel with
  | zero =>
    intro listed a w _ hr hy hS H
    refine ⟨fun h => (by rw [h] at hr; cases hr), fun j hj => ?_⟩
    by_cases hji : j = i
    · subst hji; exact hy.wpOp hi hS ⟨hS, H⟩
    · have := ready_mono hj hji
      rw [H.1] at this
      cases this
  | succ fuel ih =>
    intro listed a w hfree hr hy hS H
    refine ⟨fun h => (by rw [h] at hr; cases hr), fun j hj => ?_⟩
    by_cases hji : j = i
    · subst hji; exact hy.wpOp hi hS ⟨hS, H⟩
    · have h1 := H.2 j (ready_mono hj hji)
      obtain ⟨hjun, oj, hoj, hall⟩ := mem_ready.1 hj
      have hnot : ∀ e ∈ oj.after, Region.binds md e = true → e.on ≠ i := fun e he hb heq => by
        have h1 := hall e he hb
        have h0 := (mem_ready.1 hr).1
        rw [heq] at h1
        rcases Nat.lt_or_ge i listed.size with h' | h'
        · simp [h'] at h0 h1; rw [h0] at h1; cases h1
        · simp [Array.getElem?_eq_none h'] at h1
      have h2 := wpOp_putIf hoj (hfree j oj hoj hji hjun hnot) (fun cs b => hsel i oi cs b hi) (fun cs b => hsel j oj cs b hoj) hQ hy h1
      have hfree' : ∀ k ok, ops[k]? = some ok → k ≠ i → (listed.setIfInBounds j true).getD k true = false →
          (∀ e ∈ ok.after, Region.binds md e = true → e.on ≠ i) → oi.apart ops ok = true := fun k ok hk hki hun hno => by
        refine hfree k ok hk hki ?_ hno
        by_cases hjk : j = k
        · subst hjk; exact hjun
        · rw [getD_set_ne true hjk] at hun; exact hun
      refine wpOp_mono (fun a' w' h3 => ⟨h3.2.1, ih (listed.setIfInBounds j true) a' w' hfree' (ready_mono hr (Ne.symm hji)) h3.1 h3.2.1 ?_⟩) h2
      rw [Array.setIfInBounds_comm _ _ hji]
      exact h3.2.2
/-- the head: each operation yields, in every world that meets S -/
def wpLey (P : Program) (ops : Array Oper) (Q : Exit → Act → World → Prop) (S : World → Prop) (K : Act → Prop) : List Oper → Act → Prop
  | [], a => K a
  | o :: l, a => ∃ v, YieldsIf P ops S o v a ∧ (∀ c a w, Q (.panic c) (a.put o.dst v) w → Q (.panic c) a w) ∧ wpLey P ops Q S K l (a.put o.dst v)
theorem ley_cons {K : Act → Prop} {o : Oper} {l : List Oper} {a : Act} (v : Value) (hw : Region.wanted o (yielded ops a.tmps) = true) (hv : ∀ w, S w → (execOp a.eval o).run P w = .ok (.value v) w)
    (hQ : ∀ c a w, Q (.panic c) (a.put o.dst v) w → Q (.panic c) a w) (h : wpLey P ops Q S K l (a.put o.dst v)) : wpLey P ops Q S K (o :: l) a := ⟨v, .inl ⟨hw, hv⟩, hQ, h⟩
theorem ley_nil {K : Act → Prop} {a : Act} (h : K a) : wpLey P ops Q S K [] a := h
/-- in the text's order each may come up, is apart from all others, and the last one waits for it -/
def lexC (md : Region.Mode) (ops : Array Oper) : Nat → Nat → Array Bool → Bool
  | 0, _, _ => true
  | f + 1, k, listed => (Region.ready md ops listed).contains k && Region.free md ops listed k && lexC md ops f (k + 1) (listed.setIfInBounds k true)
def marky : Nat → Nat → Array Bool → Array Bool
  | 0, _, listed => listed
  | f + 1, k, listed => marky f (k + 1) (listed.setIfInBounds k true)
theorem wpAnyY_ley {g : Nat} {w : World} (hsel : Region.noSelect ops = true) (hS : S w) :
    ∀ (l : List Oper) (k : Nat) (listed : Array Bool) (a : Act), (∀ j, j < l.length → l[j]? = ops[k + j]?) → lexC md ops l.length k listed = true →
    wpLey P ops Q S (fun a' => wpAnyY P md ops Q S g (marky l.length k listed) a' w) l a → wpAnyY P md ops Q S (l.length + g) listed a w
  | [], k, listed, a, _, _, h => by simpa [marky, wpLey] using h
  | o :: l, k, listed, a, hl, hB, h => by
    have h0 : ops[k]? = some o := by simpa using (hl 0 (by simp)).symm
    simp only [List.length_cons, lexC, Bool.and_eq_true] at hB
    obtain ⟨⟨hr, hf⟩, hB'⟩ := hB
    obtain ⟨v, hy, hQ, hK⟩ := h
    rw [show (o :: l).length + g = (l.length + g) + 1 by simp only [List.length_cons]; omega]
    exact wpAnyY_first h0 (Region.noSelect_spec hsel) hQ (l.length + g) listed a w (Region.free_spec h0 hf) (by simpa using hr) hy hS
      (wpAnyY_ley hsel hS l (k + 1) _ _ (fun j hj => by have := hl (j + 1) (by simp; omega); simpa [Nat.add_assoc, Nat.add_comm 1 j] using this) hB' hK)
/-- the tail: one operation behind the other -/
def wpTaiY (P : Program) (ops : Array Oper) (Q : Exit → Act → World → Prop) (S : World → Prop) : List Oper → Nat → Act → World → Prop
  | [], _, a, w => Q .normal a w
  | o :: l, k, a, w => ∀ K : Act → World → Prop, Hid (∀ a' w', S w' → wpTaiY P ops Q S l (k + 1) a' w' → K a' w') → if Region.wanted o (yielded ops a.tmps) = true then Oper.wp P o a w K Q else K (a.put o.dst undef) w
theorem taiY_cons {o : Oper} {l : List Oper} {k : Nat} {a : Act} {w : World} (h : ∀ K : Act → World → Prop, Hid (∀ a' w', S w' → wpTaiY P ops Q S l (k + 1) a' w' → K a' w') → if Region.wanted o (yielded ops a.tmps) = true then Oper.wp P o a w K Q else K (a.put o.dst undef) w) : wpTaiY P ops Q S (o :: l) k a w := h
theorem taiY_nil {k : Nat} {a : Act} {w : World} (h : Q .normal a w) : wpTaiY P ops Q S [] k a w := h
theorem wpAnyY_of_taiY : ∀ (l : List Oper) (k : Nat) (listed : Array Bool) (a : Act) (w : World), (∀ j, l[j]? = ops[k + j]?) →
    Region.seqB md ops l.length k listed = true → wpTaiY P ops Q S l k a w → wpAnyY P md ops Q S l.length listed a w
  | [], _, _, _, _, _, hB, h => ⟨by simpa [Region.seqB] using hB, h⟩
  | o :: l, k, listed, a, w, hl, hB, h => by
    have h0 : ops[k]? = some o := by simpa using (hl 0).symm
    simp only [List.length_cons, Region.seqB, Bool.and_eq_true, decide_eq_true_eq] at hB
    refine ⟨fun h1 => absurd (hB.1.symm.trans h1) (by simp), fun j hj => ?_⟩
    rw [hB.1] at hj
    have : j = k := by simpa using hj
    subst this
    have h1 := h (fun a' w' => S w' ∧ wpAnyY P md ops Q S l.length (listed.setIfInBounds j true) a' w') ((fun a' w' h1 h2 => ⟨h1, wpAnyY_of_taiY l (j + 1) _ a' w' (fun i => by have := hl (i + 1); simpa [Nat.add_assoc, Nat.add_comm 1 i] using this) hB.2 h2⟩))
    unfold wpOp
    simp only [h0]
    split
    · rename_i hw; rw [if_pos hw] at h1; exact .inl h1
    · rename_i hw; rw [if_neg hw] at h1; exact h1
theorem wp_region_ley {id : Nat} {a : Act} {w : World} {l : List Oper} (n : Nat) (S : World → Prop) (hm : P.follows .mixedOrders = true) (hsel : Region.noSelect l.toArray = true) (hn : n ≤ l.length) (hB : lexC .any l.toArray n 0 (Array.replicate l.length false) = true)
    (hT : Region.seqB .any l.toArray (l.length - n) n (marky n 0 (Array.replicate l.length false)) = true) (hS : S w.drew)
    (h : wpLey P l.toArray Q S (fun a' => wpTaiY P l.toArray Q S (l.drop n) n a' w.drew) (l.take n) a) : (Code.region id l.toArray true).wp P Q a w := by
  have htl : (l.take n).length = n := by simp; omega
  have hdl : (l.drop n).length = l.length - n := by simp
  have hlex : ∀ (l' : List Oper) (a : Act), wpLey P l.toArray Q S (fun a' => wpTaiY P l.toArray Q S (l.drop n) n a' w.drew) l' a → wpLey P l.toArray Q S (fun a' => wpAnyY P .any l.toArray Q S (l.length - n) (marky n 0 (Array.replicate l.length false)) a' w.drew) l' a := by
    intro l'
    induction l' with
    | nil => intro a h; have := wpAnyY_of_taiY (md := .any) (ops := l.toArray) (Q := Q) (S := S) (P := P) (l.drop n) n (marky n 0 (Array.replicate l.length false)) a w.drew (fun j => by simp [List.getElem?_drop]) (by rw [hdl]; exact hT) h; rw [hdl] at this; exact this
    | cons o l' ih => rintro a ⟨v, h1, h2, h3⟩; exact ⟨v, h1, h2, ih _ h3⟩
  have H := wpAnyY_ley (md := .any) (Q := Q) (g := l.length - n) (P := P) (w := w.drew) hsel hS (l.take n) 0 (Array.replicate l.length false) a (fun j hj => by
    rw [htl] at hj
    simp [hj]) (by rw [htl]; exact hB) (by rw [htl]; exact hlex _ _ h)
  rw [htl, show n + (l.length - n) = l.length by omega] at H
  exact wp_region_any hm (by simpa using wpAny_of_Y _ _ _ _ H)
end
end Go.Proofs.Ytodpmmlfdkdemaa
/- HELPERS: tasks: made, asked, undone. -/
namespace Go.Proofs.Ytodpmmlfdkdemaa
open Go.RowKit Go.Lk
set_option linter.unusedVariables false
set_option linter.unusedSimpArgs false
theorem i32_ok (x : Int) (h : -2147483648 ≤ x) (h2 : x < 2147483648) : IntKind.i32.wrap x = x := by simp [IntKind.wrap, IntKind.bits, IntKind.signed]; omega
abbrev goV (i j : Nat) : Value := .agg #[.int .i32 (i : Int), .int .i32 (j : Int)]
abbrev unV (a : Nat) (o : Int) : Value := .agg #[.int .i32 (-1 - (a : Int)), .int .i32 o]
set_option maxRecDepth 100000 in
set_option maxHeartbeats 2000000 in
theorem toMeet48 (i j : Nat) (w : World) (hi : i < 2147483648) (hj : j < 2147483648) : Calls Try.prog 48 #[.int .i64 (i : Int), .int .i64 (j : Int)] w fun e w' => e = .returned (goV i j) ∧ Below w.heap.size w w' := by
  have a1 := i32_ok (i : Int) (by omega) (by omega)
  have a2 := i32_ok (j : Int) (by omega) (by omega)
  go_enter Try.func48, Try.ntmps48
  go_wp2
  refine bodyPost_ret (results_cell_row rfl _ _ w.heap.size 97 _ (0, 0) _ rfl (heap_alloc_new w _) Try.underlying97 rfl (by kernel_rfl)) rfl ?_
  exact ⟨rfl, Joins.below_alloc1 w _⟩
set_option maxRecDepth 100000 in
set_option maxHeartbeats 2000000 in
theorem toUndo81 (a : Nat) (o : Int) (w : World) (ha : a < 2147483647) (ho : -1 ≤ o ∧ o < 2147483648) : Calls Try.prog 81 #[.int .i64 (a : Int), .int .i64 o] w fun e w' => e = .returned (unV a o) ∧ Below w.heap.size w w' := by
  have a0 := wrap_ok (-1 - (a : Int)) (by omega) (by omega)
  have a1 := i32_ok (-1 - (a : Int)) (by omega) (by omega)
  have a2 := i32_ok o (by omega) (by omega)
  go_enter Try.func81, Try.ntmps81
  go_wp2
  refine bodyPost_ret (results_cell_row rfl _ _ w.heap.size 97 _ (0, 0) _ rfl (heap_alloc_new w _) Try.underlying97 rfl (by kernel_rfl)) rfl ?_
  exact ⟨rfl, Joins.below_alloc1 w _⟩
set_option maxRecDepth 100000 in
set_option maxHeartbeats 2000000 in
theorem isUndo50_go (i j : Nat) (w : World) : Calls Try.prog 50 #[goV i j] w fun e w' => e = .returned (.bool false) ∧ Below w.heap.size w w' := by
  have b1 : decide ((i : Int) < 0) = false := by simp
  go_enter Try.func50, Try.ntmps50
  go_wp2
  go_ret
  exact ⟨rfl, Joins.below_alloc1 w _⟩
set_option maxRecDepth 100000 in
set_option maxHeartbeats 2000000 in
theorem isUndo50_un (a : Nat) (o : Int) (w : World) : Calls Try.prog 50 #[unV a o] w fun e w' => e = .returned (.bool true) ∧ Below w.heap.size w w' := by
  have b1 : decide (-1 - (a : Int) < 0) = true := by simp; omega
  go_enter Try.func50, Try.ntmps50
  go_wp2
  go_ret
  exact ⟨rfl, Joins.below_alloc1 w _⟩
set_option maxRecDepth 100000 in
set_option maxHeartbeats 2000000 in
theorem pair52 (i j : Nat) (w : World) (hi : i < 2147483648) (hj : j < 2147483648) : Calls Try.prog 52 #[(goV i j)] w fun e w' => e = .returned (.tuple #[.int .i64 (i : Int), .int .i64 (j : Int)]) ∧ Below w.heap.size w w' := by
  have a1 := wrap_ok (i : Int) (by omega) (by omega)
  have a2 := wrap_ok (j : Int) (by omega) (by omega)
  go_enter Try.func52, Try.ntmps52
  go_wp2
  go_region
  all_goals go_wp2
  all_goals go_ret2
  all_goals exact ⟨rfl, below_drewN' (Joins.below_alloc1 w _) _⟩
set_option maxRecDepth 100000 in
set_option maxHeartbeats 2000000 in
theorem undo51 {w : World} {B b : Nat} {l : List In} {tx : List Int} {C : Bk} {V : Bv} {st : List Tk} {m : List Pt} {cp : List Int} {W : List Nat} (a : Nat) (o : Int) (h : BI w B b l tx C V st m cp W) (ha : a < C.K) (hK : C.K ≤ 1002) (ho : -1 ≤ o ∧ o ≤ (C.tn : Int)) (ht : C.tn ≤ 4194304) :
    Calls Try.prog 51 #[(unV a o), .slice (some ⟨C.ub, 0, none⟩) C.K C.K] w fun e w' => e = .returned (.tuple #[]) ∧ BI w' B b l tx C V st m (cp.set a o) W ∧ Below B w w' ∧ ∀ k, k < w.heap.size → k ≠ C.ub → w'.heap[k]? = w.heap[k]? := by
  obtain ⟨U, hU⟩ : ∃ U, U = w.alloc (.cells #[.int .i32 (-1 - (a : Int)), .int .i32 o] 97) := ⟨_, rfl⟩
  have hb : Below w.heap.size w U := by rw [hU]; exact Joins.below_alloc1 w _
  have hX : U.heap[w.heap.size]? = some (.cells #[.int .i32 (-1 - (a : Int)), .int .i32 o] 97 (0, 0)) := by rw [hU]; exact heap_alloc_new w _
  have hBU := h.below hb
  have c0 := Joins.cell_of_block hX 0
  have c1 := Joins.cell_of_block hX 1
  simp at c0 c1
  have hcl : cp.length = C.K := by have := h.cap.1; simpa [I64] using this
  have d0 := hBU.cap.cellAt a (by omega)
  obtain ⟨vv, hvv⟩ : ∃ vv, (I64 cp)[a]? = some vv := ⟨_, List.getElem?_eq_getElem (by simp [I64]; omega)⟩
  rw [hvv] at d0
  have f0 := hBU.cap.frozenAt a
  have a1 := i32_ok (-1 - (-1 - (a : Int))) (by omega) (by omega)
  have a2 := wrap_ok o (by omega) (by omega)
  have e1 : -1 - (-1 - (a : Int)) = (a : Int) := by omega
  rw [e1] at a1
  have b2 : (a : Int) < (C.K : Int) := by omega
  have HS := hid (hBU.setc a ho)
  have HB := hid (Joins.below_le hb h.size)
  have HK : Hid (∀ k, k < w.heap.size → U.heap[k]? = w.heap[k]?) := fun k hk => hb.block k hk
  obtain ⟨y, hy⟩ : ∃ y, y = w.heap.size := ⟨_, rfl⟩
  rw [← hy] at c0 c1
  clear h hBU hX hb hcl hvv
  go_enter Try.func51, Try.ntmps51
  go_upto_region 1 with fail
  rw [← hU, ← hy]
  clear hU hy
  go_wp2
  go_end0
  exact ⟨rfl, HS.out.1, HB.out.trans HS.out.2, fun k hk hne => (Below.heap_setCell _ _ _ _ hne).trans (HK.out k hk)⟩
end Go.Proofs.Ytodpmmlfdkdemaa
/- HELPERS: the machine's stack: a task is pushed. -/
namespace Go.Proofs.Ytodpmmlfdkdemaa
open Go.RowKit Go.Lk
set_option linter.unusedVariables false
set_option linter.unusedSimpArgs false
theorem info97 : (Try.prog.info? 97).map (fun i => (i.zero, i.size, i.bytes)) = some (some (.agg #[.int .i32 0, .int .i32 0]), 2, 8) := by kernel_rfl
theorem BI.pushed {w A w3 : World} {B b : Nat} {l : List In} {tx : List Int} {C : Bk} {V : Bv} {st : List Tk} {m : List Pt} {cp : List Int} {W : List Nat} {t : Tk} {y1 : Option Addr} {y3 : Nat} (h : BI w B b l tx C V st m cp W) (hA : Below w.heap.size w A) (ht : t.ok C.n C.a C.tn C.K) (hst : st.length ≤ m.length)
    (ho : w3.ownsRow B 97 2 (.slice y1 (V.z2 + 1) y3) (V.z2 + 1) (stk st ++ t.cs)) (hf : Frm A w3 (.slice V.z1 V.z2 V.z3) (.slice y1 (V.z2 + 1) y3)) :
    BI (w3.setCell ⟨b, 8, none⟩ (.slice y1 (V.z2 + 1) y3)) B b l tx C { V with z1 := y1, z2 := V.z2 + 1, z3 := y3 } (t :: st) m cp W ∧ Below B w (w3.setCell ⟨b, 8, none⟩ (.slice y1 (V.z2 + 1) y3)) ∧ BM w3 b C V := by
  have hs := hA.size
  have hkk : ∀ k, k < w.heap.size → (Value.slice V.z1 V.z2 V.z3).ownBlock ≠ some k → w3.heap[k]? = w.heap[k]? := fun k hk hn => (hf.block k (by omega) hn).trans (hA.block k hk)
  have hbz : (Value.slice y1 (V.z2 + 1) y3).ownBlock ≠ some b := fun e => by
    rcases hf.own b e with h' | h'
    · exact h.row_b h'
    · have := h.mb.lt; omega
  have hb3 : w3.heap[b]? = w.heap[b]? := hkk b h.mb.lt h.row_b
  have hB3 : Below B w w3 := ⟨hf.os.trans hA.os, hf.tape.trans hA.tape, hf.output.trans hA.output, by have := hf.size; omega, fun k hk => hkk k (by have := h.size; omega) (fun e => by have := (h.row.lt k e).1; omega)⟩
  have hB4 : Below B w (w3.setCell ⟨b, 8, none⟩ (.slice y1 (V.z2 + 1) y3)) := hB3.setCell (p := ⟨b, 8, none⟩) h.lo _
  have ho4 : ∀ k, k ≠ b → (w3.setCell ⟨b, 8, none⟩ (.slice y1 (V.z2 + 1) y3)).heap[k]? = w3.heap[k]? := fun k hk => Below.heap_setCell _ _ _ _ hk
  refine ⟨⟨(h.mb.kept hb3).upd 8 _ rfl, h.lo, h.pi.kept hB4 (Nat.le_refl _), h.tx.below hB4, row_kept h.cap (fun k hk => ?_), own_setCell ho hbz, row_kept h.wd (fun k hk => ?_), h.bit, by show V.z2 + 1 = _; rw [h.zl]; rfl, h.wl, h.okm, fun u hu => ?_, h.okc, by show st.length + 1 ≤ _; omega⟩, hB4, h.mb.kept hb3⟩
  · simp [Value.ownBlock] at hk
    subst hk
    exact (ho4 _ h.ub_ne).trans (hkk _ (h.cap.lt _ rfl).2 h.row_ub)
  · exact (ho4 _ (fun e => h.wd_b (by rw [← e]; exact hk))).trans (hkk _ (h.wd.lt _ hk).2 (own_apart h.wd h.row (by decide) hk))
  · rcases List.mem_cons.1 hu with rfl | hu
    · exact ht
    · exact h.okt u hu
set_option maxRecDepth 100000 in
set_option maxHeartbeats 4000000 in
theorem push47 {w : World} {B b : Nat} {l : List In} {tx : List Int} {C : Bk} {V : Bv} {st : List Tk} {m : List Pt} {cp : List Int} {W : List Nat} (t : Tk) (p q : Int) (hcs : t.cs = [.int .i32 p, .int .i32 q]) (h : BI w B b l tx C V st m cp W) (ht : t.ok C.n C.a C.tn C.K) (hst : st.length ≤ m.length) (hm : m.length ≤ 16777216) :
    Calls Try.prog 47 #[.pointer (some ⟨b, 8, none⟩), .agg #[.int .i32 p, .int .i32 q]] w fun e w' => e = .returned (.tuple #[]) ∧ ∃ y1 y3 mo, BI w' B b l tx C { V with z1 := y1, z2 := V.z2 + 1, z3 := y3, most := mo } (t :: st) m cp W ∧ Below B w w' := by
  obtain ⟨i2, hi2, hz20, hz21, hz22⟩ := info_parts info97
  obtain ⟨U, hU⟩ : ∃ U, U = w.alloc (.cells #[.int .i32 p, .int .i32 q] 97) := ⟨_, rfl⟩
  have hbU : Below w.heap.size w U := by rw [hU]; exact Joins.below_alloc1 w _
  have hX : U.heap[w.heap.size]? = some (.cells #[.int .i32 p, .int .i32 q] 97 (0, 0)) := by rw [hU]; exact heap_alloc_new w _
  have hUs : U.heap.size = w.heap.size + 1 := by rw [hU]; simp
  have hBU := h.below hbU
  obtain ⟨y, hy⟩ : ∃ y, y = w.heap.size := ⟨_, rfl⟩
  have x0 := Joins.cell_of_block hX 0
  have x1 := Joins.cell_of_block hX 1
  simp at x0 x1
  rw [← hy] at x0 x1
  have c8 := hBU.mb.c 8
  simp at c8
  have HB := hid hBU
  have H0 := hid h
  have HBU := hid hbU
  have HCS := hid hcs
  have hbl := h.mb.lt
  have hzl := h.zl
  have HZL := hid hzl
  have hsm : V.z2 ≤ 16777217 := by omega
  have hNU : B ≤ U.heap.size := hBU.size
  clear h hBU hbU hX hzl
  obtain ⟨w1, w2, w3, z1, z2, z3, most, fok, f1, f2, f3, fw, fs⟩ := V
  dsimp only at *
  go_enter Try.func47, Try.ntmps47
  go_upto_region 1 with fail
  rw [← hU, ← hy]
  have HY := hid hy
  have HUS := hid hUs
  clear hU hy hUs
  refine wp_region_lex 6 10 (fun W => W.cell? ⟨b, 8, none⟩ = some (.slice z1 z2 z3) ∧ W.cell? ⟨y, 0, none⟩ = some (.int .i32 p) ∧ W.cell? ⟨y, 1, none⟩ = some (.int .i32 q)) (by kernel_rfl) (by kernel_rfl) (by decide) (by kernel_rfl) (by kernel_rfl) (by simpa using ⟨c8, x0, x1⟩) ?_
  simp only [List.take_succ_cons, List.take_zero, List.drop_succ_cons, List.drop_zero]
  iterate 6
    refine lex_cons ?_ rfl (fun W hW => ?_) (fun _ _ _ h => h) ?_
    rotate_left
    · obtain ⟨s0, s1, s2⟩ := hW
      go_simp <;> with_reducible rfl
    simp only [Act.put, List.setIfInBounds_toArray, List.set_cons_zero, List.set_cons_succ]
  obtain ⟨A, hA⟩ : ∃ A, A = (U.alloc (.cells #[.int .i32 p, .int .i32 q] 97)).drew := ⟨_, rfl⟩
  have hAU : Below U.heap.size U A := by rw [hA]; exact (Joins.below_alloc1 U _).trans ((Eqw.drew _).below _)
  have hAw : Below w.heap.size w A := HBU.out.trans (Joins.below_le hAU (by have := HUS.out; omega))
  have hBA := H0.out.below hAw
  have hAX : A.heap[U.heap.size]? = some (.cells #[.int .i32 p, .int .i32 q] 97 (0, 0)) := by rw [hA]; exact heap_alloc_new U _
  have a8 : A.cell? ⟨b, 8, none⟩ = some (.slice z1 z2 z3) := by have := hBA.mb.c 8; simpa using this
  have ay0 : A.cell? ⟨y, 0, none⟩ = some (.int .i32 p) := (hAU.cell (p := ⟨y, 0, none⟩) (by show y < _; have := HY.out; have := HUS.out; omega)).trans x0
  have ay1 : A.cell? ⟨y, 1, none⟩ = some (.int .i32 q) := (hAU.cell (p := ⟨y, 1, none⟩) (by show y < _; have := HY.out; have := HUS.out; omega)).trans x1
  have HROW := hid hBA.row
  have hAs : B ≤ A.heap.size := hBA.size
  have HAW := hid hAw
  have HBA := hid hBA
  clear hAU hAw hBA
  refine lex_nil (tail_cons fun KK hKK => ?_)
  go_simp
  rw [← hA]
  clear hA
  refine hKK.out _ _ (fun _ => ⟨a8, ay0, ay1⟩) (tail_cons fun KK hKK => ?_)
  refine step_append_row rfl (.tmp 8) (.tmp 10) 63 rfl B 97 i2 (.agg #[.int .i32 0, .int .i32 0]) 2 8 Try.underlying63 hi2 hz20 hz21 hz22 rfl (by decide) (.slice z1 z2 z3) z2 (stk st) (by simp [Act.eval, Act.put]) (by exact HROW.out) U.heap.size 1 1 #[.int .i32 p, .int .i32 q] 97 (by simp [Act.eval, Act.put]) hAX rfl (by decide) (by simp [Value.oneCell']) (by unfold maxLen; omega) (by omega) hAs ?_
  intro v3 wa ho3 hf3
  obtain ⟨y1, y3, rfl, hc1, hc2⟩ := row_shape ho3.out
  have hpu := H0.out.pushed (t := t) HAW.out ht hst (by rw [HCS.out]; exact ho3.out) hf3.out
  dsimp only at hpu
  obtain ⟨p1, p2, p3⟩ := hpu
  have q8 := p3.c 8
  have v8 := p3.u 8
  simp at q8
  have HP1 := hid p1
  have HP2 := hid p2
  have hyn : (Value.slice z1 z2 z3).ownBlock ≠ some y := fun e => by have := (H0.out.row.lt y e).2; have := HY.out; omega
  have hyb : wa.heap[y]? = A.heap[y]? := hf3.out.block y (by have := HAW.out.size; have := HY.out; have := (Array.getElem?_eq_some_iff.1 hAX).1; have := HUS.out; omega) hyn
  have by0 := (cell_eq hyb 0).trans ay0
  have by1 := (cell_eq hyb 1).trans ay1
  have HSS : Hid (wa.cell? ⟨b, 8, none⟩ = some (.slice z1 z2 z3) ∧ wa.cell? ⟨y, 0, none⟩ = some (.int .i32 p) ∧ wa.cell? ⟨y, 1, none⟩ = some (.int .i32 q)) := ⟨q8, by0, by1⟩
  clear p1 p2 p3 hyn hyb by0 by1
  refine hKK.out _ _ (fun _ => ?_) (tail_cons fun KK hKK => ?_)
  · exact HSS.out
  simp only [Act.put, List.setIfInBounds_toArray, List.set_cons_zero, List.set_cons_succ]
  go_simp
  refine hKK.out _ _ (fun _ => ?_) (tail_cons fun KK hKK => ?_)
  · exact HSS.out
  simp only [Act.put, List.setIfInBounds_toArray, List.set_cons_zero, List.set_cons_succ]
  go_simp
  refine hKK.out _ _ (fun _ => ?_) (tail_cons fun KK hKK => ?_)
  · exact HSS.out
  simp only [Act.put, List.setIfInBounds_toArray, List.set_cons_zero, List.set_cons_succ]
  go_simp
  refine hKK.out _ _ (fun h => absurd rfl h) (tail_nil ?_)
  obtain ⟨W1, hW1⟩ : ∃ W1, W1 = wa.setCell ⟨b, 8, none⟩ (.slice y1 (z2 + 1) y3) := ⟨_, rfl⟩
  rw [← hW1] at HP1 HP2 ⊢
  clear hW1
  have r8 := HP1.out.mb.c 8
  have r9 := HP1.out.mb.c 9
  have u9 := HP1.out.mb.u 9
  simp at r8 r9
  clear q8 v8 ho3 hf3 HROW a8 ay0 ay1 x0 x1 c8 hAX
  clear HSS HAW HBA HB HBU
  go_wp2_with fail
  go_region
  all_goals go_wp2
  all_goals go_end0
  have em : ((max most (z2 + 1) : Nat) : Int) = max (most : Int) ((z2 : Int) + 1) := by omega
  obtain ⟨g1, g2⟩ := HP1.out.put (V' := ⟨w1, w2, w3, y1, z2 + 1, y3, max most (z2 + 1), fok, f1, f2, f3, fw, fs⟩) 9 (.int .i64 ((max most (z2 + 1) : Nat) : Int)) rfl ⟨rfl, rfl, rfl⟩ ⟨rfl, rfl, rfl⟩
  rw [em] at g1 g2
  refine ⟨rfl, y1, y3, max most (z2 + 1), ?_, ?_⟩
  · exact g1.below ((Eqw.drew _).below _)
  · exact HP2.out.trans (g2.trans ((Eqw.drew _).below _))
end Go.Proofs.Ytodpmmlfdkdemaa
/- HELPERS: the machine's stack: a task is popped. -/
namespace Go.Proofs.Ytodpmmlfdkdemaa
open Go.RowKit Go.Lk
set_option linter.unusedVariables false
set_option linter.unusedSimpArgs false
theorem results_cell_tmp' {P : Program} {fn : Func} {p u : Tmp} {ty : TypeId} (h : fn.results = #[.cell p ty, .tmp u]) (tmps : Array Value) (w : World) (g : Nat) (t : TypeId) (cs : Array Value) (fr : Nat × Nat) (d : TypeDesc)
    (hp : tmps.getD p undef = .pointer (some ⟨g, 0, none⟩)) (hg : w.heap[g]? = some (.cells cs t fr))
    (hu : P.underlying ty = some d) (hd : (match d with | .struct _ | .array _ _ => true | _ => false) = true) (hi : (P.info? ty).map (·.size) = some cs.size) :
    (results fn tmps).run P w = .ok (.tuple #[.agg cs, tmps.getD u undef]) w := by
  have hp' : tmps[p]?.getD undef = .pointer (some ⟨g, 0, none⟩) := by simpa using hp
  simp [results, h, hp', asAddr, run_loadVar_row w g t ty cs fr d hg hu hd hi]
set_option maxRecDepth 100000 in
set_option maxHeartbeats 4000000 in
theorem pop49_none {w : World} {B b : Nat} {l : List In} {tx : List Int} {C : Bk} {V : Bv} {m : List Pt} {cp : List Int} {W : List Nat} (h : BI w B b l tx C V [] m cp W) :
    Calls Try.prog 49 #[.pointer (some ⟨b, 8, none⟩)] w fun e w' => e = .returned (.tuple #[.agg #[.int .i32 0, .int .i32 0], .bool false]) ∧ Below w.heap.size w w' := by
  have hz : V.z2 = 0 := h.zl
  obtain ⟨U, hU⟩ : ∃ U, U = (w.alloc (.cells #[.int .i32 0, .int .i32 0] 97)).alloc (.cells #[.int .i32 0, .int .i32 0] 97) := ⟨_, rfl⟩
  have hb : Below w.heap.size w U := by rw [hU]; exact below_two' w _ _
  have hX : U.heap[w.heap.size]? = some (.cells #[.int .i32 0, .int .i32 0] 97 (0, 0)) := by rw [hU]; exact (heap_alloc_old _ _ (by simp)).trans (heap_alloc_new w _)
  have hY : U.heap[w.heap.size + 1]? = some (.cells #[.int .i32 0, .int .i32 0] 97 (0, 0)) := by rw [hU]; exact two_new w _ _ _
  obtain ⟨x, hx⟩ : ∃ x, x = w.heap.size := ⟨_, rfl⟩
  obtain ⟨y, hy⟩ : ∃ y, y = w.heap.size + 1 := ⟨_, rfl⟩
  have c8 := (h.below hb).mb.c 8
  simp at c8
  rw [hz] at c8
  rw [← hx] at hX hb
  rw [← hy] at hY
  have x0 := Joins.cell_of_block hX 0
  have x1 := Joins.cell_of_block hX 1
  have s0 := Joins.unfrozen_of_block hX 0
  have s1 := Joins.unfrozen_of_block hX 1
  have y0 := Joins.cell_of_block hY 0
  have y1 := Joins.cell_of_block hY 1
  simp at x0 x1 y0 y1
  have HX := hid hX
  have HB := hid hb
  have HXE := hid hx
  have hxy : x ≠ y := by omega
  clear h hX hY hb hz
  go_enter Try.func49, Try.ntmps49
  go_upto_region 2 with fail
  rw [← hU, ← hy, ← hx]
  clear hU hx hy
  go_wp2
  refine bodyPost_ret (results_cell_tmp' rfl _ _ x 97 _ (0, 0) _ rfl (Joins.block_setCell (i := 1) (Joins.block_setCell (i := 0) HX.out _) _) Try.underlying97 rfl (by kernel_rfl)) rfl ?_
  refine ⟨rfl, ?_⟩
  rw [← HXE.out]
  exact (HB.out.setCell (p := ⟨x, 0, none⟩) (Nat.le_refl _) _).setCell (p := ⟨x, 1, none⟩) (Nat.le_refl _) _
theorem own_pop {w : World} {bs e size n c : Nat} {z : Option Addr} {xs ys : List Value} (h : w.ownsRow bs e size (.slice z (n + 1) c) (n + 1) (xs ++ ys)) (hx : xs.length = n * size) : w.ownsRow bs e size (.slice z n c) n xs := by
  refine ⟨hx, ?_⟩
  rcases h.2 with ⟨_, h0⟩ | ⟨g, cap, cur, e1, h1, h2, h3, h4, h5, h6⟩
  · omega
  · simp only [Value.slice.injEq] at e1
    obtain ⟨rfl, _, rfl⟩ := e1
    refine .inr ⟨g, c, cur, rfl, h1, h2, by omega, h4, h5, ?_⟩
    have : (cur.toList.take ((n + 1) * size)).take (n * size) = (xs ++ ys).take (n * size) := by rw [h6]
    rw [List.take_take, Nat.min_eq_left (Nat.mul_le_mul_right _ (by omega)), ← hx, List.take_left] at this
    rw [← hx]
    exact this
theorem BI.popped {w : World} {B b : Nat} {l : List In} {tx : List Int} {C : Bk} {V : Bv} {t : Tk} {st : List Tk} {m : List Pt} {cp : List Int} {W : List Nat} {zb : Nat} (h : BI w B b l tx C V (t :: st) m cp W) (hz : V.z1 = some ⟨zb, 0, none⟩) (u0 u1 : Value) :
    BI (((w.setCell ⟨zb, st.length * 2, none⟩ u0).setCell ⟨zb, st.length * 2 + 1, none⟩ u1).drew.setCell ⟨b, 8, none⟩ (.slice (some ⟨zb, 0, none⟩) st.length V.z3)) B b l tx C { V with z2 := st.length } st m cp W ∧ Below B w (((w.setCell ⟨zb, st.length * 2, none⟩ u0).setCell ⟨zb, st.length * 2 + 1, none⟩ u1).drew.setCell ⟨b, 8, none⟩ (.slice (some ⟨zb, 0, none⟩) st.length V.z3)) := by
  have hrow := h.row
  have hz2 : V.z2 = st.length + 1 := h.zl
  rw [hz, hz2] at hrow
  have hlt := hrow.lt zb rfl
  have hzb : zb ≠ b := fun e => own_ne hrow h.mb (by decide) (by rw [e]; rfl)
  have hzu : zb ≠ C.ub := fun e => h.row_ub (by rw [hz, e]; rfl)
  obtain ⟨W1, hW1⟩ : ∃ W1, W1 = (w.setCell ⟨zb, st.length * 2, none⟩ u0).setCell ⟨zb, st.length * 2 + 1, none⟩ u1 := ⟨_, rfl⟩
  have r1 := row_setC (row_setC hrow (st.length * 2) u0) (st.length * 2 + 1) u1
  rw [← hW1] at r1 ⊢
  have hl := stk_len st
  rw [stk, List.set_append_right _ _ (by omega), List.set_append_right _ _ (by omega)] at r1
  have r2 := own_pop r1 hl
  have ho1 : ∀ k, k ≠ zb → W1.heap[k]? = w.heap[k]? := fun k hk => by rw [hW1]; exact (Below.heap_setCell _ _ _ _ hk).trans (Below.heap_setCell _ _ _ _ hk)
  have hb1 : Below B w W1 := by rw [hW1]; exact ((Below.refl B w).setCell (p := ⟨zb, _, none⟩) hlt.1 _).setCell (p := ⟨zb, _, none⟩) hlt.1 _
  have hb2 : Below B w (W1.drew.setCell ⟨b, 8, none⟩ (.slice (some ⟨zb, 0, none⟩) st.length V.z3)) := (hb1.trans ((Eqw.drew W1).below _)).setCell (p := ⟨b, 8, none⟩) h.lo _
  have ho2 : ∀ k, k ≠ b → (W1.drew.setCell ⟨b, 8, none⟩ (.slice (some ⟨zb, 0, none⟩) st.length V.z3)).heap[k]? = W1.heap[k]? := fun k hk => Below.heap_setCell _ _ _ _ hk
  have hbm : BM W1.drew b C V := h.mb.kept (ho1 b (fun e => hzb e.symm))
  refine ⟨⟨hbm.upd 8 _ ?_, h.lo, h.pi.kept hb2 (Nat.le_refl _), h.tx.below hb2, row_kept h.cap (fun k hk => ?_), ?_, row_kept h.wd (fun k hk => ?_), h.bit, rfl, h.wl, h.okm, fun u hu => h.okt u (List.mem_cons_of_mem _ hu), h.okc, ?_⟩, hb2⟩
  · simp [bcs, hz]
  · simp [Value.ownBlock] at hk
    subst hk
    exact (ho2 _ h.ub_ne).trans (ho1 _ (fun e => hzu e.symm))
  · show World.ownsRow _ B 97 2 (.slice V.z1 st.length V.z3) st.length (stk st)
    rw [hz]
    exact own_setCell (a := ⟨b, 8, none⟩) (show W1.drew.ownsRow B 97 2 _ _ _ from r2) (by simp [Value.ownBlock]; exact hzb)
  · exact (ho2 _ (fun e => h.wd_b (by rw [← e]; exact hk))).trans (ho1 _ (fun e => own_apart h.wd h.row (by decide) hk (by rw [hz, e]; rfl)))
  · have := h.stl
    simp only [List.length_cons] at this
    omega
set_option maxRecDepth 100000 in
set_option maxHeartbeats 4000000 in
theorem pop49_some {w : World} {B b : Nat} {l : List In} {tx : List Int} {C : Bk} {V : Bv} {t : Tk} {st : List Tk} {m : List Pt} {cp : List Int} {W : List Nat} (p q' : Int) (hcs : t.cs = [.int .i32 p, .int .i32 q']) (h : BI w B b l tx C V (t :: st) m cp W) (hm : m.length ≤ 16777216) :
    Calls Try.prog 49 #[.pointer (some ⟨b, 8, none⟩)] w fun e w' => e = .returned (.tuple #[.agg #[.int .i32 p, .int .i32 q'], .bool true]) ∧ BI w' B b l tx C { V with z2 := st.length } st m cp W ∧ Below B w w' := by
  have hz : V.z2 = st.length + 1 := h.zl
  have hsl := h.stl
  simp only [List.length_cons] at hsl
  obtain ⟨U, hU⟩ : ∃ U, U = (w.alloc (.cells #[.int .i32 0, .int .i32 0] 97)).alloc (.cells #[.int .i32 0, .int .i32 0] 97) := ⟨_, rfl⟩
  have hb : Below w.heap.size w U := by rw [hU]; exact below_two' w _ _
  have hX : U.heap[w.heap.size]? = some (.cells #[.int .i32 0, .int .i32 0] 97 (0, 0)) := by rw [hU]; exact (heap_alloc_old _ _ (by simp)).trans (heap_alloc_new w _)
  have hY : U.heap[w.heap.size + 1]? = some (.cells #[.int .i32 0, .int .i32 0] 97 (0, 0)) := by rw [hU]; exact two_new w _ _ _
  have hBU := h.below hb
  obtain ⟨zb, hzb⟩ : ∃ zb, V.z1 = some ⟨zb, 0, none⟩ := by
    rcases h.row.2 with ⟨_, e⟩ | ⟨g, cap, cur, e, _⟩
    · omega
    · simp only [Value.slice.injEq] at e; exact ⟨g, e.1⟩
  obtain ⟨x, hx⟩ : ∃ x, x = w.heap.size := ⟨_, rfl⟩
  obtain ⟨y, hy⟩ : ∃ y, y = w.heap.size + 1 := ⟨_, rfl⟩
  obtain ⟨k, hk⟩ : ∃ k, k = st.length := ⟨_, rfl⟩
  have c8 := hBU.mb.c 8
  have u8 := hBU.mb.u 8
  simp at c8
  have hrow := hBU.row
  rw [hzb, hz, ← hk] at c8 hrow
  have hzlt := (hrow.lt zb rfl)
  have k0 := (hrow.cellAt (k * 2) (by omega)).trans (show (stk (t :: st))[k * 2]? = t.cs[0]? from by have := stk_top t st 0 (by omega); rw [hk]; simpa using this)
  have k1 := (hrow.cellAt (k * 2 + 1) (by omega)).trans (show (stk (t :: st))[k * 2 + 1]? = t.cs[1]? from by have := stk_top t st 1 (by omega); rw [hk]; simpa using this)
  rw [hcs] at k0 k1
  simp at k0 k1
  have f0 := hrow.frozenAt (k * 2)
  have f1 := hrow.frozenAt (k * 2 + 1)
  rw [← hx] at hX hb
  rw [← hy] at hY
  have x0 := Joins.cell_of_block hX 0
  have x1 := Joins.cell_of_block hX 1
  have s0 := Joins.unfrozen_of_block hX 0
  have s1 := Joins.unfrozen_of_block hX 1
  have y0 := Joins.cell_of_block hY 0
  have y1 := Joins.cell_of_block hY 1
  simp at x0 x1 y0 y1
  have a1 : IntKind.i64.wrap (((k + 1 : Nat) : Int) - 1) = (k : Int) := by rw [wrap_ok _ (by omega) (by omega)]; omega
  have a2 : IntKind.i64.wrap (k : Int) = (k : Int) := wrap_ok _ (by omega) (by omega)
  have hk2 : k < 9223372036854775807 := by omega
  have b1 : decide ((k : Int) < 0) = false := by simp
  have b2 : (k : Int) < ((k + 1 : Nat) : Int) := by omega
  have b3 : (k : Int) < (k : Int) + 1 := by omega
  have hcap := row_shape hrow
  have hc2 : k + 1 ≤ V.z3 := by
    obtain ⟨a, c, e, h1, _⟩ := hcap
    simp only [Value.slice.injEq] at e
    omega
  have b4 : (k : Int) ≤ (V.z3 : Int) := by omega
  have HX := hid hX
  have HY := hid hY
  have HB := hid hb
  have HXE := hid hx
  have HYE := hid hy
  have HBU := hid hBU
  have HK := hid hk
  have HZB := hid hzb
  have HZ := hid hz
  have hxy : x ≠ y := by omega
  have hzx : zb ≠ x := fun e => by have h1 := (h.row.lt zb (by rw [hzb]; rfl)).2; omega
  have hzy : zb ≠ y := fun e => by have h1 := (h.row.lt zb (by rw [hzb]; rfl)).2; omega
  have hbx : b ≠ x := fun e => by have h1 := h.mb.lt; omega
  have H0 := hid h
  clear h hX hY hb hz hrow hBU hcap hcs hsl
  go_enter Try.func49, Try.ntmps49
  go_upto_region 2 with fail
  rw [← hU, ← hy, ← hx]
  clear hU hx hy hk hzb
  go_upto_region 6 with fail
  obtain ⟨U2, hU2⟩ : ∃ U2, U2 = U.alloc (.cells #[.int .i32 p, .int .i32 q'] 97) := ⟨_, rfl⟩
  obtain ⟨v, hv⟩ : ∃ v, v = U.heap.size := ⟨_, rfl⟩
  rw [← hU2, ← hv]
  have hb2 : Below U.heap.size U U2 := by rw [hU2]; exact Joins.below_alloc1 U _
  have hV : U2.heap[v]? = some (.cells #[.int .i32 p, .int .i32 q'] 97 (0, 0)) := by rw [hU2, hv]; exact heap_alloc_new U _
  clear hU2
  have HB2 := hid hb2
  have hxU : x < U.heap.size := (Array.getElem?_eq_some_iff.1 HX.out).1
  have hyU : y < U.heap.size := (Array.getElem?_eq_some_iff.1 HY.out).1
  have hBU2 := HBU.out.below hb2
  have HX2 : Hid (U2.heap[x]? = some (.cells #[.int .i32 0, .int .i32 0] 97 (0, 0))) := (hb2.block x hxU).trans HX.out
  replace c8 := (hb2.cell (p := ⟨b, 8, none⟩) HBU.out.mb.lt).trans c8
  replace u8 := hBU2.mb.u 8
  replace k0 := (hb2.cell (p := ⟨zb, k * 2, none⟩) hzlt.2).trans k0
  replace k1 := (hb2.cell (p := ⟨zb, k * 2 + 1, none⟩) hzlt.2).trans k1
  replace x0 := (hb2.cell (p := ⟨x, 0, none⟩) hxU).trans x0
  replace x1 := (hb2.cell (p := ⟨x, 1, none⟩) hxU).trans x1
  replace y0 := (hb2.cell (p := ⟨y, 0, none⟩) hyU).trans y0
  replace y1 := (hb2.cell (p := ⟨y, 1, none⟩) hyU).trans y1
  replace s0 := Joins.unfrozen_of_block HX2.out 0
  replace s1 := Joins.unfrozen_of_block HX2.out 1
  have hrow := hBU2.row
  rw [HZB.out, HZ.out, ← HK.out] at hrow
  replace f0 := hrow.frozenAt (k * 2)
  replace f1 := hrow.frozenAt (k * 2 + 1)
  have v0 := Joins.cell_of_block hV 0
  have v1 := Joins.cell_of_block hV 1
  simp at v0 v1
  have HROW := hid hrow
  have HBU2 := hid hBU2
  have hzv : zb ≠ v := by omega
  have hbv : b ≠ v := by have := HBU.out.mb.lt; omega
  have hxv : x ≠ v := by omega
  have HV := hid hV
  clear hb2 hV hrow hBU2 hv
  obtain ⟨z0, hz0⟩ : ∃ z0, z0 = (((U2.setCell ⟨zb, k * 2, none⟩ (.int .i32 0)).setCell ⟨zb, k * 2 + 1, none⟩ (.int .i32 0)).drew.setCell ⟨b, 8, none⟩ (.slice (some ⟨zb, 0, none⟩) k V.z3)) := ⟨_, rfl⟩
  have HPO := hid (HBU2.out.popped HZB.out (.int .i32 0) (.int .i32 0))
  rw [← HK.out, ← hz0] at HPO
  have HZ0 := hid hz0
  clear hz0
  go_region
  go_upto_region 7 with fail
  obtain ⟨W1, hW1⟩ : ∃ W1, W1 = ((U2.setCell ⟨zb, k * 2, none⟩ (.int .i32 0)).setCell ⟨zb, k * 2 + 1, none⟩ (.int .i32 0)).drew := ⟨_, rfl⟩
  rw [← hW1]
  rw [← hW1] at HZ0
  have ho1 : ∀ q, q ≠ zb → W1.heap[q]? = U2.heap[q]? := fun q hq => by rw [hW1]; exact (Below.heap_setCell _ _ _ _ hq).trans (Below.heap_setCell _ _ _ _ hq)
  have hbz : b ≠ zb := fun e => HBU2.out.row_b (by rw [HZB.out, e]; rfl)
  replace c8 := (cell_eq (ho1 b hbz) 8).trans c8
  replace u8 := (frz_eq (ho1 b hbz) 8).trans u8
  replace v0 := (cell_eq (ho1 v (fun e => hzv e.symm)) 0).trans v0
  replace v1 := (cell_eq (ho1 v (fun e => hzv e.symm)) 1).trans v1
  replace x0 := (cell_eq (ho1 x (fun e => hzx e.symm)) 0).trans x0
  replace x1 := (cell_eq (ho1 x (fun e => hzx e.symm)) 1).trans x1
  replace s0 := (frz_eq (ho1 x (fun e => hzx e.symm)) 0).trans s0
  replace s1 := (frz_eq (ho1 x (fun e => hzx e.symm)) 1).trans s1
  have HX3 : Hid (W1.heap[x]? = some (.cells #[.int .i32 0, .int .i32 0] 97 (0, 0))) := (ho1 x (fun e => hzx e.symm)).trans HX2.out
  clear hW1 ho1 k0 k1 f0 f1 y0 y1
  have hbx' : x ≠ b := fun e => hbx e.symm
  have hvb : v ≠ b := fun e => hbv e.symm
  have hvx : v ≠ x := fun e => hxv e.symm
  go_wp2
  have hx4 : (W1.setCell ⟨b, 8, none⟩ (.slice (some ⟨zb, 0, none⟩) k V.z3)).heap[x]? = some (.cells #[.int .i32 0, .int .i32 0] 97 (0, 0)) := (Below.heap_setCell _ _ _ _ hbx').trans HX3.out
  refine bodyPost_ret (results_cell_tmp' rfl _ _ x 97 _ (0, 0) _ rfl (Joins.block_setCell (i := 1) (Joins.block_setCell (i := 0) hx4 _) _) Try.underlying97 rfl (by kernel_rfl)) rfl ?_
  have hBx : B ≤ x := by rw [HXE.out]; exact H0.out.size
  have hPO := HPO.out
  rw [HZ0.out] at hPO
  have hlast : ∀ q, q ≠ x → (((W1.setCell ⟨b, 8, none⟩ (.slice (some ⟨zb, 0, none⟩) k V.z3)).setCell ⟨x, 0, none⟩ (.int .i32 p)).setCell ⟨x, 1, none⟩ (.int .i32 q')).heap[q]? = (W1.setCell ⟨b, 8, none⟩ (.slice (some ⟨zb, 0, none⟩) k V.z3)).heap[q]? := fun q hq => (Below.heap_setCell _ _ _ _ hq).trans (Below.heap_setCell _ _ _ _ hq)
  have hbl : Below B (W1.setCell ⟨b, 8, none⟩ (.slice (some ⟨zb, 0, none⟩) k V.z3)) (((W1.setCell ⟨b, 8, none⟩ (.slice (some ⟨zb, 0, none⟩) k V.z3)).setCell ⟨x, 0, none⟩ (.int .i32 p)).setCell ⟨x, 1, none⟩ (.int .i32 q')) := ((Below.refl B _).setCell (p := ⟨x, 0, none⟩) hBx _).setCell (p := ⟨x, 1, none⟩) hBx _
  refine ⟨rfl, ?_, ?_⟩
  · rw [← HK.out]
    refine hPO.1.keep hbl (hlast b hbx) (hlast _ (fun e => by have h1 := (H0.out.cap.lt C.ub rfl).2; have h2 := HXE.out; rw [e] at h1; omega)) (fun j hj => hlast j (fun e => ?_)) (fun j hj => hlast j (fun e => ?_))
    · have hj' : (Value.slice V.z1 k V.z3).ownBlock = some j := hj
      rw [HZB.out] at hj'
      simp [Value.ownBlock] at hj'
      omega
    · have := (H0.out.wd.lt j hj).2; have := HXE.out; omega
  · refine (Joins.below_le HB.out hBx).trans ((Joins.below_le HB2.out (by have := hzlt; omega)).trans (hPO.2.trans hbl))
end Go.Proofs.Ytodpmmlfdkdemaa
/- HELPERS: noughts are put behind a row of the call's own. -/
namespace Go.Proofs.Ytodpmmlfdkdemaa
open Go.RowKit Go.Lk
set_option linter.unusedVariables false
set_option linter.unusedSimpArgs false
theorem zeroCells_one (z : Value) (hz : z.cells = #[z]) (n : Nat) : Builtin.zeroCells z.cells n = (List.replicate n z).toArray := by
  rw [hz]
  unfold Builtin.zeroCells
  apply Array.ext
  · simp
  · intro i h1 h2
    simp [Nat.mod_one]
theorem run_append_room_zeros {P : Program} (w : World) (t tn ty e : TypeId) (i : TypeInfo) (z : Value) (kq kn : IntKind) (ht : P.underlying t = some (.slice e)) (htn : P.underlying tn = some (.int kn)) (hi : P.info? e = some i) (hz : i.zero = some z) (hzc : z.cells = #[z]) (hs : i.size = 1) (h1 : z.oneCell' = true)
    (g sLen sCap : Nat) (cur : Array Value) (hg : w.heap[g]? = some (.cells cur e (0, 0))) (k : Nat) (h0 : 0 < k) (hroom : sLen + k ≤ sCap) (hfit : sLen + k ≤ cur.size) (h63 : (k : Int) ≤ 9223372036854775807) (h48 : k * i.bytes ≤ 281474976710656) :
    (Builtin.append_ #[t, tn] ty #[.slice (some ⟨g, 0, none⟩) sLen sCap, .int kq k]).run P w =
      .ok (.slice (some ⟨g, 0, none⟩) (sLen + k) sCap) (w.setRow g (cur.toList.take sLen ++ List.replicate k z ++ cur.toList.drop (sLen + k)).toArray) := by
  have hk : k ≠ 0 := by omega
  have hw : IntKind.i64.wrap (k : Int) = k := by rw [IntKind.wrap_i64]; omega
  have h48i : ¬ (281474976710656 < (k : Int) * (i.bytes : Int)) := by
    rw [← Int.natCast_mul]
    omega
  have hneg : ¬ ((k : Int) < 0) := by omega
  have hst := run_storeCells_at P g (sLen * i.size) e (List.replicate k z) 0 cur w hg (by simp [hs]; omega) (fun u hu => by rw [List.eq_of_mem_replicate hu]; exact h1)
  simp only [Nat.add_zero, hs, Nat.mul_one, List.length_replicate] at hst
  have hzz := zeroCells_one z hzc k
  simp [Builtin.append_, run_underlying ht, run_underlying htn, sizeOf, typeInfo, zeroValue, hi, hz, asInt, asIntOf, hw, hk, hneg, h48i, hs, hroom, Addr.add_lit, hst, hzz]
theorem run_append_zeros_own {P : Program} (w : World) (base : Nat) (t tn ty e : TypeId) (i : TypeInfo) (z : Value) (bytes : Nat) (kq kn : IntKind) (ht : P.underlying t = some (.slice e)) (htn : P.underlying tn = some (.int kn)) (hi : P.info? e = some i) (hz : i.zero = some z) (hzc : z.cells = #[z]) (hs : i.size = 1) (hby : i.bytes = bytes) (h1 : z.oneCell' = true)
    (v : Value) (n : Nat) (xs : List Value) (hown : w.ownsRow base e 1 v n xs) (k : Nat) (h0 : 0 < k) (h63 : n + k ≤ maxLen) (hbytes : (n + k) * bytes ≤ 140737488355328) (hbase : base ≤ w.heap.size) :
    ∃ v' w', (Builtin.append_ #[t, tn] ty #[v, .int kq k]).run P w = .ok v' w' ∧ w'.ownsRow base e 1 v' (n + k) (xs ++ List.replicate k z) ∧ Moved w w' v v' := by
  subst hby
  have hkb : k * i.bytes ≤ 140737488355328 := Nat.le_trans (Nat.mul_le_mul_right _ (by omega)) hbytes
  have hsmall : n + k ≤ 9223372036854775807 := by simp only [maxLen] at h63; omega
  have hlen : (xs ++ List.replicate k z).length = (n + k) * 1 := by rw [List.length_append, hown.1, List.length_replicate]; omega
  have grown : ∀ (old : Nat), old < n + k →
      (w.drew.alloc (.cells (xs.toArray ++ Builtin.zeroCells z.cells k ++ Builtin.zeroCells z.cells (grownCap w (n + k) old e - (n + k))) e)).ownsRow base e 1
        (.slice (some ⟨w.heap.size, 0, none⟩) (n + k) (grownCap w (n + k) old e)) (n + k) (xs ++ List.replicate k z) ∧
      w.grownBy (w.drew.alloc (.cells (xs.toArray ++ Builtin.zeroCells z.cells k ++ Builtin.zeroCells z.cells (grownCap w (n + k) old e - (n + k))) e)) none := by
    intro old ho
    have hge := grownCap_ge w (n + k) old e
    have hcm : grownCap w (n + k) old e ≤ maxLen := grownCap_le_maxLen w (n + k) old e h63
    refine ⟨⟨hlen, .inr ⟨w.heap.size, _, _, rfl, hbase, heap_alloc_new w.drew _, hge, hcm, ?_, ?_⟩⟩, ⟨rfl, rfl, rfl, by simp, fun q hq _ => heap_alloc_old w.drew _ hq⟩⟩
    · simp only [zeroCells_one z hzc, Array.size_append, List.size_toArray, List.length_replicate, hown.1]
      omega
    · simp only [zeroCells_one z hzc, Array.toList_append, ← hlen]
      exact List.take_left
  rcases hown.2 with ⟨rfl, rfl⟩ | ⟨g, cap, cur, rfl, hbg, hg, hnc, hcm, hcs, htake⟩
  · have hx : xs = [] := List.eq_nil_of_length_eq_zero (by simpa using hown.1)
    subst hx
    have hr := Lib.run_append_nil_zeros (P := P) w t tn ty e i z kq kn ht htn hi hz k h0 (by omega) (by omega) (by omega)
    have hgr := grown 0 (by omega)
    simp only [Nat.zero_add, List.nil_append, Array.empty_append] at hgr ⊢
    exact ⟨_, _, hr, hgr.1, .inr ⟨rfl, hgr.2⟩⟩
  · by_cases hroom : n + k ≤ cap
    · have hr := run_append_room_zeros (P := P) w t tn ty e i z kq kn ht htn hi hz hzc hs h1 g n cap cur hg k h0 hroom (by omega) (by omega) (by omega)
      refine ⟨_, _, hr, ⟨hlen, .inr ⟨g, cap, _, rfl, hbg, setRow_heap w g cur _ e _ hg, hroom, hcm, ?_, ?_⟩⟩, .inl ⟨rfl, ⟨rfl, rfl, rfl, by simp, fun q _ hq => setRow_other w g q _ (fun e => hq (by simp [Value.ownBlock, e]))⟩⟩⟩
      · simp only [List.size_toArray, List.length_append, List.length_take, List.length_drop, Array.length_toList, List.length_replicate]
        omega
      · have htk : cur.toList.take n = xs := by simpa using htake
        rw [htk, ← hlen]
        exact List.take_left
    · have holds : ∀ j u, xs[j]? = some u → w.cell? ((⟨g, 0, none⟩ : Addr).add j) = some u := hown.cells (g := g) rfl
      have hf := run_firstCells_some (P := P) w.drew i.size n ⟨g, 0, none⟩ n cap xs (by rw [hs]; exact hown.1) holds
      have hr := Lib.run_append_grow_zeros (P := P) w t tn ty e i z kq kn ht htn hi hz (some ⟨g, 0, none⟩) n cap xs hf k h0 (by omega) (by omega) (by omega) (by omega) (growslice_fits (by omega) hbytes)
      have hgr := grown cap (by omega)
      exact ⟨_, _, hr, hgr.1, .inr ⟨rfl, hgr.2⟩⟩
end Go.Proofs.Ytodpmmlfdkdemaa
/- HELPERS: the machine's map: a pair is met. -/
namespace Go.Proofs.Ytodpmmlfdkdemaa
open Go.RowKit Go.Lk
set_option linter.unusedVariables false
set_option linter.unusedSimpArgs false
theorem BI.reached {w w3 : World} {B b : Nat} {l : List In} {tx : List Int} {C : Bk} {V : Bv} {st : List Tk} {m : List Pt} {cp : List Int} {W : List Nat} {k y2 y3 : Nat} {y1 : Option Addr} (h : BI w B b l tx C V st m cp W) (hk : W.length + k ≤ 300000) (hy : y2 = V.w2 + k)
    (ho : w3.ownsRow B 119 1 (.slice y1 y2 y3) y2 (U64 (W ++ List.replicate k 0))) (hf : Frm w w3 (.slice V.w1 V.w2 V.w3) (.slice y1 y2 y3)) :
    BI (w3.setCell ⟨b, 7, none⟩ (.slice y1 y2 y3)) B b l tx C { V with w1 := y1, w2 := y2, w3 := y3 } st m cp (W ++ List.replicate k 0) ∧ Below B w (w3.setCell ⟨b, 7, none⟩ (.slice y1 y2 y3)) ∧ BM w3 b C V := by
  have hkk : ∀ k, k < w.heap.size → (Value.slice V.w1 V.w2 V.w3).ownBlock ≠ some k → w3.heap[k]? = w.heap[k]? := fun k hk hn => hf.block k hk hn
  have hbz : (Value.slice y1 y2 y3).ownBlock ≠ some b := fun e => by
    rcases hf.own b e with h' | h'
    · exact h.wd_b h'
    · have := h.mb.lt; omega
  have hb3 : w3.heap[b]? = w.heap[b]? := hkk b h.mb.lt h.wd_b
  have hB3 : Below B w w3 := ⟨hf.os, hf.tape, hf.output, hf.size, fun k hk => hkk k (by have := h.size; omega) (fun e => by have := (h.wd.lt k e).1; omega)⟩
  have hB4 : Below B w (w3.setCell ⟨b, 7, none⟩ (.slice y1 y2 y3)) := hB3.setCell (p := ⟨b, 7, none⟩) h.lo _
  have ho4 : ∀ k, k ≠ b → (w3.setCell ⟨b, 7, none⟩ (.slice y1 y2 y3)).heap[k]? = w3.heap[k]? := fun k hk => Below.heap_setCell _ _ _ _ hk
  refine ⟨⟨(h.mb.kept hb3).upd 7 _ rfl, h.lo, h.pi.kept hB4 (Nat.le_refl _), h.tx.below hB4, row_kept h.cap (fun k hk => ?_), row_kept h.row (fun k hk => ?_), own_setCell ho hbz, h.bit.more k hk, h.zl, by show y2 = _; rw [hy, h.wl]; simp, h.okm, h.okt, h.okc, h.stl⟩, hB4, h.mb.kept hb3⟩
  · simp [Value.ownBlock] at hk
    subst hk
    exact (ho4 _ h.ub_ne).trans (hkk _ (h.cap.lt _ rfl).2 h.wd_ub)
  · exact (ho4 _ (fun e => h.row_b (by rw [← e]; exact hk))).trans (hkk _ (h.row.lt _ hk).2 (own_apart h.row h.wd (by decide) hk))
set_option maxRecDepth 100000 in
set_option maxHeartbeats 4000000 in
theorem reach77 {w : World} {B b : Nat} {l : List In} {tx : List Int} {C : Bk} {V : Bv} {st : List Tk} {m : List Pt} {cp : List Int} {W : List Nat} (k : Nat) (h : BI w B b l tx C V st m cp W) (hk : k < 300000) :
    Calls Try.prog 77 #[.pointer (some ⟨b, 5, none⟩), .int .i64 (k : Int)] w fun e w' => e = .returned (.tuple #[]) ∧ ∃ y1 y2 y3 W', BI w' B b l tx C { V with w1 := y1, w2 := y2, w3 := y3 } st m cp W' ∧ k < W'.length ∧ Below B w w' := by
  have hsm := h.bit.sml
  have hwl := h.wl
  have c7 := h.mb.c 7
  have u7 := h.mb.u 7
  simp at c7
  obtain ⟨i2, hi2, hz20, hz21, hz22⟩ := info_parts info68
  by_cases hd : k < W.length
  · have a0 := wrap_ok ((k : Int) + 1) (by omega) (by omega)
    obtain ⟨d, hdd⟩ : ∃ d : Int, d = (k : Int) + 1 - (V.w2 : Int) := ⟨_, rfl⟩
    have a1 : IntKind.i64.wrap ((k : Int) + 1 - (V.w2 : Int)) = d := by rw [wrap_ok _ (by omega) (by omega)]; omega
    have b1 : decide (d > 0) = false := by simp; omega
    have b1' : decide (0 < d) = false := by simp; omega
    have H0 := hid h
    clear h hwl hdd
    go_enter Try.func77, Try.ntmps77
    go_wp2
    all_goals go_end0
    all_goals exact ⟨rfl, V.w1, V.w2, V.w3, W, H0.out, hd, Below.refl _ _⟩
  · obtain ⟨j, hj⟩ : ∃ j, j = k + 1 - W.length := ⟨_, rfl⟩
    have hj1 : 0 < j := by omega
    have a0 := wrap_ok ((k : Int) + 1) (by omega) (by omega)
    have a1 : IntKind.i64.wrap ((k : Int) + 1 - (V.w2 : Int)) = (j : Int) := by rw [wrap_ok _ (by omega) (by omega)]; omega
    have b1 : decide ((j : Int) > 0) = true := by simp; omega
    have b1' : decide (0 < (j : Int)) = true := by simp; omega
    obtain ⟨v', w3, hrun, ho3, hm3⟩ := run_append_zeros_own (P := Try.prog) w B 60 3 0 119 i2 (.int .u64 0) 8 .i64 .i64 Try.underlying60 Try.underlying3 hi2 hz20 rfl hz21 hz22 rfl (.slice V.w1 V.w2 V.w3) V.w2 (U64 W) h.wd j hj1 (by unfold maxLen; omega) (by omega) h.size
    obtain ⟨y1, y3, rfl, _⟩ := row_shape ho3
    rw [show U64 W ++ List.replicate j (.int .u64 0) = U64 (W ++ List.replicate j 0) by simp [U64]] at ho3
    obtain ⟨p1, p2, p3⟩ := h.reached (k := j) (by omega) rfl ho3 hm3.frm
    have q7 := p3.c 7
    have v7 := p3.u 7
    simp at q7
    have HP1 := hid p1
    have HP2 := hid p2
    have HJ := hid hj
    have hlen : k < (W ++ List.replicate j 0).length := by simp; omega
    clear h hwl p1 p2 p3 ho3 hm3 hj
    go_enter Try.func77, Try.ntmps77
    go_wp2_with (at_builtin; refine Lib.wpList_append_run _ rfl _ _ _ _ rfl _ _ rfl rfl _ _ hrun ?_)
    all_goals go_end0
    all_goals exact ⟨rfl, y1, V.w2 + j, y3, _, HP1.out, hlen, HP2.out⟩
/-- the number of a pair -/
theorem enc_bound {n a tn i j : Nat} (hi : i < n) (ha : a ≤ j) (hj : j ≤ tn) (hb : n * (tn - a + 1) ≤ 16777216) : (j - a) * n + i < 16777216 := by
  have := enc_lt (n := n) (i := i) (d := j - a) (q := tn - a + 1) hi (by omega)
  omega
theorem BI.marked {w : World} {B b : Nat} {l : List In} {tx : List Int} {C : Bk} {V : Bv} {st : List Tk} {m : List Pt} {cp : List Int} {W : List Nat} {i j k g : Nat} (h : BI w B b l tx C V st m cp W) (hw : V.w1 = some ⟨g, 0, none⟩) (hi : i < C.n) (ha : C.a ≤ j) (hj : j ≤ C.tn) (hm : (i, j) ∉ m) (hk : k = (j - C.a) * C.n + i) (hq : k / 64 < W.length) :
    BI (w.setCell ⟨g, k / 64, none⟩ (.int .u64 ((W.getD (k / 64) 0 ||| 2 ^ (k % 64) : Nat) : Int))) B b l tx C V st (m ++ [(i, j)]) cp (W.set (k / 64) (W.getD (k / 64) 0 ||| 2 ^ (k % 64))) ∧ Below B w (w.setCell ⟨g, k / 64, none⟩ (.int .u64 ((W.getD (k / 64) 0 ||| 2 ^ (k % 64) : Nat) : Int))) := by
  have hwd := h.wd
  rw [hw] at hwd
  have hlt := hwd.lt g rfl
  obtain ⟨W1, hW1⟩ : ∃ W1, W1 = w.setCell ⟨g, k / 64, none⟩ (.int .u64 ((W.getD (k / 64) 0 ||| 2 ^ (k % 64) : Nat) : Int)) := ⟨_, rfl⟩
  have r1 := row_setC hwd (k / 64) (.int .u64 ((W.getD (k / 64) 0 ||| 2 ^ (k % 64) : Nat) : Int))
  rw [show (U64 W).set (k / 64) (.int .u64 ((W.getD (k / 64) 0 ||| 2 ^ (k % 64) : Nat) : Int)) = U64 (W.set (k / 64) (W.getD (k / 64) 0 ||| 2 ^ (k % 64))) by simp [U64, List.map_set]] at r1
  rw [← hW1] at r1 ⊢
  have ho : ∀ q, q ≠ g → W1.heap[q]? = w.heap[q]? := fun q hq => by rw [hW1]; exact Below.heap_setCell _ _ _ _ hq
  have hb : Below B w W1 := by rw [hW1]; exact (Below.refl B w).setCell (p := ⟨g, _, none⟩) hlt.1 _
  refine ⟨⟨h.mb.kept (ho b (fun e => h.wd_b (by rw [hw, e]; rfl))), h.lo, h.pi.kept hb (Nat.le_refl _), h.tx.below hb, row_kept h.cap (fun q hq' => ho q (fun e => h.wd_ub (by rw [hw, ← e]; simpa [Value.ownBlock] using hq'.symm))), row_kept h.row (fun q hq' => ho q (fun e => own_apart h.row h.wd (by decide) hq' (by rw [hw, e]; rfl))), by rw [hw]; exact r1, h.bit.add hi ha hj hk hq, h.zl, by rw [List.length_set]; exact h.wl, h.okm.add hm hi ha hj, h.okt, h.okc, by have := h.stl; simp; omega⟩, hb⟩
set_option maxRecDepth 100000 in
set_option maxHeartbeats 4000000 in
theorem add53_core {w : World} {B b i j : Nat} {l : List In} {tx : List Int} {C : Bk} {V : Bv} {st : List Tk} {m : List Pt} {cp : List Int} {W : List Nat} (h : BI w B b l tx C V st m cp W) (hi : i < C.n) (ha : C.a ≤ j) (hj : j ≤ C.tn) (hb : C.n * (C.tn - C.a + 1) ≤ 16777216) (hn : C.n ≤ 20000) (ht : C.tn ≤ 4194304) (bb : Bool) (m2 : List Pt) (h1 : bb = true → (i, j) ∈ m ∧ m2 = m) (h2 : bb = false → (i, j) ∉ m ∧ m2 = m ++ [(i, j)]) :
    Calls Try.prog 53 #[.pointer (some ⟨b, 5, none⟩), .int .i64 (i : Int), .int .i64 (j : Int)] w fun e w' => e = .returned (.bool (!bb)) ∧ ∃ y1 y2 y3 W', BI w' B b l tx C { V with w1 := y1, w2 := y2, w3 := y3 } st m2 cp W' ∧ Below B w w' := by
  have H1 := hid h1
  have H2 := hid h2
  clear h1 h2
  obtain ⟨k, hk⟩ : ∃ k, k = (j - C.a) * C.n + i := ⟨_, rfl⟩
  have hkb : k < 16777216 := by rw [hk]; exact enc_bound hi ha hj hb
  have c5 := h.mb.c 5
  have c6 := h.mb.c 6
  simp at c5 c6
  obtain ⟨d, hd⟩ : ∃ d, d = j - C.a := ⟨_, rfl⟩
  obtain ⟨e, he⟩ : ∃ e, e = (j - C.a) * C.n := ⟨_, rfl⟩
  have a0 : IntKind.i64.wrap ((j : Int) - (C.a : Int)) = (d : Int) := by rw [wrap_ok _ (by omega) (by omega)]; omega
  have a1 : IntKind.i64.wrap ((d : Int) * (C.n : Int)) = (e : Int) := by
    have : (d : Int) * (C.n : Int) = (e : Int) := by rw [he, hd]; push_cast; rfl
    rw [this]; exact wrap_ok _ (by omega) (by omega)
  have a2 : IntKind.i64.wrap ((e : Int) + (i : Int)) = (k : Int) := by rw [wrap_ok _ (by omega) (by omega)]; omega
  have a2' : (e : Int) + (i : Int) = (k : Int) := by omega
  have H0 := hid h
  have HK := hid hk
  have HD := hid hd
  have HE := hid he
  clear h hk hd he
  go_enter Try.func53, Try.ntmps53
  go_upto_region 1 with fail
  go_quiet (fail)
  obtain ⟨W0, hW0⟩ : ∃ W0, W0 = w.drewN nq := ⟨_, rfl⟩
  rw [← hW0]
  have HB0 : Hid (Below w.heap.size w W0) := by rw [hW0]; exact (Eqw.drewN w nq).below _
  clear hW0 c5 c6 a0 a1 a2 a2'
  obtain ⟨q, hq⟩ : ∃ q, q = k / 64 := ⟨_, rfl⟩
  obtain ⟨pw, hpw⟩ : ∃ pw, pw = 2 ^ (k % 64) := ⟨_, rfl⟩
  have e1 : IntKind.u64.wrap ((2 : Int) ^ (k % 64)) = (pw : Int) := by
    have := u64_in (2 ^ (k % 64)) (pow_lt k)
    rw [hpw]
    simpa using this
  have e2 : (k : Int) / 64 = (q : Int) := by omega
  have hq2 : q < 300000 := by omega
  have HQ := hid hq
  have HPW := hid hpw
  clear hq hpw
  go_upto_region 2 with fail
  go_quiet (fail)
  rw [e1]
  obtain ⟨W1, hW1⟩ : ∃ W1, W1 = W0.drewN nq := ⟨_, rfl⟩
  rw [← hW1]
  have HB1 : Hid (Below w.heap.size w W1) := by rw [hW1]; exact HB0.out.trans ((Eqw.drewN W0 nq).below _)
  clear hW1 e1 e2
  have HR := reach77 q (H0.out.below HB1.out) hq2
  go_upto_region 4 with (go_at_call 77; (with_reducible refine HR.mono ?_); rintro e w2 ⟨rfl, y1, y2, y3, W', hbi, hlen, hbl⟩; have HBI := hid hbi; have HLEN := hid hlen; have HBL := hid hbl; clear hbi hlen hbl HR)
  obtain ⟨g, hg⟩ : ∃ g, y1 = some ⟨g, 0, none⟩ := by
    rcases HBI.out.wd.2 with ⟨_, e⟩ | ⟨g, cap, cur, e, _⟩
    · have h1 := HBI.out.wl; have h2 := HLEN.out; dsimp only at h1 e; omega
    · simp only [Value.slice.injEq] at e; exact ⟨g, e.1⟩
  subst hg
  have hw2 := HBI.out.wl
  dsimp only at hw2
  have c7 := HBI.out.mb.c 7
  simp at c7
  have hrow := HBI.out.wd
  dsimp only at hrow
  have hlen := HLEN.out
  have d0 : w2.cell? ⟨g, q, none⟩ = some (.int .u64 ((W'.getD q 0 : Nat) : Int)) := by
    rw [hrow.cellAt q (by omega)]
    simp [U64, List.getD_eq_getElem?_getD, hlen]
  have f0 := hrow.frozenAt q
  have b2 : (q : Int) < (y2 : Int) := by omega
  have hhas := HBI.out.bit.has hi ha hj HK.out
  rw [← HQ.out, ← HPW.out] at hhas
  have hor := (bits_nat .u64 64 (by decide) u64_in' _ _ (getD_fit HBI.out.bit.fits q) (pow_lt k)).2
  rw [← HPW.out] at hor
  obtain ⟨x, hx⟩ : ∃ x, x = W'.getD q 0 := ⟨_, rfl⟩
  obtain ⟨z, hz⟩ : ∃ z, z = x ||| pw := ⟨_, rfl⟩
  rw [← hx] at d0 hhas hor
  rw [← hz] at hor
  have HX := hid hx
  have HZ := hid hz
  have HBW := hid (Joins.below_le HB1.out H0.out.size |>.trans HBL.out)
  clear hrow hlen hx hz hw2
  cases bb with
  | true =>
    obtain ⟨hm, rfl⟩ := H1.out rfl
    rw [show decide ((i, j) ∈ m2) = true by simp [hm]] at hhas
    have HM := hid hm
    clear hm H1 H2
    go_wp2
    all_goals go_ret
    all_goals exact ⟨rfl, _, _, _, _, HBI.out, HBW.out⟩
  | false =>
    obtain ⟨hm, hm2⟩ := H2.out rfl
    rw [show decide ((i, j) ∈ m) = false by simp [hm]] at hhas
    have HMK := hid (HBI.out.marked rfl hi ha hj hm HK.out (by rw [← HQ.out]; exact HLEN.out))
    rw [← HQ.out, ← HPW.out, ← HX.out, ← HZ.out, ← hm2] at HMK
    clear hm hm2 H1 H2
    go_wp2
    all_goals go_ret
    all_goals exact ⟨rfl, _, _, _, _, HMK.out.1, HBW.out.trans HMK.out.2⟩
/-- a pair is met: was it new? -/
theorem add53_old {w : World} {B b i j : Nat} {l : List In} {tx : List Int} {C : Bk} {V : Bv} {st : List Tk} {m : List Pt} {cp : List Int} {W : List Nat} (h : BI w B b l tx C V st m cp W) (hc : BC l tx C) (hi : i < C.n) (ha : C.a ≤ j) (hj : j ≤ C.tn) (hm : (i, j) ∈ m) :
    Calls Try.prog 53 #[.pointer (some ⟨b, 5, none⟩), .int .i64 (i : Int), .int .i64 (j : Int)] w fun e w' => e = .returned (.bool false) ∧ ∃ y1 y2 y3 W', BI w' B b l tx C { V with w1 := y1, w2 := y2, w3 := y3 } st m cp W' ∧ Below B w w' :=
  add53_core h hi ha hj hc.big (by have := (may_ok hc.may).1; have := hc.len; omega) hc.tl true m (fun _ => ⟨hm, rfl⟩) (fun h => by cases h)
theorem add53_new {w : World} {B b i j : Nat} {l : List In} {tx : List Int} {C : Bk} {V : Bv} {st : List Tk} {m : List Pt} {cp : List Int} {W : List Nat} (h : BI w B b l tx C V st m cp W) (hc : BC l tx C) (hi : i < C.n) (ha : C.a ≤ j) (hj : j ≤ C.tn) (hm : (i, j) ∉ m) :
    Calls Try.prog 53 #[.pointer (some ⟨b, 5, none⟩), .int .i64 (i : Int), .int .i64 (j : Int)] w fun e w' => e = .returned (.bool true) ∧ ∃ y1 y2 y3 W', BI w' B b l tx C { V with w1 := y1, w2 := y2, w3 := y3 } st (m ++ [(i, j)]) cp W' ∧ Below B w w' :=
  add53_core h hi ha hj hc.big (by have := (may_ok hc.may).1; have := hc.len; omega) hc.tl false (m ++ [(i, j)]) (fun h => by cases h) (fun _ => ⟨hm, rfl⟩)
end Go.Proofs.Ytodpmmlfdkdemaa
/- HELPERS: does a rune fit? -/
namespace Go.Proofs.Ytodpmmlfdkdemaa
open Go.RowKit Go.Lk
set_option linter.unusedVariables false
set_option linter.unusedSimpArgs false
set_option maxHeartbeats 1000000 in
theorem closure79 (lo hi r : Int) (W : World) : Calls Try.prog 79 #[.agg #[.int .i64 lo, .int .i64 hi], .int .i64 r] W fun e w' => e = .returned (.int .i64 (cmpI hi r)) ∧ Below W.heap.size W w' := by
  have hcon := fun W' => compare69 hi r W'
  generalize cmpI hi r = c at hcon ⊢
  go_enter Try.func79, Try.ntmps79
  go_wp2_with (go_at_call 80; refine (hcon _).mono ?_; rintro e w' ⟨rfl, rfl⟩)
  go_ret
  exact ⟨rfl, (Below.refl _ _).alloc (Nat.le_refl _) _⟩
set_option maxHeartbeats 3000000 in
set_option maxRecDepth 1000000 in
theorem bs79 (L : List (Int × Int)) (ad : Option Addr) (n cap : Nat) (r : Int) (w : World) (hn : Hid (n = L.length)) (hl : Hid (RowAt w.heap.size w (.slice ad n cap) L)) (hS : n ≤ 5000) :
    Calls Try.prog 78 #[.slice ad n cap, .int .i64 r, .func (.func 79) #[] #[]] w fun e w' => ∃ (i : Nat) (f : Bool), e = .returned (.tuple #[.int .i64 i, .bool f]) ∧ Below w.heap.size w w' ∧ i ≤ n ∧ (i = 0 ∨ (L.getD (i - 1) (0, 0)).2 < r) ∧ (i = n ∨ r ≤ (L.getD i (0, 0)).2) := by
  go_enter Try.func78, Try.ntmps78
  go_wp2
  go_loopw [9, 10] (fun a b wr => ∃ (i j : Nat), a = .int .i64 i ∧ b = .int .i64 j ∧ i ≤ j ∧ j ≤ n ∧ Below w.heap.size w wr ∧ Hid ((i = 0 ∨ (L.getD (i - 1) (0, 0)).2 < r) ∧ (j = n ∨ r ≤ (L.getD j (0, 0)).2)))
    (fun a b _ => (intOf b).toNat - (intOf a).toNat)
  case atStart => exact ⟨0, n, rfl, rfl, by omega, by omega, Below.refl _ _, by exact ⟨.inl rfl, .inl rfl⟩⟩
  case round =>
    obtain ⟨i, j, rfl, rfl, hij, hjn, hbw, HR⟩ := hrel
    have hsz := hbw.size
    by_cases hlt : i < j
    · obtain ⟨ad', cap', he, h | ⟨b, off, rfl, hbN, hc0, hc1⟩⟩ := hl.out
      · exact absurd h (by rw [← hn.out]; omega)
      · have hn' := hn.out
        simp only [Value.slice.injEq] at he
        obtain ⟨rfl, -, rfl⟩ := he
        have hm1 : i ≤ (i + j) / 2 := by omega
        have hm2 : (i + j) / 2 < j := by omega
        have d0 := (hbw.cell (p := ⟨b, off + (i + j) / 2 * 2, none⟩) hbN).trans (hc0 ((i + j) / 2) (by omega))
        have d1 := (hbw.cell (p := ⟨b, off + (i + j) / 2 * 2 + 1, none⟩) hbN).trans (hc1 ((i + j) / 2) (by omega))
        generalize hg : L.getD ((i + j) / 2) (0, 0) = g at d0 d1
        obtain ⟨lo, hi⟩ := g
        simp only at d0 d1
        have HG : Hid (L.getD ((i + j) / 2) (0, 0) = (lo, hi)) := hg
        clear hg hc0 hc1 hn'
        have hcl := closure79 lo hi r
        have hcmp := cmp_lt hi r
        generalize cmpI hi r = c at hcl hcmp
        by_cases hc : c < 0
        · have HX : Hid (hi < r) := hcmp.1 hc
          clear hcmp
          go_wp2_with (go_at_call 79; refine (hcl _).mono ?_; rintro e w2 ⟨rfl, hb2⟩)
          go_roundw
          case rel => exact ⟨(i + j) / 2 + 1, j, by go_num, rfl, by omega, by omega, hbw.trans (hb2.mono hsz), by exact ⟨.inr (by rw [Nat.add_sub_cancel, HG.out]; exact HX.out), HR.out.2⟩⟩
          case measure => simp [intOf]; omega
        · have HX : Hid (r ≤ hi) := by show r ≤ hi; have := mt hcmp.2 hc; omega
          clear hcmp
          go_wp2_with (go_at_call 79; refine (hcl _).mono ?_; rintro e w2 ⟨rfl, hb2⟩)
          go_roundw
          case rel => exact ⟨i, (i + j) / 2, rfl, by go_num, by omega, by omega, hbw.trans (hb2.mono hsz), by exact ⟨HR.out.1, .inr (by rw [HG.out]; exact HX.out)⟩⟩
          case measure => simp [intOf]; omega
    · obtain rfl : i = j := by omega
      by_cases hin : i < n
      · obtain ⟨ad', cap', he, h | ⟨b, off, rfl, hbN, hc0, hc1⟩⟩ := hl.out
        · exact absurd h (by rw [← hn.out]; omega)
        · have hn' := hn.out
          simp only [Value.slice.injEq] at he
          obtain ⟨rfl, -, rfl⟩ := he
          have d0 := (hbw.cell (p := ⟨b, off + i * 2, none⟩) hbN).trans (hc0 i (by omega))
          have d1 := (hbw.cell (p := ⟨b, off + i * 2 + 1, none⟩) hbN).trans (hc1 i (by omega))
          generalize L.getD i (0, 0) = g at d0 d1
          obtain ⟨lo, hi⟩ := g
          simp only at d0 d1
          clear hc0 hc1 hn'
          have hcl := closure79 lo hi r
          generalize cmpI hi r = c at hcl
          go_wp2_with (go_at_call 79; refine (hcl _).mono ?_; rintro e w2 ⟨rfl, hb2⟩)
          go_ret2
          exact ⟨i, _, rfl, hbw.trans (hb2.mono hsz), by omega, HR.out.1, HR.out.2⟩
      · go_wp2
        go_ret2
        exact ⟨i, _, rfl, hbw, by omega, HR.out.1, HR.out.2⟩
set_option maxRecDepth 100000 in
set_option maxHeartbeats 2000000 in
theorem fits54 {w : World} {B b j : Nat} {l : List In} {tx : List Int} {C : Bk} {V : Bv} {st : List Tk} {m : List Pt} {cp : List Int} {W : List Nat} {R : List (Int × Int)} {r1 : Option Addr} {r2 r3 : Nat} (h : BI w B b l tx C V st m cp W) (hj : j ≤ C.tn) (hn : r2 = R.length) (hl : RowAt w.heap.size w (.slice r1 r2 r3) R) (hR : rightB R = true) :
    Calls Try.prog 54 #[.pointer (some ⟨b, 0, none⟩), .slice r1 r2 r3, .int .i64 (j : Int)] w fun e w' => e = .returned (.bool (decide (j < tx.length) && hsB R (tx.getD j 0))) ∧ Below w.heap.size w w' := by
  have c3 := h.mb.c 3
  simp at c3
  have HT := hid h.tx
  have HL := hid hl
  have HN := hid hn
  have HR := hid hR
  have htl : C.tn = tx.length := h.tx.1
  have hBs := h.size
  have hsm : r2 ≤ 5000 := by
    rw [hn]; unfold rightB at hR; simp at hR; exact hR.1
  obtain ⟨ad, n, c, S, K, tad, tn, tc, ub, a⟩ := C
  dsimp only at c3 HT htl hj ⊢
  clear h hl hn hR
  rw [← htl]
  have HTL := hid htl
  clear htl
  by_cases e : j = tn
  · rw [show decide (j < tn) = false by simp [e]]
    have b1 : ((j : Int) == (tn : Int)) = true := by simp; omega
    go_enter Try.func54, Try.ntmps54
    go_wp2
    all_goals go_ret
    all_goals exact ⟨rfl, Below.refl _ _⟩
  · have b1 : ((j : Int) == (tn : Int)) = false := by simp; omega
    have hlt : j < tn := by omega
    rw [show decide (j < tn) = true by simp [hlt]]
    have b2 : (j : Int) < (tn : Int) := by omega
    obtain ⟨_, h35, h0 | ⟨tb, tof, rfl, htb, htc⟩⟩ := HT.out
    · omega
    have d0 := htc j hlt
    generalize hr : tx.getD j 0 = r at d0 ⊢
    have HRR := hid hr
    clear htc hr
    generalize hX : hsB R r = X
    have HX := hid hX
    clear hX
    have hj2 : j < 9223372036854775807 := by omega
    clear h35
    have HS : Hid (Calls Try.prog 78 #[.slice r1 r2 r3, .int .i64 r, .func (.func 79) #[] #[]] w fun e w' => ∃ (i : Nat) (f : Bool), e = .returned (.tuple #[.int .i64 i, .bool f]) ∧ Below w.heap.size w w' ∧ i ≤ r2 ∧ (i = 0 ∨ (R.getD (i - 1) (0, 0)).2 < r) ∧ (i = r2 ∨ r ≤ (R.getD i (0, 0)).2)) := bs79 R r1 r2 r3 r w HN.out HL.out hsm
    go_enter Try.func54, Try.ntmps54
    go_upto_region 5 with (go_at_call 78; (with_reducible refine HS.out.mono ?_); rintro e w3 ⟨i, f, rfl, hb3, hi, hs1, hs2⟩; have HB3 := hid hb3; have H1 := hid hs1; have H2 := hid hs2; clear hb3 hs1 hs2 HS c3 d0)
    have hsr : inB R r = (decide (i < R.length) && decide ((R.getD i (0, 0)).1 ≤ r)) := has_search R r i HR.out (by have := HN.out; omega) H1.out (by have := HN.out; rw [← this]; exact H2.out)
    rw [← HN.out] at hsr
    have hhs : hsB R r = (decide (i < r2) && decide ((R.getD i (0, 0)).1 ≤ r)) := by unfold hsB; rw [HR.out, hsr]; rfl
    rw [HX.out] at hhs
    have HH := hid hhs
    clear hsr hhs
    by_cases hir : i < r2
    · have b3 : decide ((i : Int) < (r2 : Int)) = true := by simp; omega
      have b4 : (i : Int) < (r2 : Int) := by omega
      obtain ⟨ad', cap', he, h | ⟨lb, lo, rfl, hlb, hc0, hc1⟩⟩ := HL.out
      · have := HN.out; omega
      simp only [Value.slice.injEq] at he
      obtain ⟨rfl, -, rfl⟩ := he
      have m0 := (HB3.out.cell (p := ⟨lb, lo + i * 2, none⟩) hlb).trans (hc0 i (by have := HN.out; omega))
      generalize hx0 : (R.getD i (0, 0)).1 = x0 at m0
      have HX0 := hid hx0
      clear hx0
      clear hc0 hc1
      by_cases hx : x0 ≤ r
      · have b5 : decide (x0 ≤ r) = true := by simp [hx]
        have HXV : Hid (X = true) := by show X = _; rw [HH.out, HX0.out]; simp [hir, hx]
        go_wp2
        all_goals go_ret
        all_goals exact ⟨ret_bool (by simp [HXV.out]), HB3.out⟩
      · have b5 : decide (x0 ≤ r) = false := by simp [hx]
        have HXV : Hid (X = false) := by show X = _; rw [HH.out, HX0.out]; simp [hir, hx]
        go_wp2
        all_goals go_ret
        all_goals exact ⟨ret_bool (by simp [HXV.out]), HB3.out⟩
    · have b3 : decide ((i : Int) < (r2 : Int)) = false := by simp; omega
      have HXV : Hid (X = false) := by show X = _; rw [HH.out]; simp [hir]
      go_wp2
      all_goals go_ret
      all_goals exact ⟨ret_bool (by simp [HXV.out]), HB3.out⟩
end Go.Proofs.Ytodpmmlfdkdemaa
/- HELPERS: a capture is noted; a match is met. -/
namespace Go.Proofs.Ytodpmmlfdkdemaa
open Go.RowKit Go.Lk
set_option linter.unusedVariables false
set_option linter.unusedSimpArgs false
set_option maxRecDepth 100000 in
set_option maxHeartbeats 4000000 in
theorem match58 {w : World} {B b : Nat} {l : List In} {tx : List Int} {C : Bk} {V : Bv} {st : List Tk} {m : List Pt} {cp : List Int} {W : List Nat} (a : Int) (h : BI w B b l tx C V st m cp W) :
    Calls Try.prog 58 #[.pointer (some ⟨b, 0, none⟩), .int .i64 a] w fun e w' => e = .returned (.tuple #[]) ∧ BI w' B b l tx C { V with fok := true, f1 := some ⟨C.ub, 0, none⟩, f2 := C.K, f3 := C.K, fw := a } st m cp W ∧ Below B w w' := by
  have c4 := h.mb.c 4
  have c10 := h.mb.c 10
  have c11 := h.mb.c 11
  have c12 := h.mb.c 12
  have u10 := h.mb.u 10
  have u11 := h.mb.u 11
  have u12 := h.mb.u 12
  simp at c4 c10 c11 c12
  obtain ⟨w1, w2, w3, z1, z2, z3, most, fok, f1, f2, f3, fw, fs⟩ := V
  obtain ⟨g1, g2⟩ := h.put (V' := ⟨w1, w2, w3, z1, z2, z3, most, true, f1, f2, f3, fw, fs⟩) 10 (.bool true) rfl ⟨rfl, rfl, rfl⟩ ⟨rfl, rfl, rfl⟩
  obtain ⟨g3, g4⟩ := g1.put (V' := ⟨w1, w2, w3, z1, z2, z3, most, true, some ⟨C.ub, 0, none⟩, C.K, C.K, fw, fs⟩) 11 (.slice (some ⟨C.ub, 0, none⟩) C.K C.K) rfl ⟨rfl, rfl, rfl⟩ ⟨rfl, rfl, rfl⟩
  obtain ⟨g5, g6⟩ := g3.put (V' := ⟨w1, w2, w3, z1, z2, z3, most, true, some ⟨C.ub, 0, none⟩, C.K, C.K, a, fs⟩) 12 (.int .i64 a) rfl ⟨rfl, rfl, rfl⟩ ⟨rfl, rfl, rfl⟩
  have HG := hid (⟨g5, g2.trans (g4.trans g6)⟩ : _ ∧ _)
  clear g1 g2 g3 g4 g5 g6 h
  dsimp only at *
  go_enter Try.func58, Try.ntmps58
  go_wp2
  go_end0
  exact ⟨rfl, HG.out.1, HG.out.2⟩
set_option maxRecDepth 100000 in
set_option maxHeartbeats 4000000 in
theorem note55 {w : World} {B b a j : Nat} {l : List In} {tx : List Int} {C : Bk} {V : Bv} {st : List Tk} {m : List Pt} {cp : List Int} {W : List Nat} (h : BI w B b l tx C V st m cp W) (ha : a < C.K) (hK : C.K ≤ 1002) (ht : C.tn ≤ 4194304) (hj : j ≤ C.tn) (hst : st.length ≤ m.length) (hm : m.length ≤ 16777216) :
    Calls Try.prog 55 #[.pointer (some ⟨b, 0, none⟩), .int .i64 (a : Int), .int .i64 (j : Int)] w fun e w' => e = .returned (.tuple #[]) ∧ ∃ y1 y3 mo, BI w' B b l tx C { V with z1 := y1, z2 := V.z2 + 1, z3 := y3, most := mo } (.un a (cp.getD a 0) :: st) m (cp.set a (j : Int)) W ∧ Below B w w' := by
  have hcl : cp.length = C.K := by have := h.cap.1; simpa [I64] using this
  have c4 := h.mb.c 4
  simp at c4
  have d0 := h.cap.cellAt a (by omega)
  obtain ⟨o, ho⟩ : ∃ o, o = cp.getD a 0 := ⟨_, rfl⟩
  have hoo : (I64 cp)[a]? = some (.int .i64 o) := by
    rw [ho]; simp [I64, List.getD_eq_getElem?_getD, show a < cp.length by omega]
  rw [hoo] at d0
  have hor := h.okc.get a
  rw [← ho] at hor ⊢
  have b2 : (a : Int) < (C.K : Int) := by omega
  have H0 := hid h
  have HO := hid ho
  have HOO := hid hoo
  have HUN : Hid (∀ W', Calls Try.prog 81 #[.int .i64 (a : Int), .int .i64 o] W' fun e w' => e = .returned (unV a o) ∧ Below W'.heap.size W' w') := fun W' => toUndo81 a o W' (by omega) (by omega)
  have HPU : Hid (∀ W', Below w.heap.size w W' → Calls Try.prog 47 #[.pointer (some ⟨b, 8, none⟩), unV a o] W' fun e w' => e = .returned (.tuple #[]) ∧ ∃ y1 y3 mo, BI w' B b l tx C { V with z1 := y1, z2 := V.z2 + 1, z3 := y3, most := mo } (.un a o :: st) m cp W ∧ Below B W' w') := fun W' hb => push47 (.un a o) _ _ rfl (h.below hb) ⟨ha, hor⟩ hst hm
  have hub : C.ub < w.heap.size := (h.cap.lt _ rfl).2
  have hbl := h.mb.lt
  have hBs := h.size
  clear h ho hoo hcl
  obtain ⟨w1, w2, w3, z1, z2, z3, most, fok, f1, f2, f3, fw, fs⟩ := V
  obtain ⟨ad, n, c, S, K, tad, tn, tc, ub, a0⟩ := C
  dsimp only at *
  go_enter Try.func55, Try.ntmps55
  go_upto_region 0 with fail
  go_cut [] from 6 to 18 (fun wx => ∃ y1 y3 mo, Hid (BI wx B b l tx ⟨ad, n, c, S, K, tad, tn, tc, ub, a0⟩ ⟨w1, w2, w3, y1, z2 + 1, y3, mo, fok, f1, f2, f3, fw, fs⟩ (.un a o :: st) m cp W) ∧ Hid (Below B w wx))
  case first =>
    go_region_held2 (fun w' => w'.cell? ⟨b, 4, none⟩ = some (.slice (some ⟨ub, 0, none⟩) K K) ∧ w'.cell? ⟨ub, a, none⟩ = some (.int .i64 o))
      (first | (exact ⟨c4, d0⟩) | (exact HS3.out) | (refine ⟨(HB2.out.cell (p := ⟨b, 4, none⟩) hbl).trans c4, (HB2.out.cell (p := ⟨ub, a, none⟩) hub).trans d0⟩))
      (first | (go_at_call 81; (with_reducible refine (HUN.out _).mono ?_); rintro e wp ⟨rfl, hb2⟩; have HB2 : Hid (Below w.heap.size w wp) := Below.trans ((Eqw.drew w).below _) hb2; clear hb2) | (go_at_call 47; (with_reducible refine (HPU.out _ HB2.out).mono ?_); rintro e wt ⟨rfl, y1, y3, mo, hbi, hb3⟩; have HBI := hid hbi; have HB3 := hid hb3; have HS3 : Hid (wt.cell? ⟨b, 4, none⟩ = some (.slice (some ⟨ub, 0, none⟩) K K) ∧ wt.cell? ⟨ub, a, none⟩ = some (.int .i64 o)) := ⟨(hbi.mb.c 4), ((hbi.cap.cellAt a (Nat.lt_of_lt_of_le ha (Nat.le_of_eq (Nat.mul_one _).symm))).trans HOO.out)⟩; clear hbi hb3))
    all_goals go_wp2_with fail
    all_goals go_meet
    all_goals exact ⟨_, _, _, HBI.out, (Joins.below_le HB2.out hBs).trans HB3.out⟩
  case rest =>
    obtain ⟨y1, y3, mo, HBI, HBW⟩ := hcut
    clear HPU HUN
    have k4 := HBI.out.mb.c 4
    simp at k4
    have k0 := (HBI.out.cap.cellAt a (Nat.lt_of_lt_of_le ha (Nat.le_of_eq (Nat.mul_one _).symm))).trans HOO.out
    have f0 := HBI.out.cap.frozenAt a
    dsimp only at k0 f0
    have HSC := hid (HBI.out.setc a (v := (j : Int)) ⟨by omega, by dsimp only; omega⟩)
    dsimp only at HSC
    clear c4 d0
    go_wp2
    go_end0
    exact ⟨rfl, y1, y3, mo, HSC.out.1, HBW.out.trans HSC.out.2⟩
end Go.Proofs.Ytodpmmlfdkdemaa
/- HELPERS: one beginning of the search, in memory. -/
namespace Go.Proofs.Ytodpmmlfdkdemaa
open Go.RowKit Go.Lk
set_option linter.unusedVariables false
set_option linter.unusedSimpArgs false
theorem pi_inst {w : World} {B n : Nat} {ad : Option Addr} {l : List In} (h : PI w B ad n l) {i : Nat} (hi : i < l.length) :
    ∃ pb po r1 r2 r3, ad = some ⟨pb, po, none⟩ ∧ r2 = l[i].R.length ∧ ∀ W, Below B w W → (W.cell? ⟨pb, po + i * 5, none⟩ = some (.int .i64 l[i].op) ∧ W.cell? ⟨pb, po + i * 5 + 1, none⟩ = some (.int .i64 l[i].x) ∧ W.cell? ⟨pb, po + i * 5 + 2, none⟩ = some (.int .i64 l[i].y) ∧ W.cell? ⟨pb, po + i * 5 + 3, none⟩ = some (.int .i64 l[i].a) ∧ W.cell? ⟨pb, po + i * 5 + 4, none⟩ = some (.slice r1 r2 r3)) ∧ RowAt B W (.slice r1 r2 r3) l[i].R := by
  obtain ⟨pb, po, ND, e, hpb, hcs⟩ := h.mem (by have := h.len; omega)
  obtain ⟨h5, hM⟩ := hcs i hi
  refine ⟨pb, po, (ND i).r1, (ND i).r2, (ND i).r3, e, hM.len, fun W hb => ?_⟩
  obtain ⟨m0, m1, m2, m3, m4⟩ := h5.kept (hb.block pb hpb)
  have hM' := hM.kept hb (Nat.le_refl _)
  rw [hM.op] at m0
  rw [hM.x] at m1
  rw [hM.y] at m2
  rw [hM.a] at m3
  exact ⟨⟨m0, m1, m2, m3, m4⟩, hM'.row⟩
theorem step_call2 {P : Program} {ops : Array Oper} {o : Oper} {a : Act} {w : World} {K : Act → World → Prop} {Q : Exit → Act → World → Prop} {E : Prop} (hg : o.guard = none) (f : FuncId) (x y : Operand) (t u : TypeId)
    (hop : o.op = Op.call { callee := Callee.value (.func f), args := #[x, y], argTypes := #[t, u] }) (hen : ∀ args w, (callFunc f args).run P w = .ok (.enter f args) w)
    (hc : Calls P f #[a.eval x, a.eval y] w fun e w' => ∃ v, e = .returned v ∧ K (a.put o.dst v) w') :
    if Region.wanted o (yielded ops a.tmps) = true then Oper.wp P o a w K Q else E := by
  have hw : Region.wanted o (yielded ops a.tmps) = true := by simp [Region.wanted, hg]
  rw [if_pos hw]
  have h2 := hen #[a.eval x, a.eval y] w
  unfold Oper.wp
  have ev : a.eval (.func f) = .func (.func f) #[] #[] := rfl
  simp [execOp, hop, resolve, invoke, ev, Deferred.ofValue, h2, Result.andThen]
  show Calls P f #[a.eval x, a.eval y] w _
  refine hc.mono fun e w' h => ?_
  obtain ⟨v, rfl, hk⟩ := h
  exact hk
theorem enter_of {P : Program} {f : FuncId} {fn : Func} {c : Code} (hf : P.funcs[f]? = some fn) (hname : (fn.name == "runtime.NumGoroutine") = false) (hb : fn.body = some c) : ∀ (args : Array Value) (w : World), (callFunc f args).run P w = .ok (.enter f args) w := by
  intro args w
  have h1 : fn.name ≠ "runtime.NumGoroutine" := by simpa using hname
  simp [callFunc, hf, h1, hb]
theorem en47 : ∀ (args : Array Value) (w : World), (callFunc 47 args).run Try.prog w = .ok (.enter 47 args) w := enter_of Try.func47 (by kernel_rfl) rfl
theorem en48 : ∀ (args : Array Value) (w : World), (callFunc 48 args).run Try.prog w = .ok (.enter 48 args) w := enter_of Try.func48 (by kernel_rfl) rfl
theorem en51 : ∀ (args : Array Value) (w : World), (callFunc 51 args).run Try.prog w = .ok (.enter 51 args) w := enter_of Try.func51 (by kernel_rfl) rfl
theorem en56 : ∀ (args : Array Value) (w : World), (callFunc 56 args).run Try.prog w = .ok (.enter 56 args) w := enter_of Try.func56 (by kernel_rfl) rfl
theorem en57 : ∀ (args : Array Value) (w : World), (callFunc 57 args).run Try.prog w = .ok (.enter 57 args) w := enter_of Try.func57 (by kernel_rfl) rfl
theorem ev_step {A : Nat → Nat → Ac} {k i j : Nat} {st : List Tk} {m : List Pt} {c : List Int} {r : Fd} {m' : List Pt} (h : Ev A k (.go i j :: st) m c r m') (hm : (i, j) ∉ m) (hno : ∀ a, A j i ≠ .fit a) : ∃ k', k' < k ∧ Ev A k' ((nx A i j c).1 ++ st) (m ++ [(i, j)]) (nx A i j c).2 r m' := by
  cases h with
  | old _ _ _ _ _ _ _ _ h1 _ => exact absurd h1 hm
  | fit _ _ _ _ _ y _ hy => exact absurd hy (hno y)
  | step k _ _ _ _ _ _ _ _ _ h => exact ⟨k, Nat.lt_succ_self _, h⟩
theorem ev_fit {A : Nat → Nat → Ac} {k i j : Nat} {st : List Tk} {m : List Pt} {c : List Int} {r : Fd} {m' : List Pt} (h : Ev A k (.go i j :: st) m c r m') (hm : (i, j) ∉ m) {a : Int} (e : A j i = .fit a) : r = some (a, c) ∧ m' = m ++ [(i, j)] := by
  cases h with
  | old _ _ _ _ _ _ _ _ h1 _ => exact absurd h1 hm
  | fit _ _ _ _ _ y _ hy => rw [e] at hy; cases hy; exact ⟨rfl, rfl⟩
  | step k _ _ _ _ _ _ _ _ h1 _ => exact absurd e (h1 a)
/-- nothing is found yet -/
def NF (V : Bv) : Prop := V.fok = false ∧ V.f1 = none ∧ V.f2 = 0 ∧ V.f3 = 0 ∧ V.fw = 0
/-- what a beginning leaves -/
def BF (C : Bk) (V : Bv) (st : List Tk) (cp0 cp : List Int) : Fd → Prop
  | none => st = [] ∧ cp = cp0 ∧ NF V
  | some y => V.fok = true ∧ V.f1 = some ⟨C.ub, 0, none⟩ ∧ V.f2 = C.K ∧ V.f3 = C.K ∧ V.fw = y.1 ∧ cp = y.2
/-- between two tasks: so many rounds are left -/
def BO (w0 w : World) (B b : Nat) (l : List In) (tx : List Int) (C : Bk) (cp0 : List Int) (r : Fd) (m' : List Pt) (k : Nat) : Prop :=
  ∃ V st m cp W, BI w B b l tx C V st m cp W ∧ V.fs = m.length ∧ Ev (act l tx) k st m cp r m' ∧ base st cp = cp0 ∧ NF V ∧ Below B w0 w
/-- a pair is to be met -/
def BN (w0 w : World) (B b : Nat) (l : List In) (tx : List Int) (C : Bk) (cp0 : List Int) (r : Fd) (m' : List Pt) (k i j : Nat) : Prop :=
  ∃ V st m cp W, BI w B b l tx C V st m cp W ∧ V.fs = m.length ∧ Ev (act l tx) k (.go i j :: st) m cp r m' ∧ base st cp = cp0 ∧ NF V ∧ Below B w0 w ∧ (Tk.go i j).ok C.n C.a C.tn C.K ∧ st.length ≤ m.length
theorem BI.inst {w : World} {B b i : Nat} {l : List In} {tx : List Int} {C : Bk} {V : Bv} {st : List Tk} {m : List Pt} {cp : List Int} {W : List Nat} (h : BI w B b l tx C V st m cp W) (hi : i < l.length) :
    ∃ pb po r1 r2 r3, C.ad = some ⟨pb, po, none⟩ ∧ r2 = l[i].R.length ∧ (w.cell? ⟨pb, po + i * 5, none⟩ = some (.int .i64 l[i].op) ∧ w.cell? ⟨pb, po + i * 5 + 1, none⟩ = some (.int .i64 l[i].x) ∧ w.cell? ⟨pb, po + i * 5 + 2, none⟩ = some (.int .i64 l[i].y) ∧ w.cell? ⟨pb, po + i * 5 + 3, none⟩ = some (.int .i64 l[i].a) ∧ w.cell? ⟨pb, po + i * 5 + 4, none⟩ = some (.slice r1 r2 r3)) ∧ RowAt B w (.slice r1 r2 r3) l[i].R ∧ pb < B := by
  obtain ⟨pb, po, ND, e, hpb, hcs⟩ := h.pi.mem (by have := h.pi.len; omega)
  obtain ⟨pb', po', r1, r2, r3, e', h1, h2⟩ := pi_inst h.pi hi
  obtain ⟨h3, h4⟩ := h2 w (Below.refl _ _)
  rw [e] at e'
  simp only [Option.some.injEq, Addr.mk.injEq] at e'
  obtain ⟨rfl, rfl, _⟩ := e'
  exact ⟨pb, po, r1, r2, r3, e, h1, h3, h4, hpb⟩
/-- a pair was new: one step more -/
theorem BI.stepped {w : World} {B b : Nat} {l : List In} {tx : List Int} {C : Bk} {V : Bv} {st : List Tk} {m : List Pt} {cp : List Int} {W : List Nat} (h : BI w B b l tx C V st m cp W) (k : Nat) :
    BI (w.setCell ⟨b, 13, none⟩ (.int .i64 (k : Int))) B b l tx C { V with fs := k } st m cp W ∧ Below B w (w.setCell ⟨b, 13, none⟩ (.int .i64 (k : Int))) :=
  h.put 13 _ rfl ⟨rfl, rfl, rfl⟩ ⟨rfl, rfl, rfl⟩
set_option maxRecDepth 100000 in
set_option maxHeartbeats 16000000 in
theorem begin30 {w : World} {B b at_ : Nat} {l : List In} {tx : List Int} {C : Bk} {V : Bv} {m : List Pt} {cp : List Int} {W : List Nat} {r : Fd} {m' : List Pt} {N : Nat} (h : BI w B b l tx C V [] m cp W) (hc : BC l tx C) (hfs : V.fs = m.length) (hnf : NF V) (ha : C.a ≤ at_) (hat : at_ ≤ C.tn) (hev : Ev (act l tx) N [.go C.S at_] m cp r m') :
    Calls Try.prog 30 #[.pointer (some ⟨b, 0, none⟩), .int .i64 (at_ : Int)] w fun e w' => e = .returned (.tuple #[]) ∧ ∃ V' st cp' W', BI w' B b l tx C V' st m' cp' W' ∧ V'.fs = m'.length ∧ BF C V' st cp cp' r ∧ Below B w w' := by
  have hmo := may_ok hc.may
  have hlen := hc.len
  have hn20 : C.n ≤ 20000 := by omega
  have hSn : C.S < C.n := by omega
  have hK : C.K ≤ 1002 := by omega
  have htl := hc.tl
  have HBC := hid hc
  have H0 := hid h
  have c1 := h.mb.c 1
  simp at c1
  have hbl := h.mb.lt
  have hBs := h.size
  have HMS : Hid (∀ V st m cp W (w : World), BI w B b l tx C V st m cp W → m.length ≤ 16777216) := fun V st m cp W w h => by have := h.okm.small; have := hc.big; omega
  have HME : Hid (∀ (i j : Nat) W', i < C.n → j ≤ C.tn → Calls Try.prog 48 #[.int .i64 (i : Int), .int .i64 (j : Int)] W' fun e w' => e = .returned (goV i j) ∧ Below W'.heap.size W' w') := fun i j W' hi hj => toMeet48 i j W' (by omega) (by omega)
  have HPU : Hid (∀ (V : Bv) st m cp W (w : World) (i j : Nat) W', BI w B b l tx C V st m cp W → Below w.heap.size w W' → (Tk.go i j).ok C.n C.a C.tn C.K → st.length ≤ m.length → Calls Try.prog 47 #[.pointer (some ⟨b, 8, none⟩), goV i j] W' fun e w' => e = .returned (.tuple #[]) ∧ ∃ y1 y3 mo, BI w' B b l tx C { V with z1 := y1, z2 := V.z2 + 1, z3 := y3, most := mo } (.go i j :: st) m cp W ∧ Below B W' w') := fun V st m cp W w i j W' h hb ht hs => push47 (.go i j) _ _ rfl (h.below hb) ht hs (HMS.out _ _ _ _ _ _ h)
  have HEV := hid hev
  have HFS := hid hfs
  have HNF := hid hnf
  have hpu0 := fun W' hb => HPU.out V [] m cp W w C.S at_ W' h hb ⟨hSn, ha, hat⟩ (Nat.zero_le _)
  have HP0 := hid hpu0
  clear h hc hev hfs hnf hmo hpu0
  obtain ⟨Sn, hSe⟩ : ∃ Sn, Sn = C.S := ⟨_, rfl⟩
  rw [← hSe] at c1 HP0 HEV hSn
  have HSE := hid hSe
  clear hSe
  go_enter Try.func30, Try.ntmps30
  go_wp2_with fail
  go_step3
  go_upto_region 0 with fail
  go_cut [] from 9 to 19 (fun wx => Hid (BO w wx B b l tx C cp r m' N))
  case first =>
    go_region_held2 (fun w' => w'.cell? ⟨b, 1, none⟩ = some (.int .i64 (Sn : Int)))
      (first | (exact c1) | (exact HS3.out) | (exact (HB2.out.cell (p := ⟨b, 1, none⟩) hbl).trans c1))
      (first | (go_at_call 48; (with_reducible refine (HME.out _ _ _ hSn hat).mono ?_); rintro e wp ⟨rfl, hb2⟩; have HB2 : Hid (Below w.heap.size w wp) := Below.trans ((Eqw.drew w).below _) hb2; clear hb2) | (go_at_call 47; (with_reducible refine (HP0.out _ HB2.out).mono ?_); rintro e wt ⟨rfl, y1, y3, mo, hbi, hb3⟩; have HBI := hid hbi; have HB3 := hid hb3; have HS3 : Hid (wt.cell? ⟨b, 1, none⟩ = some (.int .i64 (Sn : Int))) := (by have hh := hbi.mb.c 1; rw [HSE.out]; exact hh); clear hbi hb3))
    all_goals go_wp2_with fail
    all_goals go_meet
    all_goals exact ⟨_, _, _, _, _, HBI.out, HFS.out, HEV.out, rfl, HNF.out, (Joins.below_le HB2.out hBs).trans HB3.out⟩
  case rest =>
    clear HP0 c1 HEV HFS HNF
    go_wp2_with fail
    go_step3
    go_wp2_with fail
    go_loopg [] N (fun k wr => Hid (BO w wr B b l tx C cp r m' k))
    case atStart => exact hcut
    case round =>
      obtain ⟨V1, st, m1, cp1, W1, hbi, hfs, hev, hba, hnf, hbw⟩ := hrel.out
      clear hrel hcut
      have HMS1 := HMS.out _ _ _ _ _ _ hbi
      have HFS := hid hfs
      have HBA := hid hba
      have HNF := hid hnf
      have HBW := hid hbw
      have HBI := hid hbi
      have hbl1 := hbi.mb.lt
      have hBs1 := hbi.size
      cases st with
      | nil =>
        cases hev with
        | nil =>
        have HPO := pop49_none hbi
        clear hbi hfs hba hnf hbw
        go_wp2_with (go_at_call 49; (with_reducible refine HPO.mono ?_); rintro e w2 ⟨rfl, hb2⟩; have HB2 := hid hb2; clear hb2 HPO)
        simp only [Exit.noGoto]
        go_end0
        have hb3 := HB2.out.trans (Joins.below_le (Joins.below_alloc1 w2 (.cells #[.int .i32 0, .int .i32 0] 97)) HB2.out.size)
        exact ⟨rfl, V1, [], cp1, W1, HBI.out.below hb3, HFS.out, ⟨rfl, HBA.out, HNF.out⟩, HBW.out.trans (Joins.below_le hb3 hBs1)⟩
      | cons t st =>
        cases t with
        | un a o =>
          cases hev with
          | un k _ _ _ _ _ _ _ hev =>
          have hok := hbi.okt _ List.mem_cons_self
          have HPO := pop49_some (-1 - (a : Int)) o rfl hbi HMS1
          have HEV := hid hev
          have HOK := hid hok
          clear hbi hfs hba hnf hbw hev hok
          go_upto_region 3 with (go_at_call 49; (with_reducible refine HPO.mono ?_); rintro e w2 ⟨rfl, hb2, hbw2⟩; have HB2 := hid hb2; have HBW2 := hid hbw2; clear hb2 hbw2 HPO)
          obtain ⟨U, hU⟩ : ∃ U, U = w2.alloc (.cells #[.int .i32 (-1 - (a : Int)), .int .i32 o] 97) := ⟨_, rfl⟩
          obtain ⟨y, hy⟩ : ∃ y, y = w2.heap.size := ⟨_, rfl⟩
          rw [← hU, ← hy]
          have hX : U.heap[y]? = some (.cells #[.int .i32 (-1 - (a : Int)), .int .i32 o] 97 (0, 0)) := by rw [hU, hy]; exact heap_alloc_new w2 _
          have hbU : Below w2.heap.size w2 U := by rw [hU]; exact Joins.below_alloc1 w2 _
          have hBU := HB2.out.below hbU
          have hyU : y < U.heap.size := (Array.getElem?_eq_some_iff.1 hX).1
          have x0 := Joins.cell_of_block hX 0
          have x1 := Joins.cell_of_block hX 1
          simp at x0 x1
          have HX := hid hX
          have HBU := hid hBU
          have HBWU := hid (HBW.out.trans (HBW2.out.trans (Joins.below_le hbU (by have := HB2.out.size; omega))))
          have HI := isUndo50_un a o U
          clear hU hy hX hbU hBU
          go_upto_region 4 with (go_at_call 50; (with_reducible refine HI.mono ?_); rintro e w3 ⟨rfl, hb3⟩; have HB3 := hid hb3; have y0 := (hb3.cell (p := ⟨y, 0, none⟩) hyU).trans x0; have y1 := (hb3.cell (p := ⟨y, 1, none⟩) hyU).trans x1; have hb4 := HBU.out.below hb3; have HB4 := hid hb4; have d4 := hb4.mb.c 4; simp at d4; clear hb3 HI x0 x1 hb4)
          have HUN : Hid (∀ W', Below w3.heap.size w3 W' → Calls Try.prog 51 #[unV a o, .slice (some ⟨C.ub, 0, none⟩) C.K C.K] W' fun e w' => e = .returned (.tuple #[]) ∧ BI w' B b l tx C { V1 with z2 := st.length } st m1 (cp1.set a o) W1 ∧ Below B W' w' ∧ ∀ k, k < W'.heap.size → k ≠ C.ub → w'.heap[k]? = W'.heap[k]?) := fun W' hb => undo51 a o (HB4.out.below hb) HOK.out.1 hK HOK.out.2 htl
          have hyu : y ≠ C.ub := fun e => by
            obtain ⟨arr, harr⟩ := HBU.out.cap_block
            have h2 := HX.out
            rw [e, harr] at h2
            simp at h2
          have hy3 : y < w3.heap.size := by have := HB3.out.size; omega
          have hub3 : b ≠ C.ub := fun e => HB4.out.ub_ne e.symm
          have HY3 : Hid (y < w3.heap.size ∧ b < w3.heap.size) := ⟨hy3, HB4.out.mb.lt⟩
          clear hy3
          refine wp_region_ley 5 (fun w' => w'.cell? ⟨y, 0, none⟩ = some (.int .i32 (-1 - (a : Int))) ∧ w'.cell? ⟨y, 1, none⟩ = some (.int .i32 o) ∧ w'.cell? ⟨b, 4, none⟩ = some (.slice (some ⟨C.ub, 0, none⟩) C.K C.K)) (by kernel_rfl) (by kernel_rfl) (by decide) (by kernel_rfl) (by kernel_rfl) ⟨y0, y1, d4⟩ ?_
          simp only [List.take_succ_cons, List.take_zero, List.drop_succ_cons, List.drop_zero]
          iterate 5
            refine ley_cons ?_ rfl (fun W hW => ?_) (fun _ _ _ h => h) ?_
            rotate_left
            · obtain ⟨s0, s1, s2⟩ := hW
              go_simp <;> with_reducible rfl
            simp only [Act.put, List.setIfInBounds_toArray, List.set_cons_zero, List.set_cons_succ]
          refine ley_nil (taiY_cons fun KK hKK => ?_)
          refine step_call2 rfl 51 (.tmp 31) (.tmp 35) 97 25 rfl en51 ?_
          refine (HUN.out _ ((Eqw.drew w3).below _)).mono ?_
          rintro e wt ⟨rfl, hbi, hb5, hk5⟩
          refine ⟨_, rfl, hKK.out _ _ ⟨(cell_eq (hk5 y HY3.out.1 hyu) 0).trans y0, (cell_eq (hk5 y HY3.out.1 hyu) 1).trans y1, (cell_eq (hk5 b HY3.out.2 hub3) 4).trans d4⟩ (taiY_nil ?_)⟩
          have HBO : Hid (BO w wt B b l tx C cp r m' k) := ⟨_, _, _, _, _, hbi, HFS.out, HEV.out, HBA.out, HNF.out, HBWU.out.trans ((Joins.below_le HB3.out (by have := HBU.out.size; omega)).trans (((Eqw.drew w3).below _).trans hb5))⟩
          clear hbi hb5 hk5 y0 y1 d4 HUN HB4 HB3
          go_wp2_with fail
          go_roundg k
          case measure => omega
          case rel => exact HBO
        | go i j =>
          have hok := hbi.okt _ List.mem_cons_self
          have hsl := hbi.stl
          simp only [List.length_cons] at hsl
          have HSL : Hid (st.length ≤ m1.length) := by show _ ≤ _; omega
          have HPO := pop49_some (i : Int) (j : Int) rfl hbi HMS1
          have HEV := hid hev
          have HOK := hid hok
          have hi31 : i < 2147483648 := by have := hok.1; omega
          have hj31 : j < 2147483648 := by have := hok.2.2; omega
          clear hbi hfs hba hnf hbw hev hok hsl
          go_upto_region 3 with (go_at_call 49; (with_reducible refine HPO.mono ?_); rintro e w2 ⟨rfl, hb2, hbw2⟩; have HB2 := hid hb2; have HBW2 := hid hbw2; clear hb2 hbw2 HPO)
          obtain ⟨U, hU⟩ : ∃ U, U = w2.alloc (.cells #[.int .i32 (i : Int), .int .i32 (j : Int)] 97) := ⟨_, rfl⟩
          obtain ⟨y, hy⟩ : ∃ y, y = w2.heap.size := ⟨_, rfl⟩
          rw [← hU, ← hy]
          have hX : U.heap[y]? = some (.cells #[.int .i32 (i : Int), .int .i32 (j : Int)] 97 (0, 0)) := by rw [hU, hy]; exact heap_alloc_new w2 _
          have hbU : Below w2.heap.size w2 U := by rw [hU]; exact Joins.below_alloc1 w2 _
          have hBU := HB2.out.below hbU
          have hyU : y < U.heap.size := (Array.getElem?_eq_some_iff.1 hX).1
          have x0 := Joins.cell_of_block hX 0
          have x1 := Joins.cell_of_block hX 1
          simp at x0 x1
          have HBU := hid hBU
          have HBWU := hid (HBW.out.trans (HBW2.out.trans (Joins.below_le hbU (by have := HB2.out.size; omega))))
          have HI := isUndo50_go i j U
          have HPA := fun W => pair52 i j W hi31 hj31
          clear hU hy hX hbU hBU
          go_wp2_with (first | (go_at_call 50; (with_reducible refine HI.mono ?_); rintro e w3 ⟨rfl, hb3⟩; have HB3 := hid hb3; have y0 := (hb3.cell (p := ⟨y, 0, none⟩) hyU).trans x0; have y1 := (hb3.cell (p := ⟨y, 1, none⟩) hyU).trans x1; clear hb3 HI x0 x1) | (go_at_call 52; (with_reducible refine (HPA _).mono ?_); rintro e w4 ⟨rfl, hb4⟩; have HB4 := hid hb4; clear hb4 HPA y0 y1))
          have hb34 : Below U.heap.size U w4 := HB3.out.trans (Joins.below_le HB4.out HB3.out.size)
          have HBN : Hid (BN w w4 B b l tx C cp r m' gk i j) := ⟨_, _, _, _, _, HBU.out.below hb34, HFS.out, HEV.out, HBA.out, HNF.out, HBWU.out.trans (Joins.below_le hb34 (by have := HBU.out.size; omega)), HOK.out, HSL.out⟩
          clear HB3 HB4 hb34 HBU HBWU HB2 HBW2 HSL HOK HEV HFS HBA HNF HBW HBI HMS1 hyU hi31 hj31
          go_loopg [6, 7] gk (fun k s6 s7 wr => ∃ i j : Nat, s6 = .int .i64 (i : Int) ∧ s7 = .int .i64 (j : Int) ∧ k ≤ gk ∧ Hid (BN w wr B b l tx C cp r m' k i j))
          case atStart => exact ⟨i, j, rfl, rfl, Nat.le_refl _, HBN⟩
          case round =>
            clear HBN
            obtain ⟨i, j, rfl, rfl, hgk, HBN⟩ := hrel
            obtain ⟨V2, st2, m2, cp2, W2, hbi, hfs, hev, hba, hnf, hbw, hok, hsl⟩ := HBN.out
            clear HBN
            have HFS := hid hfs
            have HBA := hid hba
            have HNF := hid hnf
            have HBW := hid hbw
            have HOK := hid hok
            have HSL := hid hsl
            by_cases hm : (i, j) ∈ m2
            · have hev' : ∃ k, k < gk ∧ Ev (act l tx) k st2 m2 cp2 r m' := by
                cases hev with
                | old k _ _ _ _ _ _ _ hm hev => exact ⟨k, by omega, hev⟩
                | fit _ _ _ _ _ y hm' hy => exact absurd hm hm'
                | step k _ _ _ _ _ _ _ hm' hy hev => exact absurd hm hm'
              obtain ⟨k, hkg, hev'⟩ := hev'
              have HAD := add53_old hbi HBC.out hok.1 hok.2.1 hok.2.2 hm
              have HEV := hid hev'
              have hBs2 := hbi.size
              clear hbi hfs hba hnf hbw hev hok hsl hev' hm
              go_wp2_with (go_at_call 53; (with_reducible refine HAD.mono ?_); rintro e w5 ⟨rfl, y1, y2, y3, W3, hb5, hbw5⟩; have HB5 := hid hb5; have HBW5 := hid hbw5; clear hb5 hbw5 HAD)
              go_roundg k
              case measure => omega
              case rel => exact ⟨_, _, _, _, _, HB5.out, HFS.out, HEV.out, HBA.out, HNF.out, HBW.out.trans HBW5.out⟩
            · have HAD := add53_new hbi HBC.out hok.1 hok.2.1 hok.2.2 hm
              have HEV := hid hev
              have HM := hid hm
              have hil : i < l.length := by have := hok.1; omega
              have hin : (i : Int) < (C.n : Int) := by have := hok.1; omega
              have hIok := (may_ok HBC.out.may).2.2.2.2.2 _ (List.getElem_mem hil)
              have HIOK := hid hIok
              obtain ⟨M1, hM1⟩ : ∃ M1, M1 = m2.length + 1 := ⟨_, rfl⟩
              have hms : m2.length ≤ 16777216 := HMS.out _ _ _ _ _ _ hbi
              have a13 : IntKind.i64.wrap ((m2.length : Int) + 1) = (M1 : Int) := by rw [wrap_ok _ (by omega) (by omega)]; omega
              have a13' : (m2.length : Int) + 1 = (M1 : Int) := by omega
              have HM1 := hid hM1
              clear hbi hfs hba hnf hbw hev hok hsl hm hIok hM1
              go_upto_region 8 with (go_at_call 53; (with_reducible refine HAD.mono ?_); rintro e w5 ⟨rfl, y1, y2, y3, W3, hb5, hbw5⟩; have c13 := hb5.mb.c 13; have u13 := hb5.mb.u 13; simp at c13; rw [HFS.out] at c13; have hst := hb5.stepped M1; have HB6 := hid hst.1; have HBW6 := hid (HBW.out.trans (hbw5.trans hst.2)); clear hb5 hbw5 hst HAD HBW)
              obtain ⟨W6, hW6⟩ : ∃ W6, W6 = w5.setCell ⟨b, 13, none⟩ (.int .i64 (M1 : Int)) := ⟨_, rfl⟩
              rw [← hW6] at HB6 HBW6 ⊢
              clear hW6 c13 u13 a13 a13'
              obtain ⟨pb, po, r1, r2, r3, hpa, hr2, ⟨m0, n1, n2, n3, n4⟩, hrow, hpb⟩ := HB6.out.inst hil
              have c0 := HB6.out.mb.c 0
              simp at c0
              rw [hpa] at c0
              have HR2 := hid hr2
              have HROW := hid hrow
              clear hpa hr2 hrow
              have hops := ok_op HIOK.out
              obtain ⟨I, hI⟩ : ∃ I, I = l[i] := ⟨_, rfl⟩
              rw [← hI] at m0 n1 n2 n3 HR2 HROW HIOK hops
              have HI := hid hI
              clear hI
              obtain ⟨op, hop⟩ : ∃ op, op = I.op := ⟨_, rfl⟩
              rw [← hop] at m0 hops
              have HOP := hid hop
              have hact : act l tx j i = actI tx I j := by unfold act; rw [getD_in' hil, HI.out]
              have HACT := hid hact
              clear hop hact
              go_upto_region 10 with fail
              have HF6 : Hid (M1 = (m2 ++ [(i, j)]).length) := by show M1 = _; rw [HM1.out]; simp
              have HSL6 : Hid (st2.length ≤ (m2 ++ [(i, j)]).length) := by show _ ≤ _; have := HSL.out; simp; omega
              have HN6 : Hid ((m2 ++ [(i, j)]).length ≤ 16777216) := HMS.out _ _ _ _ _ _ HB6.out
              rcases hops with rfl | rfl | rfl | rfl | rfl | rfl | rfl
              · have hx := ok_x HIOK.out (by rw [← HOP.out]; rfl)
                obtain ⟨x, hxe⟩ := Int.eq_ofNat_of_zero_le hx.1
                have hxl : x < C.n := by omega
                rw [hxe] at n1
                obtain ⟨X, hX⟩ : ∃ X, X = (decide (j < tx.length) && hsB I.R (tx.getD j 0)) := ⟨_, rfl⟩
                have HFI := fits54 (R := I.R) (r1 := r1) (r3 := r3) HB6.out HOK.out.2.2 HR2.out (RowAt.below HROW.out (Below.refl B _) (Nat.le_refl _) HB6.out.size) (ok_R HIOK.out (by rw [← HOP.out]))
                rw [← hX] at HFI
                have hae : act l tx j i = if X = true then .rune x else .stop := by rw [HACT.out]; unfold actI; rw [← HOP.out, hxe, ← hX]; simp
                have hjt : X = true → j < C.tn := fun h => by have := HBC.out.tn; rw [h] at hX; simp at hX; omega
                have aj : IntKind.i64.wrap ((j : Int) + 1) = ((j + 1 : Nat) : Int) := by have := HOK.out.2.2; rw [wrap_ok _ (by omega) (by omega)]; omega
                have HAE := hid hae
                have HJT := hid hjt
                have hbl6 := HB6.out.mb.lt
                clear hX hae hjt hx hxe m0 n2 n3 c0
                cases X with
                | false =>
                  obtain ⟨k, hkg, hev⟩ := ev_step HEV.out HM.out (by rw [HAE.out]; intro a; exact fun h => by cases h)
                  rw [show nx (act l tx) i j cp2 = ([], cp2) by unfold nx; rw [HAE.out]; rfl] at hev
                  have HE := hid hev
                  clear hev
                  go_wp2_with (go_at_call 54; (with_reducible refine HFI.mono ?_); rintro e w7 ⟨rfl, hb7⟩; have HB7 := hid hb7; clear hb7 HFI)
                  go_roundg k
                  case measure => omega
                  case rel => exact ⟨_, _, _, _, _, HB6.out.below HB7.out, HF6.out, HE.out, HBA.out, HNF.out, HBW6.out.trans (Joins.below_le HB7.out HB6.out.size)⟩
                | true =>
                  obtain ⟨k, hkg, hev⟩ := ev_step HEV.out HM.out (by rw [HAE.out]; intro a; exact fun h => by cases h)
                  rw [show nx (act l tx) i j cp2 = ([.go x (j + 1)], cp2) by unfold nx; rw [HAE.out]; rfl] at hev
                  have HE := hid hev
                  have hjt := HJT.out rfl
                  clear hev
                  go_wp2_with (go_at_call 54; (with_reducible refine HFI.mono ?_); rintro e w7 ⟨rfl, hb7⟩; have HB7 := hid hb7; have k1 := (hb7.cell (p := ⟨pb, po + i * 5 + 1, none⟩) (by show pb < _; have := HB6.out.size; omega)).trans n1; clear hb7 HFI)
                  go_roundg k
                  case measure => omega
                  case rel => exact ⟨x, j + 1, rfl, rfl, by omega, _, _, _, _, _, HB6.out.below HB7.out, HF6.out, HE.out, HBA.out, HNF.out, HBW6.out.trans (Joins.below_le HB7.out HB6.out.size), ⟨hxl, by have := HOK.out.2.1; omega, by omega⟩, HSL6.out⟩
              · have hx := ok_x HIOK.out (by rw [← HOP.out]; rfl)
                obtain ⟨x, hxe⟩ := Int.eq_ofNat_of_zero_le hx.1
                have hxl : x < C.n := by omega
                rw [hxe] at n1
                have hy := ok_y HIOK.out (by rw [← HOP.out]; rfl)
                obtain ⟨yy, hye⟩ := Int.eq_ofNat_of_zero_le hy.1
                have hyl : yy < C.n := by omega
                rw [hye] at n2
                have hae : act l tx j i = .alt x yy := by rw [HACT.out]; unfold actI; rw [← HOP.out, hxe, hye]; simp
                obtain ⟨k, hkg, hev⟩ := ev_step HEV.out HM.out (by rw [hae]; intro a; exact fun h => by cases h)
                rw [show nx (act l tx) i j cp2 = ([.go x j, .go yy j], cp2) by unfold nx; rw [hae]] at hev
                have HE := hid hev
                have HSL7 : Hid ((Tk.go yy j :: st2).length ≤ (m2 ++ [(i, j)]).length) := by show _ ≤ _; have := HSL.out; simp; exact this
                clear hae hev m0 n3 n4 c0 hx hxe hy hye
                go_upto_region 14 with fail
                refine wp_region_ley 8 (fun w' => w'.cell? ⟨pb, po + i * 5 + 2, none⟩ = some (.int .i64 (yy : Int))) (by kernel_rfl) (by kernel_rfl) (by decide) (by kernel_rfl) (by kernel_rfl) n2 ?_
                simp only [List.take_succ_cons, List.take_zero, List.drop_succ_cons, List.drop_zero]
                iterate 8
                  refine ley_cons ?_ rfl (fun W hW => ?_) (fun _ _ _ h => h) ?_
                  rotate_left
                  · have s0 := hW
                    go_simp <;> with_reducible rfl
                  simp only [Act.put, List.setIfInBounds_toArray, List.set_cons_zero, List.set_cons_succ]
                refine ley_nil (taiY_cons fun KK hKK => ?_)
                refine step_call2 rfl 48 (.tmp 88) (.tmp 89) 3 3 rfl en48 ?_
                refine (HME.out yy j W6.drew hyl HOK.out.2.2).mono ?_
                rintro e w7 ⟨rfl, hb7⟩
                have hb7' : Below W6.heap.size W6 w7 := Below.trans ((Eqw.drew W6).below _) hb7
                have hB7s : B ≤ W6.heap.size := HB6.out.size
                have q2 := (hb7'.cell (p := ⟨pb, po + i * 5 + 2, none⟩) (by show pb < _; omega)).trans n2
                refine ⟨_, rfl, hKK.out _ _ q2 (taiY_cons fun KK hKK => ?_)⟩
                refine step_call2 rfl 47 (.tmp 84) (.tmp 90) 65 97 rfl en47 ?_
                refine (HPU.out _ _ _ _ _ W6 yy j w7 HB6.out hb7' ⟨hyl, HOK.out.2⟩ HSL6.out).mono ?_
                rintro e w8 ⟨rfl, g1, g3, gm, hb8, hbw8⟩
                have q3 := (hbw8.cell (p := ⟨pb, po + i * 5 + 2, none⟩) hpb).trans q2
                refine ⟨_, rfl, hKK.out _ _ q3 (taiY_nil ?_)⟩
                have hbw78 : Below B W6 w8 := (Joins.below_le hb7' hB7s).trans hbw8
                have k1 := (hbw78.cell (p := ⟨pb, po + i * 5 + 1, none⟩) hpb).trans n1
                have HB8 := hid hb8
                have HBW8 := hid hbw78
                clear hb8 hbw8 hbw78 hb7 hb7' q2 q3 n1 n2 hB7s
                go_wp2_with fail
                go_roundg k
                case measure => omega
                case rel => exact ⟨x, j, rfl, rfl, by omega, _, _, _, _, _, HB8.out, HF6.out, HE.out, HBA.out, HNF.out, HBW6.out.trans HBW8.out, ⟨hxl, HOK.out.2⟩, HSL7.out⟩
              · have hx := ok_x HIOK.out (by rw [← HOP.out]; rfl)
                obtain ⟨x, hxe⟩ := Int.eq_ofNat_of_zero_le hx.1
                have hxl : x < C.n := by omega
                rw [hxe] at n1
                have haa := ok_a HIOK.out HOP.out.symm
                obtain ⟨oa, hoa⟩ := Int.eq_ofNat_of_zero_le haa.1
                have hal : oa < C.K := by omega
                rw [hoa] at n3
                have hae : act l tx j i = .cap x oa := by rw [HACT.out]; unfold actI; rw [← HOP.out, hxe, hoa]; simp
                obtain ⟨k, hkg, hev⟩ := ev_step HEV.out HM.out (by rw [hae]; intro a; exact fun h => by cases h)
                rw [show nx (act l tx) i j cp2 = ([.go x j, .un oa (cp2.getD oa 0)], cp2.set oa (j : Int)) by unfold nx; rw [hae]] at hev
                have HE := hid hev
                have HNO := note55 (a := oa) (j := j) HB6.out hal hK htl HOK.out.2.2 HSL6.out HN6.out
                have HBA2 : Hid (base (.un oa (cp2.getD oa 0) :: st2) (cp2.set oa (j : Int)) = cp) := by show base st2 ((cp2.set oa (j : Int)).set oa (cp2.getD oa 0)) = cp; rw [set_old]; exact HBA.out
                have HSL7 : Hid ((Tk.un oa (cp2.getD oa 0) :: st2).length ≤ (m2 ++ [(i, j)]).length) := by show _ ≤ _; have := HSL.out; simp; exact this
                clear hae hev m0 n2 n4 c0 hx hxe haa hoa
                go_wp2_with (go_at_call 55; (with_reducible refine HNO.mono ?_); rintro e w7 ⟨rfl, g1, g3, gm, hb7, hbw7⟩; have HB7 := hid hb7; have HBW7 := hid hbw7; have k1 := (hbw7.cell (p := ⟨pb, po + i * 5 + 1, none⟩) hpb).trans n1; clear hb7 hbw7 HNO)
                go_roundg k
                case measure => omega
                case rel => exact ⟨x, j, rfl, rfl, by omega, _, _, _, _, _, HB7.out, HF6.out, HE.out, HBA2.out, HNF.out, HBW6.out.trans HBW7.out, ⟨hxl, HOK.out.2⟩, HSL7.out⟩
              · have hx := ok_x HIOK.out (by rw [← HOP.out]; rfl)
                obtain ⟨x, hxe⟩ := Int.eq_ofNat_of_zero_le hx.1
                have hxl : x < C.n := by omega
                rw [hxe] at n1
                obtain ⟨oa, hoa⟩ : ∃ oa, oa = I.a := ⟨_, rfl⟩
                rw [← hoa] at n3
                obtain ⟨t, ht⟩ : ∃ t, t = atP tx j := ⟨_, rfl⟩
                obtain ⟨X, hX⟩ : ∃ X, X = holdsB oa t := ⟨_, rfl⟩
                have HA := Look.at10 tx C.tad C.tn C.tc j W6.drew (look_text (show TextAt W6.drew.heap.size W6.drew C.tad C.tn tx from HB6.out.tx.mono HB6.out.size))
                rw [look_at tx j (by have := HBC.out.tn; have := HOK.out.2.2; omega), ← ht] at HA
                have HH : Hid (∀ W, Calls Try.prog 56 #[.int .i64 oa, .int .i64 t] W fun e w' => e = .returned (.bool X) ∧ w' = W) := fun W => by rw [hX]; exact Look.holds13 oa t W
                have hae : act l tx j i = if X = true then .go x else .stop := by rw [HACT.out]; unfold actI; rw [← HOP.out, hxe, ← hoa, ← ht, ← hX]; simp
                have HAE := hid hae
                have b3 := HB6.out.mb.c 3
                simp at b3
                have hbl6 := HB6.out.mb.lt
                have hBs6 := HB6.out.size
                clear hae hX ht hoa hx hxe m0 n2 n4 c0
                go_upto_region 18 with fail
                refine wp_region_ley 9 (fun w' => w'.cell? ⟨pb, po + i * 5 + 3, none⟩ = some (.int .i64 oa) ∧ w'.cell? ⟨b, 3, none⟩ = some (.slice C.tad C.tn C.tc)) (by kernel_rfl) (by kernel_rfl) (by decide) (by kernel_rfl) (by kernel_rfl) ⟨n3, b3⟩ ?_
                simp only [List.take_succ_cons, List.take_zero, List.drop_succ_cons, List.drop_zero]
                iterate 9
                  refine ley_cons ?_ rfl (fun W hW => ?_) (fun _ _ _ h => h) ?_
                  rotate_left
                  · obtain ⟨s0, s1⟩ := hW
                    go_simp <;> with_reducible rfl
                  simp only [Act.put, List.setIfInBounds_toArray, List.set_cons_zero, List.set_cons_succ]
                refine ley_nil (taiY_cons fun KK hKK => ?_)
                refine step_call2 rfl 57 (.tmp 110) (.tmp 111) 25 3 rfl en57 ?_
                refine HA.mono ?_
                rintro e w7 ⟨rfl, hb7⟩
                have hb7' : Below W6.heap.size W6 w7 := Below.trans ((Eqw.drew W6).below _) hb7
                have q2 := (hb7'.cell (p := ⟨pb, po + i * 5 + 3, none⟩) (by show pb < _; omega)).trans n3
                have q3 := (hb7'.cell (p := ⟨b, 3, none⟩) hbl6).trans b3
                refine ⟨_, rfl, hKK.out _ _ ⟨q2, q3⟩ (taiY_cons fun KK hKK => ?_)⟩
                refine step_call2 rfl 56 (.tmp 106) (.tmp 112) 3 3 rfl en56 ?_
                refine (HH.out w7).mono ?_
                rintro e w8 ⟨rfl, rfl⟩
                refine ⟨_, rfl, hKK.out _ _ ⟨q2, q3⟩ (taiY_cons fun KK hKK => ?_)⟩
                simp only [Act.put, List.setIfInBounds_toArray, List.set_cons_zero, List.set_cons_succ]
                go_simp
                refine hKK.out _ _ ⟨q2, q3⟩ (taiY_nil ?_)
                have k1 := (hb7'.cell (p := ⟨pb, po + i * 5 + 1, none⟩) (by show pb < _; omega)).trans n1
                have HB7 := hid hb7'
                clear hb7 hb7' q2 q3 n1 n3 b3 HA HH
                cases X with
                | false =>
                  obtain ⟨k, hkg, hev⟩ := ev_step HEV.out HM.out (by rw [HAE.out]; intro a; exact fun h => by cases h)
                  rw [show nx (act l tx) i j cp2 = ([], cp2) by unfold nx; rw [HAE.out]; rfl] at hev
                  have HE := hid hev
                  clear hev
                  go_wp2_with fail
                  go_roundg k
                  case measure => omega
                  case rel => exact ⟨_, _, _, _, _, HB6.out.below HB7.out, HF6.out, HE.out, HBA.out, HNF.out, HBW6.out.trans (Joins.below_le HB7.out HB6.out.size)⟩
                | true =>
                  obtain ⟨k, hkg, hev⟩ := ev_step HEV.out HM.out (by rw [HAE.out]; intro a; exact fun h => by cases h)
                  rw [show nx (act l tx) i j cp2 = ([.go x j], cp2) by unfold nx; rw [HAE.out]; rfl] at hev
                  have HE := hid hev
                  clear hev
                  go_wp2_with fail
                  go_roundg k
                  case measure => omega
                  case rel => exact ⟨x, j, rfl, rfl, by omega, _, _, _, _, _, HB6.out.below HB7.out, HF6.out, HE.out, HBA.out, HNF.out, HBW6.out.trans (Joins.below_le HB7.out HB6.out.size), ⟨hxl, HOK.out.2⟩, HSL6.out⟩
              · have hae : act l tx j i = .fit I.a := by rw [HACT.out]; unfold actI; rw [← HOP.out]; simp
                obtain ⟨hr, hm'⟩ := ev_fit HEV.out HM.out hae
                have HR := hid hr
                have HM' := hid hm'
                have HMA := match58 I.a HB6.out
                obtain ⟨oa, hoa⟩ : ∃ oa, oa = I.a := ⟨_, rfl⟩
                rw [← hoa] at n3 HMA
                have HOA := hid hoa
                clear hae hr hm' hoa m0 n1 n2 n4 c0
                go_wp2_with (go_at_call 58; (with_reducible refine HMA.mono ?_); rintro e w7 ⟨rfl, hb7, hbw7⟩; have HB7 := hid hb7; have HBW7 := hid hbw7; clear hb7 hbw7 HMA)
                simp only [Exit.noGoto]
                go_end0
                refine ⟨rfl, _, st2, cp2, _, by rw [HM'.out]; exact HB7.out, by rw [HM'.out]; exact HF6.out, ?_, HBW6.out.trans HBW7.out⟩
                rw [HR.out]
                exact ⟨rfl, rfl, rfl, rfl, HOA.out, rfl⟩
              · have hae : act l tx j i = .stop := by rw [HACT.out]; unfold actI; rw [← HOP.out]; simp
                obtain ⟨k, hkg, hev⟩ := ev_step HEV.out HM.out (by rw [hae]; intro a; exact fun h => by cases h)
                rw [show nx (act l tx) i j cp2 = ([], cp2) by unfold nx; rw [hae]] at hev
                have HE := hid hev
                clear hae hev m0 n1 n2 n3 n4 c0
                go_wp2_with fail
                go_roundg k
                case measure => omega
                case rel => exact ⟨_, _, _, _, _, HB6.out, HF6.out, HE.out, HBA.out, HNF.out, HBW6.out⟩
              · have hx := ok_x HIOK.out (by rw [← HOP.out]; rfl)
                obtain ⟨x, hxe⟩ := Int.eq_ofNat_of_zero_le hx.1
                have hxl : x < C.n := by omega
                rw [hxe] at n1
                have hae : act l tx j i = .go x := by rw [HACT.out]; unfold actI; rw [← HOP.out, hxe]; simp
                obtain ⟨k, hkg, hev⟩ := ev_step HEV.out HM.out (by rw [hae]; intro a; exact fun h => by cases h)
                rw [show nx (act l tx) i j cp2 = ([.go x j], cp2) by unfold nx; rw [hae]] at hev
                have HE := hid hev
                clear hae hev m0 n2 n3 n4 c0 hx hxe
                go_wp2_with fail
                go_roundg k
                case measure => omega
                case rel => exact ⟨x, j, rfl, rfl, by omega, _, _, _, _, _, HB6.out, HF6.out, HE.out, HBA.out, HNF.out, HBW6.out, ⟨hxl, HOK.out.2⟩, HSL6.out⟩
end Go.Proofs.Ytodpmmlfdkdemaa
/- HELPERS: the search, from beginning to beginning. -/
namespace Go.Proofs.Ytodpmmlfdkdemaa
open Go.RowKit Go.Lk
set_option linter.unusedVariables false
set_option linter.unusedSimpArgs false
theorem bgs_anch (P : Pr) (a : Nat) : ∀ (m j : Nat), a < j → bgs P a true none m j = []
  | 0, _, _ => rfl
  | m + 1, j, h => by
    have hn : ¬ bgB a true j none = true := by simp [bgB]; omega
    simp only [bgs]
    rw [if_neg hn, bgs_anch P a m (j + 1) (by omega)]
    rfl
/-- the place up to which there are beginnings -/
def lastP (anch : Bool) (a tn : Nat) : Nat := if anch = true then a else tn
theorem bgs_in (P : Pr) {a tn j : Nat} {anch : Bool} (ha : a ≤ j) (hj : j ≤ lastP anch a tn) (hat : a ≤ tn) : bgs P a anch none (tn + 1 - j) j = (P.S, j, List.replicate P.K (-1)) :: bgs P a anch none (tn + 1 - (j + 1)) (j + 1) := by
  have hjt : j ≤ tn := by unfold lastP at hj; split at hj <;> omega
  rw [show tn + 1 - j = (tn + 1 - (j + 1)) + 1 by omega]
  simp only [bgs]
  rw [if_pos]
  · rfl
  · unfold lastP at hj
    cases anch
    · simp [bgB]
    · simp at hj; simp [bgB]; omega
theorem bgs_out (P : Pr) {a tn j : Nat} {anch : Bool} (ha : a ≤ j) (hj : lastP anch a tn < j) : bgs P a anch none (tn + 1 - j) j = [] := by
  unfold lastP at hj
  cases anch
  · simp at hj
    rw [show tn + 1 - j = 0 by omega]
    rfl
  · simp at hj
    exact bgs_anch P a _ _ hj
/-- between two beginnings -/
def BR (w0 w : World) (B b : Nat) (l : List In) (tx : List Int) (C : Bk) (anch : Bool) (r : Fd) (m' : List Pt) (p : Nat) : Prop :=
  ∃ V st m cp W, BI w B b l tx C V st m cp W ∧ V.fs = m.length ∧ Below B w0 w ∧
    ((st = [] ∧ cp = List.replicate C.K (-1) ∧ NF V ∧ Da (act l tx) m (bgs (prOf l tx C.S C.K) C.a anch none (C.tn + 1 - p) p) m' r) ∨ (m = m' ∧ ∃ y, r = some y ∧ BF C V st (List.replicate C.K (-1)) cp r))
set_option maxRecDepth 100000 in
set_option maxHeartbeats 16000000 in
theorem run22 {w : World} {B b : Nat} {l : List In} {tx : List Int} {C : Bk} {V : Bv} {anch : Bool} {r : Fd} {m' : List Pt} (h : BI w B b l tx C V [] [] (List.replicate C.K (-1)) []) (hc : BC l tx C) (hfs : V.fs = 0) (hnf : NF V) (hd : Da (act l tx) [] (bgs (prOf l tx C.S C.K) C.a anch none (C.tn + 1 - C.a) C.a) m' r) :
    Calls Try.prog 22 #[.pointer (some ⟨b, 0, none⟩), .int .i64 (C.a : Int), .bool anch] w fun e w' => e = .returned (.tuple #[]) ∧ ∃ V' st cp' W', BI w' B b l tx C V' st m' cp' W' ∧ V'.fs = m'.length ∧ BF C V' st (List.replicate C.K (-1)) cp' r ∧ Below B w w' := by
  have hat := hc.at_
  have htl := hc.tl
  have HBC := hid hc
  have c3 := h.mb.c 3
  simp at c3
  have HBR : Hid (BR w w B b l tx C anch r m' C.a) := ⟨V, [], [], _, [], h, hfs, Below.refl _ _, .inl ⟨rfl, rfl, hnf, hd⟩⟩
  obtain ⟨L, hL⟩ : ∃ L, L = lastP anch C.a C.tn := ⟨_, rfl⟩
  have HL := hid hL
  have hLt : L ≤ C.tn := by rw [hL]; unfold lastP; split <;> omega
  have HBG : Hid (∀ (V : Bv) m W (w : World) (p : Nat) (r1 : Fd) (m1 : List Pt), BI w B b l tx C V [] m (List.replicate C.K (-1)) W → V.fs = m.length → NF V → C.a ≤ p → p ≤ C.tn → Df (act l tx) m C.S p (List.replicate C.K (-1)) m1 r1 → Calls Try.prog 30 #[.pointer (some ⟨b, 0, none⟩), .int .i64 (p : Int)] w fun e w' => e = .returned (.tuple #[]) ∧ ∃ V' st cp' W', BI w' B b l tx C V' st m1 cp' W' ∧ V'.fs = m1.length ∧ BF C V' st (List.replicate C.K (-1)) cp' r1 ∧ Below B w w') := fun V m W w p r1 m1 h hf hn ha hp hdf => by
    obtain ⟨N, hev⟩ := df_ev1 hdf
    exact begin30 h hc hf hn ha hp hev
  clear h hc hfs hnf hd
  go_enter Try.func22, Try.ntmps22
  have hcase : (anch = true ∧ L = C.a) ∨ (anch = false ∧ L = C.tn) := by
    rw [hL]; unfold lastP
    cases anch <;> simp
  clear hL
  rcases hcase with ⟨rfl, rfl⟩ | ⟨rfl, rfl⟩
  all_goals go_wp2_with fail
  · clear c3
    go_loopw [7] (fun s7 wr => ∃ p : Nat, s7 = .int .i64 (p : Int) ∧ C.a ≤ p ∧ p ≤ C.tn + 1 ∧ Hid (BR w wr B b l tx C true r m' p)) (fun s7 _ => C.tn + 1 - (intOf s7).toNat)
    case atStart => exact ⟨C.a, rfl, Nat.le_refl _, by omega, HBR⟩
    case round =>
      clear HBR
      obtain ⟨p, rfl, hap, hpt, HBR⟩ := hrel
      obtain ⟨V1, st, m1, cp1, W1, hbi, hfs, hbw, hcs⟩ := HBR.out
      clear HBR
      have HBI := hid hbi
      have HFS := hid hfs
      have HBW := hid hbw
      have c10 := hbi.mb.c 10
      simp at c10
      by_cases hpl : p ≤ C.a
      · have b1 : decide ((p : Int) ≤ (C.a : Int)) = true := by simp; omega
        have b1' : (p : Int) ≤ (C.a : Int) := by omega
        rcases hcs with ⟨rfl, rfl, hnf, hda⟩ | ⟨rfl, y, rfl, hbf⟩
        · rw [hnf.1] at c10
          rw [bgs_in _ hap (by rw [← HL.out]; exact hpl) hat] at hda
          have ap : IntKind.i64.wrap ((p : Int) + 1) = ((p + 1 : Nat) : Int) := by rw [wrap_ok _ (by omega) (by omega)]; omega
          cases hda with
          | hit _ _ _ _ _ _ z hdf =>
            have HB := HBG.out _ _ _ _ p _ _ hbi hfs hnf hap (by omega) hdf
            clear hbi hfs hbw hnf hdf HBG
            go_wp2_with (go_at_call 30; (with_reducible refine HB.mono ?_); rintro e w2 ⟨rfl, V2, st2, cp2, W2, hb2, hf2, hbf2, hbw2⟩; have HB2 := hid hb2; have HF2 := hid hf2; have HBF2 := hid hbf2; have HBW2 := hid hbw2; clear hb2 hf2 hbf2 hbw2 HB)
            refine ⟨⟨p + 1, rfl, by omega, by omega, _, _, _, _, _, HB2.out, HF2.out, HBW.out.trans HBW2.out, .inr ⟨rfl, _, rfl, HBF2.out⟩⟩, by simp [intOf]; omega⟩
          | miss _ _ _ _ _ m2 _ _ hdf hda =>
            have HB := HBG.out _ _ _ _ p _ _ hbi hfs hnf hap (by omega) hdf
            have HDA := hid hda
            clear hbi hfs hbw hnf hdf HBG hda
            go_wp2_with (go_at_call 30; (with_reducible refine HB.mono ?_); rintro e w2 ⟨rfl, V2, st2, cp2, W2, hb2, hf2, hbf2, hbw2⟩; have HB2 := hid hb2; have HF2 := hid hf2; have HBF2 := hid hbf2; have HBW2 := hid hbw2; clear hb2 hf2 hbf2 hbw2 HB)
            refine ⟨⟨p + 1, rfl, by omega, by omega, _, _, _, _, _, HB2.out, HF2.out, HBW.out.trans HBW2.out, .inl ⟨HBF2.out.1, HBF2.out.2.1, HBF2.out.2.2, HDA.out⟩⟩, by simp [intOf]; omega⟩
        · rw [hbf.1] at c10
          have HBF := hid hbf
          clear hbi hfs hbw hbf HBG
          go_wp2
          go_end0
          exact ⟨rfl, _, _, _, _, HBI.out, HFS.out, HBF.out, HBW.out⟩
      · have b1 : decide ((p : Int) ≤ (C.a : Int)) = false := by simp; omega
        have b1' : ¬ ((p : Int) ≤ (C.a : Int)) := by omega
        have hres : m1 = m' ∧ BF C V1 st (List.replicate C.K (-1)) cp1 r := by
          rcases hcs with ⟨rfl, rfl, hnf, hda⟩ | ⟨rfl, y, rfl, hbf⟩
          · rw [bgs_out _ hap (by rw [← HL.out]; omega)] at hda
            cases hda with
            | nil => exact ⟨rfl, rfl, rfl, hnf⟩
          · exact ⟨rfl, hbf⟩
        obtain ⟨rfl, hbf⟩ := hres
        have HBF := hid hbf
        clear hbi hfs hbw hcs hbf HBG c10
        go_wp2
        go_end0
        first | exact ⟨rfl, V1, st, cp1, W1, HBI.out, HFS.out, HBF.out, HBW.out⟩ | exact ⟨rfl, V1, st, cp1, ⟨W1, HBI.out⟩, HFS.out, HBF.out, HBW.out⟩ | exact ⟨rfl, ⟨V1, st, cp1, ⟨W1, HBI.out⟩, HFS.out, HBF.out⟩, HBW.out⟩
  · clear c3
    go_loopw [7] (fun s7 wr => ∃ p : Nat, s7 = .int .i64 (p : Int) ∧ C.a ≤ p ∧ p ≤ C.tn + 1 ∧ Hid (BR w wr B b l tx C false r m' p)) (fun s7 _ => C.tn + 1 - (intOf s7).toNat)
    case atStart => exact ⟨C.a, rfl, Nat.le_refl _, by omega, HBR⟩
    case round =>
      clear HBR
      obtain ⟨p, rfl, hap, hpt, HBR⟩ := hrel
      obtain ⟨V1, st, m1, cp1, W1, hbi, hfs, hbw, hcs⟩ := HBR.out
      clear HBR
      have HBI := hid hbi
      have HFS := hid hfs
      have HBW := hid hbw
      have c10 := hbi.mb.c 10
      simp at c10
      by_cases hpl : p ≤ C.tn
      · have b1 : decide ((p : Int) ≤ (C.tn : Int)) = true := by simp; omega
        have b1' : (p : Int) ≤ (C.tn : Int) := by omega
        rcases hcs with ⟨rfl, rfl, hnf, hda⟩ | ⟨rfl, y, rfl, hbf⟩
        · rw [hnf.1] at c10
          rw [bgs_in _ hap (by rw [← HL.out]; exact hpl) hat] at hda
          have ap : IntKind.i64.wrap ((p : Int) + 1) = ((p + 1 : Nat) : Int) := by rw [wrap_ok _ (by omega) (by omega)]; omega
          cases hda with
          | hit _ _ _ _ _ _ z hdf =>
            have HB := HBG.out _ _ _ _ p _ _ hbi hfs hnf hap (by omega) hdf
            clear hbi hfs hbw hnf hdf HBG
            go_wp2_with (go_at_call 30; (with_reducible refine HB.mono ?_); rintro e w2 ⟨rfl, V2, st2, cp2, W2, hb2, hf2, hbf2, hbw2⟩; have HB2 := hid hb2; have HF2 := hid hf2; have HBF2 := hid hbf2; have HBW2 := hid hbw2; clear hb2 hf2 hbf2 hbw2 HB)
            refine ⟨⟨p + 1, rfl, by omega, by omega, _, _, _, _, _, HB2.out, HF2.out, HBW.out.trans HBW2.out, .inr ⟨rfl, _, rfl, HBF2.out⟩⟩, by simp [intOf]; omega⟩
          | miss _ _ _ _ _ m2 _ _ hdf hda =>
            have HB := HBG.out _ _ _ _ p _ _ hbi hfs hnf hap (by omega) hdf
            have HDA := hid hda
            clear hbi hfs hbw hnf hdf HBG hda
            go_wp2_with (go_at_call 30; (with_reducible refine HB.mono ?_); rintro e w2 ⟨rfl, V2, st2, cp2, W2, hb2, hf2, hbf2, hbw2⟩; have HB2 := hid hb2; have HF2 := hid hf2; have HBF2 := hid hbf2; have HBW2 := hid hbw2; clear hb2 hf2 hbf2 hbw2 HB)
            refine ⟨⟨p + 1, rfl, by omega, by omega, _, _, _, _, _, HB2.out, HF2.out, HBW.out.trans HBW2.out, .inl ⟨HBF2.out.1, HBF2.out.2.1, HBF2.out.2.2, HDA.out⟩⟩, by simp [intOf]; omega⟩
        · rw [hbf.1] at c10
          have HBF := hid hbf
          clear hbi hfs hbw hbf HBG
          go_wp2
          go_end0
          exact ⟨rfl, _, _, _, _, HBI.out, HFS.out, HBF.out, HBW.out⟩
      · have b1 : decide ((p : Int) ≤ (C.tn : Int)) = false := by simp; omega
        have b1' : ¬ ((p : Int) ≤ (C.tn : Int)) := by omega
        have hres : m1 = m' ∧ BF C V1 st (List.replicate C.K (-1)) cp1 r := by
          rcases hcs with ⟨rfl, rfl, hnf, hda⟩ | ⟨rfl, y, rfl, hbf⟩
          · rw [bgs_out _ hap (by rw [← HL.out]; omega)] at hda
            cases hda with
            | nil => exact ⟨rfl, rfl, rfl, hnf⟩
          · exact ⟨rfl, hbf⟩
        obtain ⟨rfl, hbf⟩ := hres
        have HBF := hid hbf
        clear hbi hfs hbw hcs hbf HBG c10
        go_wp2
        go_end0
        first | exact ⟨rfl, V1, st, cp1, W1, HBI.out, HFS.out, HBF.out, HBW.out⟩ | exact ⟨rfl, V1, st, cp1, ⟨W1, HBI.out⟩, HFS.out, HBF.out, HBW.out⟩ | exact ⟨rfl, ⟨V1, st, cp1, ⟨W1, HBI.out⟩, HFS.out, HBF.out⟩, HBW.out⟩
end Go.Proofs.Ytodpmmlfdkdemaa
/- HELPERS: a new machine; is the map too big? -/
namespace Go.Proofs.Ytodpmmlfdkdemaa
open Go.RowKit Go.Lk
set_option linter.unusedVariables false
set_option linter.unusedSimpArgs false
set_option maxHeartbeats 2000000 in
theorem tooBig20 (n q : Nat) (w : World) (hn : 0 < n) (hn2 : n ≤ 20000) (hq : q ≤ 5000000) : Calls Try.prog 20 #[.int .i64 (n : Int), .int .i64 (q : Int)] w fun e w' => e = .returned (.bool (decide (16777216 < n * q))) ∧ w' = w := by
  have e1 : decide (16777216 < n * q) = decide (16777216 / n < q) := by
    rw [Bool.eq_iff_iff]
    simp only [decide_eq_true_eq]
    rw [Nat.div_lt_iff_lt_mul hn, Nat.mul_comm n q]
  rw [e1]
  obtain ⟨d, hd⟩ : ∃ d, d = 16777216 / n := ⟨_, rfl⟩
  rw [← hd]
  have a1 : Int.tdiv 16777216 (n : Int) = (d : Int) := by rw [hd]; rfl
  have a2 : (16777216 : Int) / (n : Int) = (d : Int) := by rw [hd]; rfl
  have hd2 : d ≤ 16777216 := by rw [hd]; exact Nat.div_le_self _ _
  have n0 : (n : Int) ≠ 0 := by omega
  have n0' : ((n : Int) == 0) = false := by simp; omega
  clear hd e1
  go_enter Try.func20, Try.ntmps20
  go_wp2
  go_ret
  exact ⟨rfl, rfl⟩
def cst (ad : Option Addr) (n c S K : Nat) (tad : Option Addr) (tn tc ub a : Nat) : Bk := ⟨ad, n, c, S, K, tad, tn, tc, ub, a⟩
def var0 : Bv := ⟨none, 0, 0, none, 0, 0, 0, false, none, 0, 0, 0, 0⟩
set_option maxRecDepth 100000 in
set_option maxHeartbeats 8000000 in
theorem newMachine21 {w : World} {ad tad : Option Addr} {n c S K tn tc a : Nat} {l : List In} {tx : List Int} (hP : PI w w.heap.size ad n l) (hmay : mayB l (S : Int) (K : Int) = true) (hT : TextAt w.heap.size w tad tn tx) :
    Calls Try.prog 21 #[pv ad n c (S : Int) (K : Int), .slice tad tn tc, .int .i64 (a : Int)] w fun e w' => ∃ b ub, e = .returned (.pointer (some ⟨b, 0, none⟩)) ∧ BI w' w.heap.size b l tx (cst ad n c S K tad tn tc ub a) var0 [] [] (List.replicate K (-1)) [] ∧ Below w.heap.size w w' := by
  have hm := may_ok hmay
  obtain ⟨B, hB⟩ : ∃ B, B = w.heap.size := ⟨_, rfl⟩
  obtain ⟨U, hU⟩ : ∃ U, U = w.alloc (.cells #[.slice ad n c, .int .i64 (S : Int), .int .i64 (K : Int)] 24) := ⟨_, rfl⟩
  have hbU : Below w.heap.size w U := by rw [hU]; exact Joins.below_alloc1 w _
  have hX : U.heap[w.heap.size]? = some (.cells #[.slice ad n c, .int .i64 (S : Int), .int .i64 (K : Int)] 24 (0, 0)) := by rw [hU]; exact heap_alloc_new w _
  have hUs : w.heap.size < U.heap.size := (Array.getElem?_eq_some_iff.1 hX).1
  rw [← hB] at hbU hX hUs ⊢
  obtain ⟨c0, c1, c2⟩ := three_cells hX
  have HBU := hid hbU
  have HP := hid hP
  have HT := hid hT
  have HBE := hid hB
  have hK1 : 1 ≤ K ∧ K ≤ 1002 := by omega
  have HREP : Hid (∀ (xb : Nat) (W : World), W.cell? ⟨xb, 0, none⟩ = some (.int .i64 (-1)) → xb < W.heap.size → Calls Try.prog 29 #[.slice (some ⟨xb, 0, none⟩) 1 1, .int .i64 (K : Int)] W fun e w' => e = .returned (.slice (some ⟨W.heap.size, 0, none⟩) K K) ∧ Below W.heap.size W w' ∧ RI W.heap.size K K w') := fun xb W h1 h2 => repeat51g xb 1 K hK1.1 (by omega) W h1 h2
  clear hbU hX hP hT hm hmay
  go_enter Try.func21, Try.ntmps21
  go_upto_region 1 with fail
  rw [← hU, ← hB]
  clear hU hB
  have HKEEP : Hid (∀ W, KW U W → W.cell? ⟨B, 0, none⟩ = some (.slice ad n c) ∧ W.cell? ⟨B, 1, none⟩ = some (.int .i64 (S : Int)) ∧ W.cell? ⟨B, 2, none⟩ = some (.int .i64 (K : Int))) := fun W h => ⟨(cell_eq (h.block B hUs) 0).trans c0, (cell_eq (h.block B hUs) 1).trans c1, (cell_eq (h.block B hUs) 2).trans c2⟩
  go_region_held2 (fun w' => w'.cell? ⟨B, 0, none⟩ = some (.slice ad n c) ∧ w'.cell? ⟨B, 1, none⟩ = some (.int .i64 (S : Int)) ∧ w'.cell? ⟨B, 2, none⟩ = some (.int .i64 (K : Int)))
      (first | (refine HKEEP.out _ ?_; repeat (first | with_reducible exact kw0 U | with_reducible refine kw_drew ?_ | with_reducible refine kw_alloc ?_ | with_reducible refine kw_next ?_ HB3.out)))
      (first | (go_at_call 29; (with_reducible refine (HREP.out _ _ (by first | (simp; done)) (by first | (simp; done))).mono ?_); rintro e w3 ⟨rfl, hb3, hri⟩; have HB3 := hid hb3; have HRI := hid hri; clear hb3 hri))
  go_wp2
  go_ret
  have hri : RI (U.heap.size + 1) K K w3 := by have := HRI.out; simpa using this
  have hb3 : Below (U.heap.size + 1) (U.alloc (.cells #[.int .i64 (-1)] 3)).drew w3 := by have := HB3.out; simpa using this
  have hU3 : Below U.heap.size U w3 := (Joins.below_alloc1 U _).trans (((Eqw.drew _).below _).trans (Joins.below_le hb3 (by omega)))
  have hs3 := hU3.size
  have h4 : Below U.heap.size U (w3.alloc (.cells (bcs (cst ad n c S K tad tn tc (U.heap.size + 1) a) var0) 67)) := hU3.trans (Joins.below_le (Joins.below_alloc1 w3 _) hs3)
  have hbw : Below B w (w3.alloc (.cells (bcs (cst ad n c S K tad tn tc (U.heap.size + 1) a) var0) 67)) := HBU.out.trans (Joins.below_le h4 (by omega))
  have hPB := HP.out
  have hTB := HT.out
  rw [← HBE.out] at hPB hTB
  refine ⟨w3.heap.size, U.heap.size + 1, rfl, ⟨heap_alloc_new w3 _, by omega, hPB.kept hbw (Nat.le_refl _), hTB.below hbw, ?_, World.ownsRow_nil _ _ _ _, World.ownsRow_nil _ _ _ _, Bits.nil _ _ _, rfl, rfl, OkP.nil _ _ _, by simp, okC.rep _ _, by simp⟩, hbw⟩
  exact (ri_row (N := B) hri (by omega) (by omega)).alloc _
end Go.Proofs.Ytodpmmlfdkdemaa
/- HELPERS: Run of layer 12. Its faults as in layer 11. -/
namespace Go.Proofs.Ytodpmmlfdkdemaa
open Go.RowKit Go.Lk
set_option linter.unusedVariables false
set_option linter.unusedSimpArgs false
set_option maxRecDepth 100000 in
set_option maxHeartbeats 8000000 in
theorem run9_long {w : World} {ad tad : Option Addr} {n c tn tc : Nat} {s k a : Int} {anch : Bool} {l : List In} (hP : PI w w.heap.size ad n l) (hl : 4194304 < tn) :
    Calls Try.prog 9 #[pv ad n c s k, .slice tad tn tc, .int .i64 a, .bool anch] w (FE 2 w) := by
  obtain ⟨U, hU⟩ : ∃ U, U = (w.alloc (.cells #[.slice ad n c, .int .i64 s, .int .i64 k] 24)).alloc (.cells #[.bool false, .slice none 0 0, .int .i64 0, .int .i64 0] 30) := ⟨_, rfl⟩
  have hb : Below w.heap.size w U := by rw [hU]; exact below_two' w _ _
  have hX : U.heap[w.heap.size]? = some (.cells #[.slice ad n c, .int .i64 s, .int .i64 k] 24 (0, 0)) := by rw [hU]; exact (heap_alloc_old _ _ (by simp)).trans (heap_alloc_new w _)
  have hY : U.heap[w.heap.size + 1]? = some (.cells #[.bool false, .slice none 0 0, .int .i64 0, .int .i64 0] 30 (0, 0)) := by rw [hU]; exact two_new w _ _ _
  obtain ⟨x, hx⟩ : ∃ x, x = w.heap.size := ⟨_, rfl⟩
  obtain ⟨y, hy⟩ : ∃ y, y = w.heap.size + 1 := ⟨_, rfl⟩
  have hyU : w.heap.size + 1 < U.heap.size := (Array.getElem?_eq_some_iff.1 hY).1
  have hPU := hP.kept hb hb.size
  have HCK := check10 (c := c) (s := s) (k := k) hPU
  rw [← hx] at hX hb
  rw [← hy] at hY hyU
  obtain ⟨c0, c1, c2⟩ := three_cells hX
  have HB := hid hb
  have HX := hid hX
  have HY := hid hY
  have HXE := hid hx
  have hxy : x < y := by omega
  have b1 : decide ((4194304 : Int) < (tn : Int)) = true := by simp; omega
  have b1' : decide ((tn : Int) > (4194304 : Int)) = true := by simp; omega
  have s0 := Joins.unfrozen_of_block hY 0
  have s1 := Joins.unfrozen_of_block hY 1
  have s2 := Joins.unfrozen_of_block hY 2
  have s3 := Joins.unfrozen_of_block hY 3
  have y0 := Joins.cell_of_block hY 0
  have y1 := Joins.cell_of_block hY 1
  have y2 := Joins.cell_of_block hY 2
  have y3 := Joins.cell_of_block hY 3
  clear hP hPU hb hX hY
  go_enter Try.func9, Try.ntmps9
  go_upto_region 1 with fail
  rw [← hU, ← hy, ← hx]
  clear hU hx hy
  go_wp2
  refine bodyPost_ret (results_cell_tmp rfl _ _ y 30 _ (0, 0) _ rfl (Joins.block_setCell (i := 3) (Joins.block_setCell (i := 2) (Joins.block_setCell (i := 1) (Joins.block_setCell (i := 0) HY.out _) _) _) _) Try.underlying30 rfl (by kernel_rfl)) rfl ?_
  refine ⟨?_, rfl⟩
  rw [← HXE.out]
  exact (((HB.out.setCell (p := ⟨y, 0, none⟩) (by show x ≤ y; omega) _).setCell (p := ⟨y, 1, none⟩) (by show x ≤ y; omega) _).setCell (p := ⟨y, 2, none⟩) (by show x ≤ y; omega) _).setCell (p := ⟨y, 3, none⟩) (by show x ≤ y; omega) _
set_option maxRecDepth 100000 in
set_option maxHeartbeats 8000000 in
theorem run9_prog {w : World} {ad tad : Option Addr} {n c tn tc : Nat} {s k a : Int} {anch : Bool} {l : List In} (hP : PI w w.heap.size ad n l) (hl : tn ≤ 4194304) (hmay : mayB l s k = false) :
    Calls Try.prog 9 #[pv ad n c s k, .slice tad tn tc, .int .i64 a, .bool anch] w (FE 90 w) := by
  obtain ⟨U, hU⟩ : ∃ U, U = (w.alloc (.cells #[.slice ad n c, .int .i64 s, .int .i64 k] 24)).alloc (.cells #[.bool false, .slice none 0 0, .int .i64 0, .int .i64 0] 30) := ⟨_, rfl⟩
  have hb : Below w.heap.size w U := by rw [hU]; exact below_two' w _ _
  have hX : U.heap[w.heap.size]? = some (.cells #[.slice ad n c, .int .i64 s, .int .i64 k] 24 (0, 0)) := by rw [hU]; exact (heap_alloc_old _ _ (by simp)).trans (heap_alloc_new w _)
  have hY : U.heap[w.heap.size + 1]? = some (.cells #[.bool false, .slice none 0 0, .int .i64 0, .int .i64 0] 30 (0, 0)) := by rw [hU]; exact two_new w _ _ _
  obtain ⟨x, hx⟩ : ∃ x, x = w.heap.size := ⟨_, rfl⟩
  obtain ⟨y, hy⟩ : ∃ y, y = w.heap.size + 1 := ⟨_, rfl⟩
  have hyU : w.heap.size + 1 < U.heap.size := (Array.getElem?_eq_some_iff.1 hY).1
  have hPU := hP.kept hb hb.size
  have HCK := check10 (c := c) (s := s) (k := k) hPU
  rw [← hx] at hX hb
  rw [← hy] at hY hyU
  obtain ⟨c0, c1, c2⟩ := three_cells hX
  have HB := hid hb
  have HX := hid hX
  have HY := hid hY
  have HXE := hid hx
  have hxy : x < y := by omega
  have b1 : decide ((4194304 : Int) < (tn : Int)) = false := by simp; omega
  have b1' : decide ((tn : Int) > (4194304 : Int)) = false := by simp; omega
  rw [hmay] at HCK
  clear hmay
  clear hP hPU hb hX hY
  go_enter Try.func9, Try.ntmps9
  go_upto_region 1 with fail
  rw [← hU, ← hy, ← hx]
  clear hU hx hy
  go_upto_region 5 with (go_at_call 19; (with_reducible refine HCK.mono ?_); rintro e w2 ⟨rfl, hb2⟩; have HB2 := hid hb2; have hY2 := (hb2.block y hyU).trans HY.out; have HY2 := hid hY2; clear hb2 HCK c0 c1 c2 hY2)
  have s0 := Joins.unfrozen_of_block HY2.out 0
  have s1 := Joins.unfrozen_of_block HY2.out 1
  have s2 := Joins.unfrozen_of_block HY2.out 2
  have s3 := Joins.unfrozen_of_block HY2.out 3
  have y0 := Joins.cell_of_block HY2.out 0
  have y1 := Joins.cell_of_block HY2.out 1
  have y2 := Joins.cell_of_block HY2.out 2
  have y3 := Joins.cell_of_block HY2.out 3
  have HBW : Hid (Below x w w2) := HB.out.trans (Joins.below_le HB2.out (by omega))
  go_wp2
  refine bodyPost_ret (results_cell_tmp rfl _ _ y 30 _ (0, 0) _ rfl (Joins.block_setCell (i := 3) (Joins.block_setCell (i := 2) (Joins.block_setCell (i := 1) (Joins.block_setCell (i := 0) HY2.out _) _) _) _) Try.underlying30 rfl (by kernel_rfl)) rfl ?_
  refine ⟨?_, rfl⟩
  rw [← HXE.out]
  exact (((HBW.out.setCell (p := ⟨y, 0, none⟩) (by show x ≤ y; omega) _).setCell (p := ⟨y, 1, none⟩) (by show x ≤ y; omega) _).setCell (p := ⟨y, 2, none⟩) (by show x ≤ y; omega) _).setCell (p := ⟨y, 3, none⟩) (by show x ≤ y; omega) _
set_option maxRecDepth 100000 in
set_option maxHeartbeats 8000000 in
theorem run9_neg {w : World} {ad tad : Option Addr} {n c tn tc : Nat} {s k a : Int} {anch : Bool} {l : List In} (hP : PI w w.heap.size ad n l) (hl : tn ≤ 4194304) (hmay : mayB l s k = true) (ha : a < 0) :
    Calls Try.prog 9 #[pv ad n c s k, .slice tad tn tc, .int .i64 a, .bool anch] w (FE 1 w) := by
  obtain ⟨U, hU⟩ : ∃ U, U = (w.alloc (.cells #[.slice ad n c, .int .i64 s, .int .i64 k] 24)).alloc (.cells #[.bool false, .slice none 0 0, .int .i64 0, .int .i64 0] 30) := ⟨_, rfl⟩
  have hb : Below w.heap.size w U := by rw [hU]; exact below_two' w _ _
  have hX : U.heap[w.heap.size]? = some (.cells #[.slice ad n c, .int .i64 s, .int .i64 k] 24 (0, 0)) := by rw [hU]; exact (heap_alloc_old _ _ (by simp)).trans (heap_alloc_new w _)
  have hY : U.heap[w.heap.size + 1]? = some (.cells #[.bool false, .slice none 0 0, .int .i64 0, .int .i64 0] 30 (0, 0)) := by rw [hU]; exact two_new w _ _ _
  obtain ⟨x, hx⟩ : ∃ x, x = w.heap.size := ⟨_, rfl⟩
  obtain ⟨y, hy⟩ : ∃ y, y = w.heap.size + 1 := ⟨_, rfl⟩
  have hyU : w.heap.size + 1 < U.heap.size := (Array.getElem?_eq_some_iff.1 hY).1
  have hPU := hP.kept hb hb.size
  have HCK := check10 (c := c) (s := s) (k := k) hPU
  rw [← hx] at hX hb
  rw [← hy] at hY hyU
  obtain ⟨c0, c1, c2⟩ := three_cells hX
  have HB := hid hb
  have HX := hid hX
  have HY := hid hY
  have HXE := hid hx
  have hxy : x < y := by omega
  have b1 : decide ((4194304 : Int) < (tn : Int)) = false := by simp; omega
  have b1' : decide ((tn : Int) > (4194304 : Int)) = false := by simp; omega
  rw [hmay] at HCK
  clear hmay
  have b2 : decide (a < 0) = true := by simp [ha]
  clear hP hPU hb hX hY
  go_enter Try.func9, Try.ntmps9
  go_upto_region 1 with fail
  rw [← hU, ← hy, ← hx]
  clear hU hx hy
  go_upto_region 7 with (go_at_call 19; (with_reducible refine HCK.mono ?_); rintro e w2 ⟨rfl, hb2⟩; have HB2 := hid hb2; have hY2 := (hb2.block y hyU).trans HY.out; have HY2 := hid hY2; clear hb2 HCK c0 c1 c2 hY2)
  have s0 := Joins.unfrozen_of_block HY2.out 0
  have s1 := Joins.unfrozen_of_block HY2.out 1
  have s2 := Joins.unfrozen_of_block HY2.out 2
  have s3 := Joins.unfrozen_of_block HY2.out 3
  have y0 := Joins.cell_of_block HY2.out 0
  have y1 := Joins.cell_of_block HY2.out 1
  have y2 := Joins.cell_of_block HY2.out 2
  have y3 := Joins.cell_of_block HY2.out 3
  have HBW : Hid (Below x w w2) := HB.out.trans (Joins.below_le HB2.out (by omega))
  go_wp2
  refine bodyPost_ret (results_cell_tmp rfl _ _ y 30 _ (0, 0) _ rfl (Joins.block_setCell (i := 3) (Joins.block_setCell (i := 2) (Joins.block_setCell (i := 1) (Joins.block_setCell (i := 0) HY2.out _) _) _) _) Try.underlying30 rfl (by kernel_rfl)) rfl ?_
  refine ⟨?_, rfl⟩
  rw [← HXE.out]
  exact (((HBW.out.setCell (p := ⟨y, 0, none⟩) (by show x ≤ y; omega) _).setCell (p := ⟨y, 1, none⟩) (by show x ≤ y; omega) _).setCell (p := ⟨y, 2, none⟩) (by show x ≤ y; omega) _).setCell (p := ⟨y, 3, none⟩) (by show x ≤ y; omega) _
set_option maxRecDepth 100000 in
set_option maxHeartbeats 8000000 in
theorem run9_far {w : World} {ad tad : Option Addr} {n c tn tc : Nat} {s k a : Int} {anch : Bool} {l : List In} (hP : PI w w.heap.size ad n l) (hl : tn ≤ 4194304) (hmay : mayB l s k = true) (ha0 : ¬ a < 0) (ha : (tn : Int) < a) :
    Calls Try.prog 9 #[pv ad n c s k, .slice tad tn tc, .int .i64 a, .bool anch] w (FE 1 w) := by
  obtain ⟨U, hU⟩ : ∃ U, U = (w.alloc (.cells #[.slice ad n c, .int .i64 s, .int .i64 k] 24)).alloc (.cells #[.bool false, .slice none 0 0, .int .i64 0, .int .i64 0] 30) := ⟨_, rfl⟩
  have hb : Below w.heap.size w U := by rw [hU]; exact below_two' w _ _
  have hX : U.heap[w.heap.size]? = some (.cells #[.slice ad n c, .int .i64 s, .int .i64 k] 24 (0, 0)) := by rw [hU]; exact (heap_alloc_old _ _ (by simp)).trans (heap_alloc_new w _)
  have hY : U.heap[w.heap.size + 1]? = some (.cells #[.bool false, .slice none 0 0, .int .i64 0, .int .i64 0] 30 (0, 0)) := by rw [hU]; exact two_new w _ _ _
  obtain ⟨x, hx⟩ : ∃ x, x = w.heap.size := ⟨_, rfl⟩
  obtain ⟨y, hy⟩ : ∃ y, y = w.heap.size + 1 := ⟨_, rfl⟩
  have hyU : w.heap.size + 1 < U.heap.size := (Array.getElem?_eq_some_iff.1 hY).1
  have hPU := hP.kept hb hb.size
  have HCK := check10 (c := c) (s := s) (k := k) hPU
  rw [← hx] at hX hb
  rw [← hy] at hY hyU
  obtain ⟨c0, c1, c2⟩ := three_cells hX
  have HB := hid hb
  have HX := hid hX
  have HY := hid hY
  have HXE := hid hx
  have hxy : x < y := by omega
  have b1 : decide ((4194304 : Int) < (tn : Int)) = false := by simp; omega
  have b1' : decide ((tn : Int) > (4194304 : Int)) = false := by simp; omega
  rw [hmay] at HCK
  clear hmay
  have b2 : decide (a < 0) = false := by simp [ha0]
  have b3 : decide (a > (tn : Int)) = true := by simp; omega
  have b3' : decide ((tn : Int) < a) = true := by simp; omega
  clear hP hPU hb hX hY
  go_enter Try.func9, Try.ntmps9
  go_upto_region 1 with fail
  rw [← hU, ← hy, ← hx]
  clear hU hx hy
  go_upto_region 7 with (go_at_call 19; (with_reducible refine HCK.mono ?_); rintro e w2 ⟨rfl, hb2⟩; have HB2 := hid hb2; have hY2 := (hb2.block y hyU).trans HY.out; have HY2 := hid hY2; clear hb2 HCK c0 c1 c2 hY2)
  have s0 := Joins.unfrozen_of_block HY2.out 0
  have s1 := Joins.unfrozen_of_block HY2.out 1
  have s2 := Joins.unfrozen_of_block HY2.out 2
  have s3 := Joins.unfrozen_of_block HY2.out 3
  have y0 := Joins.cell_of_block HY2.out 0
  have y1 := Joins.cell_of_block HY2.out 1
  have y2 := Joins.cell_of_block HY2.out 2
  have y3 := Joins.cell_of_block HY2.out 3
  have HBW : Hid (Below x w w2) := HB.out.trans (Joins.below_le HB2.out (by omega))
  go_wp2
  refine bodyPost_ret (results_cell_tmp rfl _ _ y 30 _ (0, 0) _ rfl (Joins.block_setCell (i := 3) (Joins.block_setCell (i := 2) (Joins.block_setCell (i := 1) (Joins.block_setCell (i := 0) HY2.out _) _) _) _) Try.underlying30 rfl (by kernel_rfl)) rfl ?_
  refine ⟨?_, rfl⟩
  rw [← HXE.out]
  exact (((HBW.out.setCell (p := ⟨y, 0, none⟩) (by show x ≤ y; omega) _).setCell (p := ⟨y, 1, none⟩) (by show x ≤ y; omega) _).setCell (p := ⟨y, 2, none⟩) (by show x ≤ y; omega) _).setCell (p := ⟨y, 3, none⟩) (by show x ≤ y; omega) _
set_option maxRecDepth 100000 in
set_option maxHeartbeats 8000000 in
theorem run9_big {w : World} {ad tad : Option Addr} {n c tn tc a : Nat} {s k : Int} {anch : Bool} {l : List In} (hP : PI w w.heap.size ad n l) (hl : tn ≤ 4194304) (hmay : mayB l s k = true) (ha : a ≤ tn) (hbig : 16777216 < n * (tn - a + 1)) :
    Calls Try.prog 9 #[pv ad n c s k, .slice tad tn tc,   .int .i64 (a : Int), .bool anch] w (FE 3 w) := by
  obtain ⟨U, hU⟩ : ∃ U, U = (w.alloc (.cells #[.slice ad n c, .int .i64 s, .int .i64 k] 24)).alloc (.cells #[.bool false, .slice none 0 0, .int .i64 0, .int .i64 0] 30) := ⟨_, rfl⟩
  have hb : Below w.heap.size w U := by rw [hU]; exact below_two' w _ _
  have hX : U.heap[w.heap.size]? = some (.cells #[.slice ad n c, .int .i64 s, .int .i64 k] 24 (0, 0)) := by rw [hU]; exact (heap_alloc_old _ _ (by simp)).trans (heap_alloc_new w _)
  have hY : U.heap[w.heap.size + 1]? = some (.cells #[.bool false, .slice none 0 0, .int .i64 0, .int .i64 0] 30 (0, 0)) := by rw [hU]; exact two_new w _ _ _
  obtain ⟨x, hx⟩ : ∃ x, x = w.heap.size := ⟨_, rfl⟩
  obtain ⟨y, hy⟩ : ∃ y, y = w.heap.size + 1 := ⟨_, rfl⟩
  have hyU : w.heap.size + 1 < U.heap.size := (Array.getElem?_eq_some_iff.1 hY).1
  have hPU := hP.kept hb hb.size
  have HCK := check10 (c := c) (s := s) (k := k) hPU
  rw [← hx] at hX hb
  rw [← hy] at hY hyU
  obtain ⟨c0, c1, c2⟩ := three_cells hX
  have HB := hid hb
  have HX := hid hX
  have HY := hid hY
  have HXE := hid hx
  have hxy : x < y := by omega
  have b1 : decide ((4194304 : Int) < (tn : Int)) = false := by simp; omega
  have b1' : decide ((tn : Int) > (4194304 : Int)) = false := by simp; omega
  rw [hmay] at HCK
  have hmo := may_ok hmay
  have hln := hP.len
  have hnp : 0 < n := by omega
  have hn2 : n ≤ 20000 := by omega
  clear hmay hmo hln
  have b2 : decide ((a : Int) < 0) = false := by simp
  have b3 : decide ((a : Int) > (tn : Int)) = false := by simp; omega
  have b3' : decide ((tn : Int) < (a : Int)) = false := by simp; omega
  obtain ⟨q, hq⟩ : ∃ q, q = tn - a + 1 := ⟨_, rfl⟩
  have a1 : IntKind.i64.wrap ((tn : Int) - (a : Int)) = ((tn - a : Nat) : Int) := by rw [wrap_ok _ (by omega) (by omega)]; omega
  have a2 : IntKind.i64.wrap (((tn - a : Nat) : Int) + 1) = (q : Int) := by rw [wrap_ok _ (by omega) (by omega)]; omega
  obtain ⟨d, hd⟩ : ∃ d, d = tn - a := ⟨_, rfl⟩
  rw [← hd] at a1 a2
  have HTB : Hid (∀ W, Calls Try.prog 20 #[.int .i64 (n : Int), .int .i64 (q : Int)] W fun e w' => e = .returned (.bool true) ∧ w' = W) := fun W => by
    have h1 := tooBig20 n q W hnp hn2 (by omega)
    rw [show decide (16777216 < n * q) = true by simp; rw [hq]; exact hbig] at h1
    exact h1
  clear hd hq
  clear hP hPU hb hX hY
  go_enter Try.func9, Try.ntmps9
  go_upto_region 1 with fail
  rw [← hU, ← hy, ← hx]
  clear hU hx hy
  go_upto_region 9 with (first | (go_at_call 19; (with_reducible refine HCK.mono ?_); rintro e w2 ⟨rfl, hb2⟩; have HB2 := hid hb2; have hY2 := (hb2.block y hyU).trans HY.out; have HY2 := hid hY2; have hx2 := (hb2.block x (by omega)).trans HX.out; obtain ⟨e0, e1, e2⟩ := three_cells hx2; clear hb2 HCK c0 c1 c2 hY2 hx2) | (go_at_call 20; (with_reducible refine (HTB.out _).mono ?_); rintro e wz ⟨rfl, hwz⟩; have hwz' := hwz.symm; subst hwz'; clear HTB e0 e1 e2 hwz))
  have s0 := Joins.unfrozen_of_block HY2.out 0
  have s1 := Joins.unfrozen_of_block HY2.out 1
  have s2 := Joins.unfrozen_of_block HY2.out 2
  have s3 := Joins.unfrozen_of_block HY2.out 3
  have y0 := Joins.cell_of_block HY2.out 0
  have y1 := Joins.cell_of_block HY2.out 1
  have y2 := Joins.cell_of_block HY2.out 2
  have y3 := Joins.cell_of_block HY2.out 3
  have HBW : Hid (Below x w w2) := HB.out.trans (Joins.below_le HB2.out (by omega))
  go_wp2
  refine bodyPost_ret (results_cell_tmp rfl _ _ y 30 _ (0, 0) _ rfl (Joins.block_setCell (i := 3) (Joins.block_setCell (i := 2) (Joins.block_setCell (i := 1) (Joins.block_setCell (i := 0) HY2.out _) _) _) _) Try.underlying30 rfl (by kernel_rfl)) rfl ?_
  refine ⟨?_, rfl⟩
  rw [← HXE.out]
  exact (((HBW.out.setCell (p := ⟨y, 0, none⟩) (by show x ≤ y; omega) _).setCell (p := ⟨y, 1, none⟩) (by show x ≤ y; omega) _).setCell (p := ⟨y, 2, none⟩) (by show x ≤ y; omega) _).setCell (p := ⟨y, 3, none⟩) (by show x ≤ y; omega) _
set_option maxRecDepth 100000 in
set_option maxHeartbeats 8000000 in
theorem run9_ok {w : World} {ad tad : Option Addr} {n c S K tn tc a : Nat} {anch : Bool} {l : List In} {tx : List Int} (hP : PI w w.heap.size ad n l) (hmay : mayB l (S : Int) (K : Int) = true) (hT : TextAt w.heap.size w tad tn tx) (hl : tn ≤ 4194304) (ha : a ≤ tn) (hbig : n * (tn - a + 1) ≤ 16777216) {r : Fd} {m' : List Pt} (hda : Da (act l tx) [] (bgs (prOf l tx S K) a anch none (tn + 1 - a) a) m' r) :
    Calls Try.prog 9 #[pv ad n c (S : Int) (K : Int), .slice tad tn tc, .int .i64 (a : Int), .bool anch] w (FR K (r, m'.length) w) := by
  obtain ⟨U, hU⟩ : ∃ U, U = (w.alloc (.cells #[.slice ad n c, .int .i64 (S : Int), .int .i64 (K : Int)] 24)).alloc (.cells #[.bool false, .slice none 0 0, .int .i64 0, .int .i64 0] 30) := ⟨_, rfl⟩
  have hb : Below w.heap.size w U := by rw [hU]; exact below_two' w _ _
  have hX : U.heap[w.heap.size]? = some (.cells #[.slice ad n c, .int .i64 (S : Int), .int .i64 (K : Int)] 24 (0, 0)) := by rw [hU]; exact (heap_alloc_old _ _ (by simp)).trans (heap_alloc_new w _)
  have hY : U.heap[w.heap.size + 1]? = some (.cells #[.bool false, .slice none 0 0, .int .i64 0, .int .i64 0] 30 (0, 0)) := by rw [hU]; exact two_new w _ _ _
  obtain ⟨x, hx⟩ : ∃ x, x = w.heap.size := ⟨_, rfl⟩
  obtain ⟨y, hy⟩ : ∃ y, y = w.heap.size + 1 := ⟨_, rfl⟩
  have hyU : w.heap.size + 1 < U.heap.size := (Array.getElem?_eq_some_iff.1 hY).1
  have hPU := hP.kept hb hb.size
  have hTU : TextAt U.heap.size U tad tn tx := (hT.below hb).mono hb.size
  have HCK := check10 (c := c) (s := (S : Int)) (k := (K : Int)) hPU
  rw [hmay] at HCK
  have htl : tn = tx.length := hT.1
  rw [← hx] at hX hb
  rw [← hy] at hY hyU
  obtain ⟨c0, c1, c2⟩ := three_cells hX
  have HB := hid hb
  have HX := hid hX
  have HY := hid hY
  have HXE := hid hx
  have hxy : x < y := by omega
  have HNM : Hid (∀ W, Below U.heap.size U W → Calls Try.prog 21 #[pv ad n c (S : Int) (K : Int), .slice tad tn tc, .int .i64 (a : Int)] W fun e w' => ∃ b ub, e = .returned (.pointer (some ⟨b, 0, none⟩)) ∧ BI w' W.heap.size b l tx (cst ad n c S K tad tn tc ub a) var0 [] [] (List.replicate K (-1)) [] ∧ Below W.heap.size W w') := fun W h => newMachine21 (hPU.kept h h.size) hmay ((hTU.below h).mono h.size)
  have hmo := may_ok hmay
  have hln := hP.len
  have HC : Hid (∀ ub, BC l tx (cst ad n c S K tad tn tc ub a)) := fun ub => ⟨hln, hmay, htl, hl, ha, hbig⟩
  have HDA := hid hda
  obtain ⟨q, hq⟩ : ∃ q, q = tn - a + 1 := ⟨_, rfl⟩
  obtain ⟨d, hd⟩ : ∃ d, d = tn - a := ⟨_, rfl⟩
  have a1 : IntKind.i64.wrap ((tn : Int) - (a : Int)) = (d : Int) := by rw [wrap_ok _ (by omega) (by omega)]; omega
  have a2 : IntKind.i64.wrap ((d : Int) + 1) = (q : Int) := by rw [wrap_ok _ (by omega) (by omega)]; omega
  have HTB : Hid (∀ W, Calls Try.prog 20 #[.int .i64 (n : Int), .int .i64 (q : Int)] W fun e w' => e = .returned (.bool false) ∧ w' = W) := fun W => by
    have h1 := tooBig20 n q W (by omega) (by omega) (by omega)
    rw [show decide (16777216 < n * q) = false by simp; rw [hq]; exact hbig] at h1
    exact h1
  clear hq hd hmo hln hda
  have HMAY := hid hmay
  have HTL := hid htl
  have b1 : decide ((4194304 : Int) < (tn : Int)) = false := by simp; omega
  have b1' : decide ((tn : Int) > (4194304 : Int)) = false := by simp; omega
  have b2 : decide ((a : Int) < 0) = false := by simp
  have b3 : decide ((a : Int) > (tn : Int)) = false := by simp; omega
  have b3' : decide ((tn : Int) < (a : Int)) = false := by simp; omega
  clear hP hT hPU hTU hb hX hY hmay htl
  go_enter Try.func9, Try.ntmps9
  go_upto_region 1 with fail
  rw [← hU, ← hy, ← hx]
  clear hU hx hy
  go_upto_region 12 with (first | (go_at_call 19; (with_reducible refine HCK.mono ?_); rintro e w2 ⟨rfl, hb2⟩; have HB2 := hid hb2; have hx2 := (hb2.block x (by omega)).trans HX.out; obtain ⟨e0, e1, e2⟩ := three_cells hx2; have HNM2 := HNM.out w2 hb2; clear hb2 hx2 HCK c0 c1 c2) | (go_at_call 20; (with_reducible refine (HTB.out _).mono ?_); rintro e wz ⟨rfl, hwz⟩; have hwz' := hwz.symm; subst hwz'; clear HTB hwz) | (go_at_call 21; (with_reducible refine HNM2.mono ?_); rintro e w3 ⟨b, ub, rfl, hg, hb3⟩; have HG := hid hg; have HB3 := hid hb3; have HRUN := run22 (anch := anch) hg (HC.out ub) rfl ⟨rfl, rfl, rfl, rfl, rfl⟩ HDA.out; dsimp only [cst] at HRUN; clear hg hb3 HNM2) | (go_at_call 22; (with_reducible refine HRUN.mono ?_); rintro e w4 ⟨rfl, V', st, cp', W', hm4, hfs4, hf4, hb4⟩; have HM4 := hid hm4; have HF4 := hid hf4; have HFS4 := hid hfs4; have HB4 := hid hb4; clear hm4 hf4 hfs4 hb4 HRUN))
  have hY2 := (HB2.out.block y hyU).trans HY.out
  have hU2 : U.heap.size ≤ w2.heap.size := HB2.out.size
  have hY3 := (HB3.out.block y (by omega)).trans hY2
  have hY4 := (HB4.out.block y (by omega)).trans hY3
  have s0 := Joins.unfrozen_of_block hY4 0
  have s1 := Joins.unfrozen_of_block hY4 1
  have s2 := Joins.unfrozen_of_block hY4 2
  have s3 := Joins.unfrozen_of_block hY4 3
  have y0 := Joins.cell_of_block hY4 0
  have y1 := Joins.cell_of_block hY4 1
  have y2 := Joins.cell_of_block hY4 2
  have y3 := Joins.cell_of_block hY4 3
  have k13 := HM4.out.mb.c 10
  have k14 := HM4.out.mb.c 11
  have k15 := HM4.out.mb.c 12
  have k16 := HM4.out.mb.c 13
  simp at k13 k14 k15 k16
  rw [HFS4.out] at k16
  have HY4 := hid hY4
  clear hY2 hY3 hY4 e0 e1 e2
  have hbw : Below x w w4 := HB.out.trans (Joins.below_le (HB2.out.trans (Joins.below_le (HB3.out.trans HB4.out) hU2)) (by omega))
  have HBW := hid hbw
  clear hbw
  cases hr1 : r with
  | none =>
    have hf := HF4.out
    rw [hr1] at hf
    obtain ⟨-, -, g1, g2, g3, g4, g5⟩ := hf
    rw [g1] at k13
    rw [g2, g3, g4] at k14
    rw [g5] at k15
    clear g1 g2 g3 g4 g5
    have HR1 := hid hr1
    clear hr1
    go_wp2
    refine bodyPost_ret (results_cell_tmp rfl _ _ y 30 _ (0, 0) _ rfl (Joins.block_setCell (i := 3) (Joins.block_setCell (i := 2) (Joins.block_setCell (i := 1) (Joins.block_setCell (i := 0) HY4.out _) _) _) _) Try.underlying30 rfl (by kernel_rfl)) rfl ?_
    refine ⟨?_, ?_⟩
    · rw [← HXE.out]
      exact (((HBW.out.setCell (p := ⟨y, 0, none⟩) (by show x ≤ y; omega) _).setCell (p := ⟨y, 1, none⟩) (by show x ≤ y; omega) _).setCell (p := ⟨y, 2, none⟩) (by show x ≤ y; omega) _).setCell (p := ⟨y, 3, none⟩) (by show x ≤ y; omega) _
    · rw [HR1.out]; rfl
  | some v =>
    have hf := HF4.out
    rw [hr1] at hf
    obtain ⟨g1, g2, g3, g4, g5, g6⟩ := hf
    have g7 := HM4.out.cap
    dsimp only [cst] at g2 g3 g4 g7
    obtain ⟨g, hg⟩ : ∃ g, g = ub := ⟨_, rfl⟩
    rw [← hg] at g2 g7
    rw [g6] at g7
    rw [g1] at k13
    rw [g2, g3, g4] at k14
    rw [g5] at k15
    have HROW := hid g7
    clear g1 g2 g3 g4 g5 g6 g7 hg
    have HR1 := hid hr1
    clear hr1
    go_wp2
    refine bodyPost_ret (results_cell_tmp rfl _ _ y 30 _ (0, 0) _ rfl (Joins.block_setCell (i := 3) (Joins.block_setCell (i := 2) (Joins.block_setCell (i := 1) (Joins.block_setCell (i := 0) HY4.out _) _) _) _) Try.underlying30 rfl (by kernel_rfl)) rfl ?_
    refine ⟨?_, ?_⟩
    · rw [← HXE.out]
      exact (((HBW.out.setCell (p := ⟨y, 0, none⟩) (by show x ≤ y; omega) _).setCell (p := ⟨y, 1, none⟩) (by show x ≤ y; omega) _).setCell (p := ⟨y, 2, none⟩) (by show x ≤ y; omega) _).setCell (p := ⟨y, 3, none⟩) (by show x ≤ y; omega) _
    · rw [HR1.out]
      have hgy : (Value.slice (some ⟨g, 0, none⟩) K K).ownBlock ≠ some y := own_ne HROW.out HY4.out (by decide)
      refine ⟨g, rfl, ?_⟩
      have t := own_setCell (a := ⟨y, 3, none⟩) (u := .int .i64 (m'.length : Int)) (own_setCell (a := ⟨y, 2, none⟩) (u := .int .i64 v.1) (own_setCell (a := ⟨y, 1, none⟩) (u := .slice (some ⟨g, 0, none⟩) K K) (own_setCell (a := ⟨y, 0, none⟩) (u := .bool true) HROW.out hgy) hgy) hgy) hgy
      exact t.mono (by have := HXE.out; have := HB2.out.size; omega)
end Go.Proofs.Ytodpmmlfdkdemaa
/- HELPERS: Run of layer 12 of any program, text and place. -/
namespace Go.Proofs.Ytodpmmlfdkdemaa
open Go.RowKit Go.Lk
set_option linter.unusedVariables false
set_option linter.unusedSimpArgs false
/-- which error it is -/
def errB (l : List In) (s k : Int) (n : Nat) (a : Int) : Int := if errR l s k n a ≠ 0 then errR l s k n a else if 16777216 < l.length * (n - a.toNat + 1) then 3 else 0
/-- what the search of a program from a place on comes to -/
def BitA (l : List In) (tx : List Int) (s k a : Int) (anch : Bool) (r : Fd) (m' : List Pt) : Prop := Da (act l tx) [] (bgs (prOf l tx s.toNat k.toNat) a.toNat anch none (tx.length + 1 - a.toNat) a.toNat) m' r
theorem errR_ok {l : List In} {s k : Int} {n : Nat} {a : Int} (h : errR l s k n a = 0) : n ≤ 4194304 ∧ mayB l s k = true ∧ 0 ≤ a ∧ a ≤ n := by
  unfold errR at h
  split at h
  · cases h
  · split at h
    · cases h
    · split at h
      · cases h
      · rename_i h1 h2 h3
        exact ⟨by omega, by simpa using h2, by omega, by omega⟩
theorem bit_ex {l : List In} {tx : List Int} {s k a : Int} (anch : Bool) (h : errR l s k tx.length a = 0) : ∃ r m', BitA l tx s k a anch r m' ∧ (lockRun (prOf l tx s.toNat k.toNat) tx.length a.toNat anch).1 = r := by
  obtain ⟨h1, h2, h3, h4⟩ := errR_ok h
  have hmo := may_ok h2
  obtain ⟨S, rfl⟩ := Int.eq_ofNat_of_zero_le hmo.2.1
  obtain ⟨K, rfl⟩ := Int.eq_ofNat_of_zero_le (show 0 ≤ k by omega)
  have hP := pr_ok (tx := tx) h2
  have hl : ∀ i x, (prOf l tx S K).A tx.length i ≠ .rune x := fun i x => act_end l tx i x
  obtain ⟨m', r, hd⟩ := da_total (a := a.toNat) hP hl (bgs (prOf l tx S K) a.toNat anch none (tx.length + 1 - a.toNat) a.toNat) [] (fun t ht => by
    obtain ⟨g1, g2, g3, g4⟩ := bgs_from _ _ _ _ _ _ t ht
    exact ⟨by rw [g1]; exact hP.S, g2, by omega, by rw [g4]; simp⟩) (OkP.nil _ _ _)
  refine ⟨r, m', hd, ?_⟩
  refine lock_da hP hl (by omega) (m' := m') ?_
  rw [show tx.length - a.toNat + 1 = tx.length + 1 - a.toNat by omega]
  exact hd
/-- what Run answers -/
def RunC (l : List In) (tx : List Int) (s k a : Int) (r : Fd) (m' : List Pt) (w : World) (e : Ending) (w' : World) : Prop :=
  (errB l s k tx.length a = 0 ∧ FR k.toNat (r, m'.length) w e w') ∨ (errB l s k tx.length a ≠ 0 ∧ FE (errB l s k tx.length a) w e w')
theorem run9 {w : World} {ad tad : Option Addr} {n c tn tc : Nat} {s k a : Int} {anch : Bool} {l : List In} {tx : List Int} {r : Fd} {m' : List Pt} (hP : PI w w.heap.size ad n l) (hT : TextAt w.heap.size w tad tn tx) (hda : errR l s k tx.length a = 0 → BitA l tx s k a anch r m') :
    Calls Try.prog 9 #[pv ad n c s k, .slice tad tn tc, .int .i64 a, .bool anch] w (RunC l tx s k a r m' w) := by
  have htl : tn = tx.length := hT.1
  have hln := hP.len
  have hE : ∀ c : Int, errR l s k tx.length a = c → c ≠ 0 → errB l s k tx.length a = c := fun c h h0 => by unfold errB; rw [if_pos (by rw [h]; exact h0)]; exact h
  by_cases h1 : 4194304 < tn
  · have e := hE 2 (by unfold errR; rw [if_pos (by omega)]) (by decide)
    refine (run9_long hP h1).mono fun e' w' h => ?_
    exact .inr (by rw [e]; exact ⟨by decide, h⟩)
  · cases hm : mayB l s k
    · have e := hE 90 (by unfold errR; rw [if_neg (by omega), if_pos hm]) (by decide)
      refine (run9_prog hP (by omega) hm).mono fun e' w' h => ?_
      exact .inr (by rw [e]; exact ⟨by decide, h⟩)
    · by_cases h2 : a < 0
      · have e := hE 1 (by unfold errR; rw [if_neg (by omega), if_neg (by rw [hm]; decide), if_pos (.inl h2)]) (by decide)
        refine (run9_neg hP (by omega) hm h2).mono fun e' w' h => ?_
        exact .inr (by rw [e]; exact ⟨by decide, h⟩)
      · by_cases h3 : (tn : Int) < a
        · have e := hE 1 (by unfold errR; rw [if_neg (by omega), if_neg (by rw [hm]; decide), if_pos (.inr (by omega))]) (by decide)
          refine (run9_far hP (by omega) hm h2 h3).mono fun e' w' h => ?_
          exact .inr (by rw [e]; exact ⟨by decide, h⟩)
        · have e0 : errR l s k tx.length a = 0 := by unfold errR; rw [if_neg (by omega), if_neg (by rw [hm]; decide), if_neg (by omega)]
          have hmo := may_ok hm
          have hd := hda e0
          obtain ⟨S, rfl⟩ := Int.eq_ofNat_of_zero_le hmo.2.1
          obtain ⟨K, rfl⟩ := Int.eq_ofNat_of_zero_le (show 0 ≤ k by omega)
          obtain ⟨A, rfl⟩ := Int.eq_ofNat_of_zero_le (show 0 ≤ a by omega)
          by_cases h4 : 16777216 < l.length * (tx.length - A + 1)
          · have e : errB l (S : Int) (K : Int) tx.length (A : Int) = 3 := by unfold errB; rw [if_neg (by simp [e0]), if_pos (by simpa using h4)]
            refine (run9_big hP (by omega) hm (by omega) (by rw [hln, htl]; exact h4)).mono fun e' w' h => ?_
            exact .inr (by rw [e]; exact ⟨by decide, h⟩)
          · have e : errB l (S : Int) (K : Int) tx.length (A : Int) = 0 := by unfold errB; rw [if_neg (by simp [e0]), if_neg (by simpa using h4)]
            refine (run9_ok hP hm hT (by omega) (by omega) (by rw [hln, htl]; omega) (r := r) (m' := m') (by rw [htl]; exact hd)).mono fun e' w' h => ?_
            exact .inl ⟨e, h⟩
end Go.Proofs.Ytodpmmlfdkdemaa
/- HELPERS: awake. -/
namespace Go.Proofs.Ytodpmmlfdkdemaa
open Go.RowKit Go.Lk
set_option linter.unusedVariables false
set_option linter.unusedSimpArgs false
abbrev L4 : List In := [⟨3, 1, 0, 0, []⟩, ⟨1, 2, 0, 0, [(97, 97)]⟩, ⟨3, 3, 0, 1, []⟩, ⟨5, 0, 0, 0, []⟩]
theorem may4 : mayB L4 0 2 = true := by kernel_rfl
abbrev F4 (q1 : Option Addr) (q3 : Nat) : List Value := [.int .i64 3, .int .i64 1, .int .i64 0, .int .i64 0, .slice none 0 0, .int .i64 1, .int .i64 2, .int .i64 0, .int .i64 0, .slice q1 1 q3, .int .i64 3, .int .i64 3, .int .i64 0, .int .i64 1, .slice none 0 0, .int .i64 5, .int .i64 0, .int .i64 0, .int .i64 0, .slice none 0 0]
abbrev N4 (q1 : Option Addr) (q3 : Nat) : List Iv := [⟨3, 1, 0, 0, none, 0, 0⟩, ⟨1, 2, 0, 0, q1, 1, q3⟩, ⟨3, 3, 0, 1, none, 0, 0⟩, ⟨5, 0, 0, 0, none, 0, 0⟩]
theorem pi4 {w : World} {base : Nat} {z1 q1 : Option Addr} {c q3 : Nat} (h : w.ownsRow base 53 5 (.slice z1 4 c) 4 (F4 q1 q3)) (hq : RowAt w.heap.size w (.slice q1 1 q3) [(97, 97)]) : PI w w.heap.size z1 4 L4 := by
  refine ⟨rfl, fun _ => ?_⟩
  rcases h.2 with ⟨_, h0⟩ | ⟨b, cap, cur, e, _⟩
  · omega
  · simp only [Value.slice.injEq] at e
    have hb := (h.lt b (by rw [e.1]; rfl)).2
    rw [e.1] at h
    have hF : F4 q1 q3 = (N4 q1 q3).flatMap Iv.cs := by simp [F4, N4]
    refine ⟨b, 0, fun i => (N4 q1 q3).getD i default, e.1, hb, fun i hi => ⟨?_, ?_⟩⟩
    · have hi4 : i < (N4 q1 q3).length := by simpa using hi
      have f : ∀ k, k < 5 → w.cell? ⟨b, i * 5 + k, none⟩ = (Iv.cs (N4 q1 q3)[i])[k]? := fun k hk => by
        rw [h.cellAt (i * 5 + k) (by simp at hi; omega), hF, flat5 (N4 q1 q3) i k hi4 hk]
      have f0 := f 0 (by omega)
      rw [Nat.add_zero] at f0
      show I5 w b 0 i ((N4 q1 q3).getD i default)
      rw [show (N4 q1 q3).getD i default = (N4 q1 q3)[i] by simp only [List.getD_eq_getElem?_getD, List.getElem?_eq_getElem hi4, Option.getD_some]]
      unfold I5
      rw [Nat.zero_add]
      exact ⟨f0, f 1 (by omega), f 2 (by omega), f 3 (by omega), f 4 (by omega)⟩
    · have nil : ∀ a b c d : Int, IM w w.heap.size ⟨a, b, c, d, none, 0, 0⟩ ⟨a, b, c, d, []⟩ := fun a b c d => ⟨rfl, rfl, rfl, rfl, rfl, by show 0 * 16 ≤ _; omega, ⟨none, 0, rfl, .inl rfl⟩⟩
      match i, hi with
      | 0, _ => exact nil _ _ _ _
      | 1, _ => exact ⟨rfl, rfl, rfl, rfl, rfl, by show 1 * 16 ≤ _; omega, hq⟩
      | 2, _ => exact nil _ _ _ _
      | 3, _ => exact nil _ _ _ _
abbrev A4 (g : Nat) : Array Value := #[.int .i64 3, .int .i64 1, .int .i64 0, .int .i64 0, .slice none 0 0, .int .i64 1, .int .i64 2, .int .i64 0, .int .i64 0, .slice (some ⟨g, 0, none⟩) 1 1, .int .i64 3, .int .i64 3, .int .i64 0, .int .i64 1, .slice none 0 0, .int .i64 5, .int .i64 0, .int .i64 0, .int .i64 0, .slice none 0 0]
set_option maxRecDepth 100000 in
set_option maxHeartbeats 8000000 in
theorem letter16 (w : World) : Calls Try.prog 16 #[] w fun e w' => ∃ g, e = .returned (pv (some ⟨g, 0, none⟩) 4 4 0 2) ∧ PI w' w'.heap.size (some ⟨g, 0, none⟩) 4 L4 ∧ Below w.heap.size w w' := by
  go_enter Try.func16, Try.ntmps16
  go_wp2
  obtain ⟨U, hU⟩ : ∃ U, U = (((w.alloc (.cells #[.slice (some ⟨w.heap.size + 1 + 1, 0, none⟩) 4 4, .int .i64 0, .int .i64 2] 24)).alloc (.cells #[.int .i64 97, .int .i64 97] 55)).alloc (.cells (A4 (w.heap.size + 1)) 53)) := ⟨_, rfl⟩
  rw [← hU]
  obtain ⟨h0, h1, h2, h3⟩ := three_new w (.cells #[.slice (some ⟨w.heap.size + 1 + 1, 0, none⟩) 4 4, .int .i64 0, .int .i64 2] 24) (.cells #[.int .i64 97, .int .i64 97] 55) (.cells (A4 (w.heap.size + 1)) 53)
  rw [← hU] at h0 h1 h2 h3
  refine bodyPost_ret (results_cell_row rfl _ _ w.heap.size 24 _ (0, 0) _ rfl h0 Try.underlying24 rfl (by kernel_rfl)) rfl ?_
  have hb : Below w.heap.size w U := ⟨by rw [hU]; rfl, by rw [hU]; rfl, by rw [hU]; rfl, by rw [hU]; simp; omega, h3⟩
  have hrow : U.ownsRow 0 53 5 (.slice (some ⟨w.heap.size + 1 + 1, 0, none⟩) 4 4) 4 (F4 (some ⟨w.heap.size + 1, 0, none⟩) 1) := by
    have h4 := World.ownsRow_lit (base := 0) (e := 53) (size := 5) ((w.alloc (.cells #[.slice (some ⟨w.heap.size + 1 + 1, 0, none⟩) 4 4, .int .i64 0, .int .i64 2] 24)).alloc (.cells #[.int .i64 97, .int .i64 97] 55)) (A4 (w.heap.size + 1)) 4 (Nat.zero_le _) (by unfold maxLen; omega) rfl
    rw [← hU] at h4
    rw [show ((w.alloc (.cells #[.slice (some ⟨w.heap.size + 1 + 1, 0, none⟩) 4 4, .int .i64 0, .int .i64 2] 24)).alloc (.cells #[.int .i64 97, .int .i64 97] 55)).heap.size = w.heap.size + 1 + 1 by simp] at h4
    exact h4
  have hlt : w.heap.size + 1 < U.heap.size := (Array.getElem?_eq_some_iff.1 h1).1
  have hr : RowAt U.heap.size U (.slice (some ⟨w.heap.size + 1, 0, none⟩) 1 1) [(97, 97)] :=
    ⟨some ⟨w.heap.size + 1, 0, none⟩, 1, rfl, .inr ⟨w.heap.size + 1, 0, rfl, hlt, fun k hk => by have : k = 0 := (by simpa using hk); subst this; exact Joins.cell_of_block h1 0, fun k hk => by have : k = 0 := (by simpa using hk); subst this; exact Joins.cell_of_block h1 1⟩⟩
  exact ⟨w.heap.size + 1 + 1, rfl, pi4 hrow hr, hb⟩
abbrev T4 : List Int := [97, 98, 97]
theorem df41 : Df (act L4 T4) [] 0 1 [-1, -1] [(0, 1), (1, 1)] none :=
  .cap _ _ _ _ 1 0 _ _ (by decide) (by kernel_rfl) (.stop _ _ _ _ (by decide) (by kernel_rfl))
theorem df42 : Df (act L4 T4) [(0, 1), (1, 1)] 0 2 [-1, -1] [(0, 1), (1, 1), (0, 2), (1, 2), (2, 3), (3, 3)] (some (0, [2, 3])) :=
  .cap _ _ _ _ 1 0 _ _ (by decide) (by kernel_rfl) (.rune _ _ _ _ 2 _ _ (by decide) (by kernel_rfl) (.cap _ _ _ _ 3 1 _ _ (by decide) (by kernel_rfl) (.fit _ _ _ _ 0 (by decide) (by kernel_rfl))))
theorem bit4f : BitA L4 T4 0 2 1 false (some (0, [2, 3])) [(0, 1), (1, 1), (0, 2), (1, 2), (2, 3), (3, 3)] := by
  show Da (act L4 T4) [] [(0, 1, [-1, -1]), (0, 2, [-1, -1]), (0, 3, [-1, -1])] _ _
  exact .miss _ _ _ _ _ _ _ _ df41 (.hit _ _ _ _ _ _ _ df42)
theorem bit4t : BitA L4 T4 0 2 1 true none [(0, 1), (1, 1)] := by
  show Da (act L4 T4) [] [(0, 1, [-1, -1])] _ _
  exact .miss _ _ _ _ _ _ _ _ df41 (.nil _)
theorem err4 : errB L4 0 2 3 1 = 0 := by kernel_rfl
theorem text4 {w : World} {tb : Nat} (hn : w.heap[tb]? = some (.cells #[.int .i64 97, .int .i64 98, .int .i64 97] 3 (0, 0))) : TextAt w.heap.size w (some ⟨tb, 0, none⟩) 3 T4 := ⟨rfl, by omega, .inr ⟨tb, 0, rfl, (Array.getElem?_eq_some_iff.1 hn).1, fun k hk => by
    match k, hk with
    | 0, _ => exact Joins.cell_of_block hn 0
    | 1, _ => exact Joins.cell_of_block hn 1
    | 2, _ => exact Joins.cell_of_block hn 2⟩⟩
theorem awake_f {w : World} {g tb : Nat} (hp : PI w w.heap.size (some ⟨g, 0, none⟩) 4 L4) (hn : w.heap[tb]? = some (.cells #[.int .i64 97, .int .i64 98, .int .i64 97] 3 (0, 0))) : Calls Try.prog 9 #[pv (some ⟨g, 0, none⟩) 4 4 0 2, .slice (some ⟨tb, 0, none⟩) 3 3, .int .i64 1, .bool false] w fun e w' => ∃ q, e = .returned (.tuple #[.agg #[.bool true, .slice (some ⟨q, 0, none⟩) 2 2, .int .i64 0, .int .i64 6], .int .i64 0]) ∧ w'.cell? ⟨q, 0, none⟩ = some (.int .i64 2) ∧ w'.cell? ⟨q, 1, none⟩ = some (.int .i64 3) ∧ q < w'.heap.size ∧ Below w.heap.size w w' := by
  have hr := run9 (c := 4) (s := 0) (k := 2) (tc := 3) (a := 1) (anch := false) hp (text4 hn) (fun _ => bit4f)
  refine hr.mono ?_
  rintro e w' (⟨_, h1, q, rfl, h2⟩ | ⟨h, _⟩)
  · exact ⟨q, rfl, h2.cellAt 0 (by decide), h2.cellAt 1 (by decide), (h2.lt q rfl).2, h1⟩
  · exact absurd err4 h
theorem awake_t {w : World} {g tb : Nat} (hp : PI w w.heap.size (some ⟨g, 0, none⟩) 4 L4) (hn : w.heap[tb]? = some (.cells #[.int .i64 97, .int .i64 98, .int .i64 97] 3 (0, 0))) : Calls Try.prog 9 #[pv (some ⟨g, 0, none⟩) 4 4 0 2, .slice (some ⟨tb, 0, none⟩) 3 3, .int .i64 1, .bool true] w fun e w' => e = .returned (.tuple #[.agg #[.bool false, .slice none 0 0, .int .i64 0, .int .i64 2], .int .i64 0]) ∧ Below w.heap.size w w' := by
  have hr := run9 (c := 4) (s := 0) (k := 2) (tc := 3) (a := 1) (anch := true) hp (text4 hn) (fun _ => bit4t)
  refine hr.mono ?_
  rintro e w' (⟨_, h1, rfl⟩ | ⟨h, _⟩)
  · exact ⟨rfl, h1⟩
  · exact absurd err4 h
set_option maxRecDepth 100000 in
set_option maxHeartbeats 8000000 in
theorem awake5 (w : World) : Calls Try.prog 5 #[] w fun e w' => e = .returned (.bool true) ∧ Below w.heap.size w w' := by
  obtain ⟨U, hU⟩ : ∃ U, U = w.alloc (.cells #[.int .i64 97, .int .i64 98, .int .i64 97] 3) := ⟨_, rfl⟩
  obtain ⟨tb, htb⟩ : ∃ tb, tb = w.heap.size := ⟨_, rfl⟩
  have hbU : Below w.heap.size w U := by rw [hU]; exact Joins.below_alloc1 w _
  have hn : U.heap[tb]? = some (.cells #[.int .i64 97, .int .i64 98, .int .i64 97] 3 (0, 0)) := by rw [hU, htb]; exact heap_alloc_new w _
  have htU : tb < U.heap.size := (Array.getElem?_eq_some_iff.1 hn).1
  have HL := hid letter16
  have HN := hid hn
  have HBU := hid hbU
  clear hn hbU
  go_enter Try.func5, Try.ntmps5
  go_upto_region 2 with fail
  rw [← hU, ← htb]
  have HTB := hid htb
  clear hU htb
  have HL1 := HL.out U
  go_upto_region 3 with (first | (go_at_call 16; (with_reducible refine HL1.mono ?_); rintro e w2 ⟨g, rfl, hp, hb⟩; have HB := hid hb; have HR := awake_f hp ((hb.block tb htU).trans HN.out); clear hp hb HL1) | (go_at_call 9; (with_reducible refine HR.mono ?_); rintro e w3 ⟨q, rfl, q0, q1, hq, hb3⟩; have HB3 := hid hb3; have HQ := hid (⟨q0, q1, hq⟩ : _ ∧ _ ∧ _); clear hb3 HR q0 q1 hq))
  obtain ⟨U3, hU3⟩ : ∃ U3, U3 = w3.alloc (.cells #[.bool true, .slice (some ⟨q, 0, none⟩) 2 2, .int .i64 0, .int .i64 6] 30) := ⟨_, rfl⟩
  obtain ⟨x, hx⟩ : ∃ x, x = w3.heap.size := ⟨_, rfl⟩
  rw [← hU3, ← hx]
  have hb3' : Below w3.heap.size w3 U3 := by rw [hU3]; exact Joins.below_alloc1 w3 _
  have hX : U3.heap[x]? = some (.cells #[.bool true, .slice (some ⟨q, 0, none⟩) 2 2, .int .i64 0, .int .i64 6] 30 (0, 0)) := by rw [hU3, hx]; exact heap_alloc_new w3 _
  have hxU : x < U3.heap.size := (Array.getElem?_eq_some_iff.1 hX).1
  have hU23 : Below U.heap.size U U3 := HB.out.trans (Joins.below_le (HB3.out.trans (Joins.below_le hb3' HB3.out.size)) HB.out.size)
  have hN3 := (hU23.block tb htU).trans HN.out
  have p0 := (hb3'.cell (p := ⟨q, 0, none⟩) HQ.out.2.2).trans HQ.out.1
  have p1 := (hb3'.cell (p := ⟨q, 1, none⟩) HQ.out.2.2).trans HQ.out.2.1
  have hqU : q < U3.heap.size := by have := hb3'.size; have := HQ.out.2.2; omega
  have HX := hid hX
  have HP := hid (⟨p0, p1⟩ : _ ∧ _)
  have HN3 := hid hN3
  have HU3 := hid hU23
  have htU3 : tb < U3.heap.size := by have := hU23.size; omega
  clear hU3 hx hb3' hX hU23 hN3 p0 p1 HB HB3 HQ
  have HL2 := HL.out U3
  go_upto_region 4 with (first | (go_at_call 16; (with_reducible refine HL2.mono ?_); rintro e w4 ⟨g2, rfl, hp, hb⟩; have HB := hid hb; have HR := awake_t hp ((hb.block tb htU3).trans HN3.out); clear hp hb HL2) | (go_at_call 9; (with_reducible refine HR.mono ?_); rintro e w5 ⟨rfl, hb5⟩; have HB5 := hid hb5; clear hb5 HR))
  have h35 : Below U3.heap.size U3 w5 := HB.out.trans (Joins.below_le HB5.out HB.out.size)
  obtain ⟨U5, hU5⟩ : ∃ U5, U5 = w5.alloc (.cells #[.bool false, .slice none 0 0, .int .i64 0, .int .i64 2] 30) := ⟨_, rfl⟩
  obtain ⟨z, hz⟩ : ∃ z, z = w5.heap.size := ⟨_, rfl⟩
  rw [← hU5, ← hz]
  have hb5' : Below w5.heap.size w5 U5 := by rw [hU5]; exact Joins.below_alloc1 w5 _
  have hZ : U5.heap[z]? = some (.cells #[.bool false, .slice none 0 0, .int .i64 0, .int .i64 2] 30 (0, 0)) := by rw [hU5, hz]; exact heap_alloc_new w5 _
  have h3U5 : Below U3.heap.size U3 U5 := h35.trans (Joins.below_le hb5' h35.size)
  have x0 := (h3U5.cell (p := ⟨x, 0, none⟩) hxU).trans (Joins.cell_of_block HX.out 0)
  have x1 := (h3U5.cell (p := ⟨x, 1, none⟩) hxU).trans (Joins.cell_of_block HX.out 1)
  have x3 := (h3U5.cell (p := ⟨x, 3, none⟩) hxU).trans (Joins.cell_of_block HX.out 3)
  have q0 := (h3U5.cell (p := ⟨q, 0, none⟩) hqU).trans HP.out.1
  have q1 := (h3U5.cell (p := ⟨q, 1, none⟩) hqU).trans HP.out.2
  have z0 := Joins.cell_of_block hZ 0
  have z3 := Joins.cell_of_block hZ 3
  simp at x0 x1 x3 z0 z3
  have HBZ := hid (HBU.out.trans (Joins.below_le (HU3.out.trans (Joins.below_le h3U5 HU3.out.size)) HBU.out.size))
  clear h35 hU5 hz hb5' hZ h3U5 HB HB5
  go_wp2
  go_ret
  exact ⟨rfl, HBZ.out⟩
end Go.Proofs.Ytodpmmlfdkdemaa
/- HELPERS: two answers that hold the same. -/
namespace Go.Proofs.Ytodpmmlfdkdemaa
open Go.RowKit Go.Lk
set_option linter.unusedVariables false
set_option linter.unusedSimpArgs false
/-- numbers that can be read -/
def IR (w : World) (v : Value) (l : List Int) : Prop := ∃ ad c, v = .slice ad l.length c ∧ (l.length = 0 ∨ ∃ b o, ad = some ⟨b, o, none⟩ ∧ b < w.heap.size ∧ ∀ k, k < l.length → w.cell? ⟨b, o + k, none⟩ = some (.int .i64 (l.getD k 0)))
theorem IR.below {w w' : World} {v : Value} {l : List Int} (h : IR w v l) (hb : Below w.heap.size w w') : IR w' v l := by
  obtain ⟨ad, c, e, h⟩ := h
  refine ⟨ad, c, e, ?_⟩
  rcases h with h | ⟨b, o, e, hl, hc⟩
  · exact .inl h
  · exact .inr ⟨b, o, e, by have := hb.size; omega, fun k hk => (hb.cell (p := ⟨b, o + k, none⟩) hl).trans (hc k hk)⟩
theorem IR.row {w : World} {base : Nat} {v : Value} {l : List Int} {n : Nat} (h : w.ownsRow base 3 1 v n (I64 l)) : IR w v l := by
  have hn : l.length = n := by have := h.1; simpa [I64] using this
  subst hn
  rcases h.2 with ⟨e, h0⟩ | ⟨g, cap, cur, e, _⟩
  · exact ⟨none, 0, by rw [e, h0], .inl h0⟩
  · refine ⟨some ⟨g, 0, none⟩, cap, e, .inr ⟨g, 0, rfl, ?_, fun k hk => ?_⟩⟩
    · exact (h.lt g (by rw [e]; rfl)).2
    · rw [e] at h
      rw [Nat.zero_add, h.cellAt k (by omega)]
      simp [I64, hk, List.getD_eq_getElem?_getD]
theorem IR.nil (w : World) : IR w (.slice none 0 0) [] := ⟨none, 0, rfl, .inl rfl⟩
theorem four_cells {w : World} {b : Nat} {v0 v1 v2 v3 : Value} {t : TypeId} {fr : Nat × Nat} (h : w.heap[b]? = some (.cells #[v0, v1, v2, v3] t fr)) : w.cell? ⟨b, 0, none⟩ = some v0 ∧ w.cell? ⟨b, 1, none⟩ = some v1 ∧ w.cell? ⟨b, 2, none⟩ = some v2 ∧ w.cell? ⟨b, 3, none⟩ = some v3 :=
  ⟨Joins.cell_of_block h 0, Joins.cell_of_block h 1, Joins.cell_of_block h 2, Joins.cell_of_block h 3⟩
set_option maxRecDepth 100000 in
set_option maxHeartbeats 4000000 in
theorem same10 {w : World} {ok : Bool} {a1 a2 : Option Addr} {n1 c1 n2 c2 : Nat} {wh st : Int} {l : List Int} (h1 : IR w (.slice a1 n1 c1) l) (h2 : IR w (.slice a2 n2 c2) l) (hl : l.length ≤ 100000) :
    Calls Try.prog 10 #[.agg #[.bool ok, .slice a1 n1 c1, .int .i64 wh, .int .i64 st], .agg #[.bool ok, .slice a2 n2 c2, .int .i64 wh, .int .i64 st]] w fun e w' => e = .returned (.bool true) ∧ Below w.heap.size w w' := by
  obtain ⟨U, hU⟩ : ∃ U, U = (w.alloc (.cells #[.bool ok, .slice a1 n1 c1, .int .i64 wh, .int .i64 st] 30)).alloc (.cells #[.bool ok, .slice a2 n2 c2, .int .i64 wh, .int .i64 st] 30) := ⟨_, rfl⟩
  have hb : Below w.heap.size w U := by rw [hU]; exact below_two' w _ _
  have hX : U.heap[w.heap.size]? = some (.cells #[.bool ok, .slice a1 n1 c1, .int .i64 wh, .int .i64 st] 30 (0, 0)) := by rw [hU]; exact (heap_alloc_old _ _ (by simp)).trans (heap_alloc_new w _)
  have hY : U.heap[w.heap.size + 1]? = some (.cells #[.bool ok, .slice a2 n2 c2, .int .i64 wh, .int .i64 st] 30 (0, 0)) := by rw [hU]; exact two_new w _ _ _
  obtain ⟨x, hx⟩ : ∃ x, x = w.heap.size := ⟨_, rfl⟩
  obtain ⟨y, hy⟩ : ∃ y, y = w.heap.size + 1 := ⟨_, rfl⟩
  rw [← hx] at hX hb
  rw [← hy] at hY
  obtain ⟨n, hn⟩ : ∃ n, n = l.length := ⟨_, rfl⟩
  obtain ⟨ad1, cc1, e1, h1'⟩ := h1.below (by rw [← hx]; exact hb)
  obtain ⟨ad2, cc2, e2, h2'⟩ := h2.below (by rw [← hx]; exact hb)
  simp only [Value.slice.injEq] at e1 e2
  obtain ⟨rfl, rfl, rfl⟩ := e1
  obtain ⟨rfl, rfl, rfl⟩ := e2
  rw [← hn] at hX hY h1' h2' hl hU ⊢
  have HX := hid hX
  have HY := hid hY
  have HB := hid hb
  have HXE := hid hx
  have HN := hid hn
  have H1 := hid h1'
  have H2 := hid h2'
  obtain ⟨p0, p1, p2, p3⟩ := four_cells hX
  obtain ⟨d0, d1, d2, d3⟩ := four_cells hY
  have b0' : (ok != ok) = false := by cases ok <;> rfl
  clear hX hY hb h1 h2 h1' h2' hn
  go_enter Try.func10, Try.ntmps10
  go_upto_region 1 with fail
  rw [← hU, ← hy, ← hx]
  clear hU hy hx
  go_wp2
  go_loopw [5] (fun s5 wr => ∃ k : Nat, s5 = .int .i64 (k : Int) ∧ k ≤ n ∧ Hid (Below x w wr) ∧ Hid (Below U.heap.size U wr)) (fun s5 _ => n - (intOf s5).toNat)
  case atStart => exact ⟨0, rfl, Nat.zero_le _, HB.out, Below.refl _ _⟩
  case round =>
    obtain ⟨k, rfl, hk, HBW, HBU⟩ := hrel
    have hxU : x < U.heap.size := (Array.getElem?_eq_some_iff.1 HX.out).1
    have hyU : y < U.heap.size := (Array.getElem?_eq_some_iff.1 HY.out).1
    replace p1 := (HBU.out.cell (p := ⟨x, 1, none⟩) hxU).trans p1
    replace d1 := (HBU.out.cell (p := ⟨y, 1, none⟩) hyU).trans d1
    clear p0 p2 p3 d0 d2 d3
    by_cases hkn : k < n
    · have b1 : decide ((k : Int) < (n : Int)) = true := by simp; omega
      have b2 : (k : Int) < (n : Int) := by omega
      have a3 := wrap_ok ((k : Int) + 1) (by omega) (by omega)
      rcases H1.out with h0 | ⟨q1, o1, rfl, hq1, hc1⟩
      · omega
      rcases H2.out with h0 | ⟨q2, o2, rfl, hq2, hc2⟩
      · omega
      have m1 := (HBU.out.cell (p := ⟨q1, o1 + k, none⟩) hq1).trans (hc1 k (by omega))
      have m2 := (HBU.out.cell (p := ⟨q2, o2 + k, none⟩) hq2).trans (hc2 k (by omega))
      generalize l.getD k 0 = v at m1 m2
      have hk2 : k < 9223372036854775807 := by omega
      clear hc1 hc2 H1 H2
      go_wp2_with fail
      go_quiet (fail)
      go_wp2
      refine ⟨⟨k + 1, by push_cast; rfl, by omega, below_drewN' HBW.out _, below_drewN' HBU.out _⟩, by simp [intOf]; omega⟩
    · have b1 : decide ((k : Int) < (n : Int)) = false := by simp; omega
      have b2 : ¬ ((k : Int) < (n : Int)) := by omega
      clear H1 H2
      go_wp2
      all_goals go_ret
      all_goals exact ⟨rfl, by rw [← HXE.out]; exact HBW.out⟩
set_option maxRecDepth 100000 in
set_option maxHeartbeats 4000000 in
theorem find15 {w : World} {ok : Bool} {a1 a2 : Option Addr} {n1 c1 n2 c2 : Nat} {wh st st2 : Int} {l : List Int} (h1 : IR w (.slice a1 n1 c1) l) (h2 : IR w (.slice a2 n2 c2) l) (hl : l.length ≤ 100000) :
    Calls Try.prog 15 #[.agg #[.bool ok, .slice a1 n1 c1, .int .i64 wh, .int .i64 st], .agg #[.bool ok, .slice a2 n2 c2, .int .i64 wh, .int .i64 st2]] w fun e w' => e = .returned (.bool true) ∧ Below w.heap.size w w' := by
  obtain ⟨U, hU⟩ : ∃ U, U = (w.alloc (.cells #[.bool ok, .slice a1 n1 c1, .int .i64 wh, .int .i64 st] 30)).alloc (.cells #[.bool ok, .slice a2 n2 c2, .int .i64 wh, .int .i64 st2] 30) := ⟨_, rfl⟩
  have hb : Below w.heap.size w U := by rw [hU]; exact below_two' w _ _
  have hX : U.heap[w.heap.size]? = some (.cells #[.bool ok, .slice a1 n1 c1, .int .i64 wh, .int .i64 st] 30 (0, 0)) := by rw [hU]; exact (heap_alloc_old _ _ (by simp)).trans (heap_alloc_new w _)
  have hY : U.heap[w.heap.size + 1]? = some (.cells #[.bool ok, .slice a2 n2 c2, .int .i64 wh, .int .i64 st2] 30 (0, 0)) := by rw [hU]; exact two_new w _ _ _
  obtain ⟨x, hx⟩ : ∃ x, x = w.heap.size := ⟨_, rfl⟩
  obtain ⟨y, hy⟩ : ∃ y, y = w.heap.size + 1 := ⟨_, rfl⟩
  rw [← hx] at hX hb
  rw [← hy] at hY
  have hxy : x ≠ y := by omega
  have hyx : y ≠ x := by omega
  obtain ⟨p0, p1, p2, p3⟩ := four_cells hX
  obtain ⟨d0, d1, d2, d3⟩ := four_cells hY
  have u3 := Joins.unfrozen_of_block hX 3
  obtain ⟨U2, hU2⟩ : ∃ U2, U2 = U.setCell ⟨x, 3, none⟩ (.int .i64 st2) := ⟨_, rfl⟩
  have hb2 : Below x w U2 := by rw [hU2]; exact hb.setCell (p := ⟨x, 3, none⟩) (Nat.le_refl _) _
  have hX2 : U2.heap[x]? = some (.cells #[.bool ok, .slice a1 n1 c1, .int .i64 wh, .int .i64 st2] 30 (0, 0)) := by rw [hU2]; exact Joins.block_setCell (i := 3) hX _
  have hY2 : U2.heap[y]? = some (.cells #[.bool ok, .slice a2 n2 c2, .int .i64 wh, .int .i64 st2] 30 (0, 0)) := by rw [hU2]; exact (Below.heap_setCell _ _ _ _ hyx).trans hY
  obtain ⟨r0, r1, r2, r3⟩ := four_cells hX2
  obtain ⟨t0, t1, t2, t3⟩ := four_cells hY2
  have HS := same10 (ok := ok) (wh := wh) (st := st2) (h1.below (by rw [← hx]; exact hb2)) (h2.below (by rw [← hx]; exact hb2)) hl
  have HB2 := hid hb2
  have HXE := hid hx
  clear hX hY hb h1 h2 hX2 hY2 hb2
  go_enter Try.func15, Try.ntmps15
  go_upto_region 1 with fail
  rw [← hU, ← hy, ← hx]
  clear hU hy hx
  go_upto_region 2 with fail
  rw [← hU2]
  clear hU2 p0 p1 p2 p3 d0 d1 d2 d3 u3
  go_wp2_with (go_at_call 10; (with_reducible refine HS.mono ?_); rintro e w2 ⟨rfl, hb2⟩; have HB3 := hid hb2; clear hb2 HS)
  all_goals go_ret
  all_goals exact ⟨rfl, by rw [← HXE.out]; exact HB2.out.trans (Joins.below_le HB3.out (by have := HB2.out.size; have := HXE.out; omega))⟩
end Go.Proofs.Ytodpmmlfdkdemaa
namespace Go.Proofs.Ytodpmmlfdkdemaa
open Go.RowKit Go.Lk
set_option linter.unusedVariables false
set_option linter.unusedSimpArgs false
/-- an answer: found or not, what, and the error -/
def FA (ok : Bool) (wh : Int) (l : List Int) (co : Int) (w : World) (e : Ending) (w' : World) : Prop :=
  ∃ a1 n1 c1 st, e = .returned (.tuple #[.agg #[.bool ok, .slice a1 n1 c1, .int .i64 wh, .int .i64 st], .int .i64 co]) ∧ IR w' (.slice a1 n1 c1) l ∧ Below w.heap.size w w'
def whF : Fd → Int
  | none => 0
  | some y => y.1
def capsF : Fd → List Int
  | none => []
  | some y => y.2
theorem FR.fa {K : Nat} {r : Fd × Nat} {w w' : World} {e : Ending} (h : FR K r w e w') : FA r.1.isSome (whF r.1) (capsF r.1) 0 w e w' := by
  obtain ⟨h1, h2⟩ := h
  obtain ⟨fd, n⟩ := r
  cases fd with
  | none => exact ⟨_, _, _, _, h2, IR.nil _, h1⟩
  | some y =>
    obtain ⟨g, h2, h3⟩ := h2
    exact ⟨_, _, _, _, h2, IR.row h3, h1⟩
theorem FE.fa {c : Int} {w w' : World} {e : Ending} (h : FE c w e w') : FA false 0 [] c w e w' := ⟨_, _, _, _, h.2, IR.nil _, h.1⟩
set_option maxRecDepth 100000 in
set_option maxHeartbeats 8000000 in
theorem pike4_same {w : World} {ad tad : Option Addr} {n c tn tc : Nat} {s k a : Int} {anch : Bool} {ok : Bool} {wh co : Int} {l : List Int}
    (hB : ∀ W, Below w.heap.size w W → Calls Try.prog 9 #[pv ad n c s k, .slice tad tn tc, .int .i64 a, .bool anch] W (FA ok wh l co W))
    (hK : ∀ W, Below w.heap.size w W → Calls Try.prog 14 #[pv ad n c s k, .slice tad tn tc, .int .i64 a, .bool anch] W (FA ok wh l co W)) (hco : co ≠ 3) (hl : l.length ≤ 100000) :
    Calls Try.prog 4 #[kv ad n c s k tad tn tc a anch] w fun e w' => e = .returned (.bool true) ∧ Below w.heap.size w w' := by
  obtain ⟨U, hU⟩ : ∃ U, U = w.alloc (.cells #[.slice ad n c, .int .i64 s, .int .i64 k, .slice tad tn tc, .int .i64 a, .bool anch] 27) := ⟨_, rfl⟩
  obtain ⟨x, hx⟩ : ∃ x, x = w.heap.size := ⟨_, rfl⟩
  have hb : Below w.heap.size w U := by rw [hU]; exact Joins.below_alloc1 w _
  have hX : U.heap[x]? = some (.cells #[.slice ad n c, .int .i64 s, .int .i64 k, .slice tad tn tc, .int .i64 a, .bool anch] 27 (0, 0)) := by rw [hU, hx]; exact heap_alloc_new w _
  have hxU : x < U.heap.size := (Array.getElem?_eq_some_iff.1 hX).1
  have HX6 : Hid (∀ W, Below U.heap.size U W → W.cell? ⟨x, 0, none⟩ = some (.slice ad n c) ∧ W.cell? ⟨x, 1, none⟩ = some (.int .i64 s) ∧ W.cell? ⟨x, 2, none⟩ = some (.int .i64 k) ∧ W.cell? ⟨x, 3, none⟩ = some (.slice tad tn tc) ∧ W.cell? ⟨x, 4, none⟩ = some (.int .i64 a) ∧ W.cell? ⟨x, 5, none⟩ = some (.bool anch)) := fun W h => by
    have h6 := (h.block x hxU).trans hX
    exact ⟨Joins.cell_of_block h6 0, Joins.cell_of_block h6 1, Joins.cell_of_block h6 2, Joins.cell_of_block h6 3, Joins.cell_of_block h6 4, Joins.cell_of_block h6 5⟩
  have HBU := hid hb
  have HB := hid hB
  have HK := hid hK
  have HAW := awake5 U
  have e3 : (co == 3) = false := by simpa using hco
  have e4 : (co == co) = true := by simp
  clear hb hX hB hK
  go_enter Try.func4, Try.ntmps4
  go_upto_region 1 with fail
  rw [← hU, ← hx]
  have HXE := hid hx
  clear hU hx
  go_upto_region 3 with (first | (go_at_call 5; (with_reducible refine HAW.mono ?_); rintro e w2 ⟨rfl, hb2⟩; have HB2 := hid hb2; obtain ⟨g0, g1, g2, g3, g4, g5⟩ := HX6.out w2 hb2; have HC := HB.out w2 (HBU.out.trans (Joins.below_le hb2 HBU.out.size)); clear hb2 HAW) | (go_at_call 9; (with_reducible refine HC.mono ?_); rintro e w3 ⟨a1, n1, c1, st1, rfl, hi, hb3⟩; have HI := hid hi; have HB3 := hid hb3; clear hi hb3 HC g0 g1 g2 g3 g4 g5))
  obtain ⟨U3, hU3⟩ : ∃ U3, U3 = w3.alloc (.cells #[.bool ok, .slice a1 n1 c1, .int .i64 wh, .int .i64 st1] 30) := ⟨_, rfl⟩
  obtain ⟨y, hy⟩ : ∃ y, y = w3.heap.size := ⟨_, rfl⟩
  rw [← hU3, ← hy]
  have hb3 : Below w3.heap.size w3 U3 := by rw [hU3]; exact Joins.below_alloc1 w3 _
  have hY : U3.heap[y]? = some (.cells #[.bool ok, .slice a1 n1 c1, .int .i64 wh, .int .i64 st1] 30 (0, 0)) := by rw [hU3, hy]; exact heap_alloc_new w3 _
  have hyU : y < U3.heap.size := (Array.getElem?_eq_some_iff.1 hY).1
  have h23 : Below U.heap.size U U3 := HB2.out.trans (Joins.below_le (HB3.out.trans (Joins.below_le hb3 HB3.out.size)) HB2.out.size)
  obtain ⟨g0, g1, g2, g3, g4, g5⟩ := HX6.out U3 h23
  have HC := HK.out U3 (HBU.out.trans (Joins.below_le h23 HBU.out.size))
  have HI3 := hid (HI.out.below hb3)
  have HY := hid hY
  have H23 := hid h23
  clear hU3 hy hb3 hY h23 HI HB2 HB3 HB HK
  go_upto_region 4 with (go_at_call 14; (with_reducible refine HC.mono ?_); rintro e w4 ⟨a2, n2, c2, st2, rfl, hi, hb4⟩; have HI4 := hid hi; have HB4 := hid hb4; clear hi hb4 HC g0 g1 g2 g3 g4 g5)
  obtain ⟨U4, hU4⟩ : ∃ U4, U4 = w4.alloc (.cells #[.bool ok, .slice a2 n2 c2, .int .i64 wh, .int .i64 st2] 30) := ⟨_, rfl⟩
  obtain ⟨z, hz⟩ : ∃ z, z = w4.heap.size := ⟨_, rfl⟩
  rw [← hU4, ← hz]
  have hb4 : Below w4.heap.size w4 U4 := by rw [hU4]; exact Joins.below_alloc1 w4 _
  have hZ : U4.heap[z]? = some (.cells #[.bool ok, .slice a2 n2 c2, .int .i64 wh, .int .i64 st2] 30 (0, 0)) := by rw [hU4, hz]; exact heap_alloc_new w4 _
  have h34 : Below U3.heap.size U3 U4 := HB4.out.trans (Joins.below_le hb4 HB4.out.size)
  obtain ⟨y0, y1, y2, y3⟩ := four_cells ((h34.block y hyU).trans HY.out)
  obtain ⟨z0, z1, z2, z3⟩ := four_cells hZ
  have HSF := find15 (ok := ok) (wh := wh) (st := st1) (st2 := st2) (HI3.out.below h34) (HI4.out.below hb4) hl
  have HBW := hid (HBU.out.trans (Joins.below_le (H23.out.trans (Joins.below_le h34 H23.out.size)) HBU.out.size))
  clear hU4 hz hb4 hZ h34 HI3 HI4 HY H23 HB4 HX6
  go_wp2_with (go_at_call 15; (with_reducible refine HSF.mono ?_); rintro e w5 ⟨rfl, hb5⟩; have HB5 := hid hb5; clear hb5 HSF)
  all_goals go_ret
  all_goals exact ⟨rfl, HBW.out.trans (Joins.below_le HB5.out HBW.out.size)⟩
set_option maxRecDepth 100000 in
set_option maxHeartbeats 8000000 in
theorem pike4_big {w : World} {ad tad : Option Addr} {n c tn tc : Nat} {s k a : Int} {anch : Bool} {ok : Bool} {wh : Int} {l : List Int}
    (hB : ∀ W, Below w.heap.size w W → Calls Try.prog 9 #[pv ad n c s k, .slice tad tn tc, .int .i64 a, .bool anch] W (FA false 0 [] 3 W))
    (hK : ∀ W, Below w.heap.size w W → Calls Try.prog 14 #[pv ad n c s k, .slice tad tn tc, .int .i64 a, .bool anch] W (FA ok wh l 0 W)) :
    Calls Try.prog 4 #[kv ad n c s k tad tn tc a anch] w fun e w' => e = .returned (.bool true) ∧ Below w.heap.size w w' := by
  obtain ⟨U, hU⟩ : ∃ U, U = w.alloc (.cells #[.slice ad n c, .int .i64 s, .int .i64 k, .slice tad tn tc, .int .i64 a, .bool anch] 27) := ⟨_, rfl⟩
  obtain ⟨x, hx⟩ : ∃ x, x = w.heap.size := ⟨_, rfl⟩
  have hb : Below w.heap.size w U := by rw [hU]; exact Joins.below_alloc1 w _
  have hX : U.heap[x]? = some (.cells #[.slice ad n c, .int .i64 s, .int .i64 k, .slice tad tn tc, .int .i64 a, .bool anch] 27 (0, 0)) := by rw [hU, hx]; exact heap_alloc_new w _
  have hxU : x < U.heap.size := (Array.getElem?_eq_some_iff.1 hX).1
  have HX6 : Hid (∀ W, Below U.heap.size U W → W.cell? ⟨x, 0, none⟩ = some (.slice ad n c) ∧ W.cell? ⟨x, 1, none⟩ = some (.int .i64 s) ∧ W.cell? ⟨x, 2, none⟩ = some (.int .i64 k) ∧ W.cell? ⟨x, 3, none⟩ = some (.slice tad tn tc) ∧ W.cell? ⟨x, 4, none⟩ = some (.int .i64 a) ∧ W.cell? ⟨x, 5, none⟩ = some (.bool anch)) := fun W h => by
    have h6 := (h.block x hxU).trans hX
    exact ⟨Joins.cell_of_block h6 0, Joins.cell_of_block h6 1, Joins.cell_of_block h6 2, Joins.cell_of_block h6 3, Joins.cell_of_block h6 4, Joins.cell_of_block h6 5⟩
  have HBU := hid hb
  have HB := hid hB
  have HK := hid hK
  have HAW := awake5 U
  clear hb hX hB hK
  go_enter Try.func4, Try.ntmps4
  go_upto_region 1 with fail
  rw [← hU, ← hx]
  have HXE := hid hx
  clear hU hx
  go_upto_region 3 with (first | (go_at_call 5; (with_reducible refine HAW.mono ?_); rintro e w2 ⟨rfl, hb2⟩; have HB2 := hid hb2; obtain ⟨g0, g1, g2, g3, g4, g5⟩ := HX6.out w2 hb2; have HC := HB.out w2 (HBU.out.trans (Joins.below_le hb2 HBU.out.size)); clear hb2 HAW) | (go_at_call 9; (with_reducible refine HC.mono ?_); rintro e w3 ⟨a1, n1, c1, st1, rfl, hi, hb3⟩; have HI := hid hi; have HB3 := hid hb3; clear hi hb3 HC g0 g1 g2 g3 g4 g5))
  obtain ⟨U3, hU3⟩ : ∃ U3, U3 = w3.alloc (.cells #[.bool false, .slice a1 n1 c1, .int .i64 0, .int .i64 st1] 30) := ⟨_, rfl⟩
  obtain ⟨y, hy⟩ : ∃ y, y = w3.heap.size := ⟨_, rfl⟩
  rw [← hU3, ← hy]
  have hb3 : Below w3.heap.size w3 U3 := by rw [hU3]; exact Joins.below_alloc1 w3 _
  have hY : U3.heap[y]? = some (.cells #[.bool false, .slice a1 n1 c1, .int .i64 0, .int .i64 st1] 30 (0, 0)) := by rw [hU3, hy]; exact heap_alloc_new w3 _
  have hyU : y < U3.heap.size := (Array.getElem?_eq_some_iff.1 hY).1
  have h23 : Below U.heap.size U U3 := HB2.out.trans (Joins.below_le (HB3.out.trans (Joins.below_le hb3 HB3.out.size)) HB2.out.size)
  obtain ⟨g0, g1, g2, g3, g4, g5⟩ := HX6.out U3 h23
  have HC := HK.out U3 (HBU.out.trans (Joins.below_le h23 HBU.out.size))
  have HI3 := hid (HI.out.below hb3)
  have HY := hid hY
  have H23 := hid h23
  clear hU3 hy hb3 hY h23 HI HB2 HB3 HB HK
  go_upto_region 4 with (go_at_call 14; (with_reducible refine HC.mono ?_); rintro e w4 ⟨a2, n2, c2, st2, rfl, hi, hb4⟩; have HI4 := hid hi; have HB4 := hid hb4; clear hi hb4 HC g0 g1 g2 g3 g4 g5)
  obtain ⟨U4, hU4⟩ : ∃ U4, U4 = w4.alloc (.cells #[.bool ok, .slice a2 n2 c2, .int .i64 wh, .int .i64 st2] 30) := ⟨_, rfl⟩
  obtain ⟨z, hz⟩ : ∃ z, z = w4.heap.size := ⟨_, rfl⟩
  rw [← hU4, ← hz]
  have hb4 : Below w4.heap.size w4 U4 := by rw [hU4]; exact Joins.below_alloc1 w4 _
  have hZ : U4.heap[z]? = some (.cells #[.bool ok, .slice a2 n2 c2, .int .i64 wh, .int .i64 st2] 30 (0, 0)) := by rw [hU4, hz]; exact heap_alloc_new w4 _
  have h34 : Below U3.heap.size U3 U4 := HB4.out.trans (Joins.below_le hb4 HB4.out.size)
  obtain ⟨y0, y1, y2, y3⟩ := four_cells ((h34.block y hyU).trans HY.out)
  obtain ⟨z0, z1, z2, z3⟩ := four_cells hZ
  have HBW := hid (HBU.out.trans (Joins.below_le (H23.out.trans (Joins.below_le h34 H23.out.size)) HBU.out.size))
  clear hU4 hz hb4 hZ h34 HI3 HI4 HY H23 HB4 HX6
  go_wp2
  all_goals go_ret
  all_goals exact ⟨rfl, HBW.out⟩
theorem FA.len {K : Nat} {P : Pr} {len a : Nat} {anch : Bool} (hP : P.Ok) : (capsF (lockRun P len a anch).1).length ≤ P.K := by
  have h := (lockRun_steps hP len a anch).2.2
  cases hr : (lockRun P len a anch).1 with
  | none => simp [capsF]
  | some y => exact Nat.le_of_eq (h y hr)
/-- the law's answer: true, whatever it is asked -/
theorem pike4 {w : World} {ad tad : Option Addr} {n c tn tc : Nat} {s k a : Int} {anch : Bool} {l : List In} {tx : List Int} (hP : PI w w.heap.size ad n l) (hT : TextAt w.heap.size w tad tn tx) :
    Calls Try.prog 4 #[kv ad n c s k tad tn tc a anch] w fun e w' => e = .returned (.bool true) ∧ Below w.heap.size w w' := by
  have hPW : ∀ W, Below w.heap.size w W → PI W W.heap.size ad n l := fun W h => hP.kept h h.size
  have hTW : ∀ W, Below w.heap.size w W → TextAt W.heap.size W tad tn tx := fun W h => (hT.below h).mono h.size
  by_cases he : errR l s k tx.length a = 0
  · obtain ⟨r, m', hd, hlk⟩ := bit_ex (tx := tx) anch he
    obtain ⟨h1, h2, h3, h4⟩ := errR_ok he
    have hmo := may_ok h2
    have hKf : ∀ W, Below w.heap.size w W → Calls Try.prog 14 #[pv ad n c s k, .slice tad tn tc, .int .i64 a, .bool anch] W (FA r.isSome (whF r) (capsF r) 0 W) := fun W h => (run10 (c := c) (tc := tc) (hPW W h) (hTW W h)).mono fun e w' hh => by
      rcases hh with ⟨_, hh⟩ | ⟨hh, _⟩
      · have := hh.fa
        rw [hlk] at this
        exact this
      · exact absurd he hh
    have hlen : (capsF r).length ≤ 100000 := by
      obtain ⟨S, rfl⟩ := Int.eq_ofNat_of_zero_le hmo.2.1
      obtain ⟨K, rfl⟩ := Int.eq_ofNat_of_zero_le (show 0 ≤ k by omega)
      have h5 := FA.len (K := K) (len := tx.length) (a := a.toNat) (anch := anch) (pr_ok (tx := tx) h2)
      rw [show (prOf l tx S K) = prOf l tx (S : Int).toNat (K : Int).toNat from rfl, hlk] at h5
      have : (prOf l tx (S : Int).toNat (K : Int).toNat).K = K := rfl
      omega
    by_cases hb : errB l s k tx.length a = 0
    · refine pike4_same (fun W h => (run9 (hPW W h) (hTW W h) (fun _ => hd)).mono fun e w' hh => ?_) hKf (by decide) hlen
      rcases hh with ⟨_, hh⟩ | ⟨hh, _⟩
      · exact hh.fa
      · exact absurd hb hh
    · have hb3 : errB l s k tx.length a = 3 := by
        unfold errB at hb ⊢
        rw [if_neg (by simp [he])] at hb ⊢
        split at hb
        · rename_i h; rw [if_pos h]
        · exact absurd rfl hb
      refine pike4_big (fun W h => (run9 (hPW W h) (hTW W h) (fun _ => hd)).mono fun e w' hh => ?_) hKf
      rcases hh with ⟨hh, _⟩ | ⟨_, hh⟩
      · exact absurd hh hb
      · rw [hb3] at hh
        exact hh.fa
  · have hb : errB l s k tx.length a = errR l s k tx.length a := by unfold errB; rw [if_pos he]
    have h3 : errR l s k tx.length a ≠ 3 := by
      unfold errR
      split
      · decide
      · split
        · decide
        · split <;> decide
    refine pike4_same (ok := false) (wh := 0) (l := []) (co := errR l s k tx.length a) (fun W h => (run9 (r := none) (m' := []) (hPW W h) (hTW W h) (fun h => absurd h he)).mono fun e w' hh => ?_) (fun W h => (run10 (hPW W h) (hTW W h)).mono fun e w' hh => ?_) h3 (by simp)
    · rcases hh with ⟨hh, _⟩ | ⟨_, hh⟩
      · exact absurd (hb ▸ hh) he
      · rw [hb] at hh
        exact hh.fa
    · rcases hh with ⟨hh, _⟩ | ⟨_, hh⟩
      · exact absurd hh he
      · exact hh.fa
end Go.Proofs.Ytodpmmlfdkdemaa
