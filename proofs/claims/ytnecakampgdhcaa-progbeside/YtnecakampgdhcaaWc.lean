/- HELPERS: the walk's memory. -/
import Derived.Test.YtnecakampgdhcaaWa
import Derived.Test.YtnecakampgdhcaaJc
import Derived.Test.YtnecakampgdhcaaLn
namespace Go.Proofs.Ytnecakampgdhcaa
open Go.RowKit Go.Lk
set_option linter.unusedVariables false
set_option linter.unusedSimpArgs false
def Tk.cs : Tk → List Value
  | .go i p => [.int .i64 (i : Int), .int .i64 (p : Int), .int .i64 0, .int .i64 0]
  | .un a o => [.int .i64 0, .int .i64 0, .int .i64 ((a : Int) + 1), .int .i64 o]
theorem Tk.cs_len (t : Tk) : t.cs.length = 4 := by cases t <;> rfl
theorem Tk.one (t : Tk) : ∀ u ∈ t.cs, u.oneCell' = true := by
  cases t <;> (intro u hu; simp [Tk.cs] at hu; rcases hu with rfl | rfl | rfl | rfl <;> rfl)
/-- the stack's cells, its top last -/
def stk : List Tk → List Value
  | [] => []
  | t :: st => stk st ++ t.cs
theorem stk_len (st : List Tk) : (stk st).length = st.length * 4 := by
  induction st with
  | nil => rfl
  | cons t st ih => rw [stk, List.length_append, ih, Tk.cs_len, List.length_cons]; omega
theorem stk_top (t : Tk) (st : List Tk) (k : Nat) (hk : k < 4) : (stk (t :: st))[st.length * 4 + k]? = t.cs[k]? := by
  rw [stk, List.getElem?_append_right (by rw [stk_len]; omega), stk_len]
  congr 1
  omega
theorem own_pop {w : World} {bs e size n c : Nat} {z : Option Addr} {xs ys : List Value} (h : w.ownsRow bs e size (.slice z (n + 1) c) (n + 1) (xs ++ ys)) (hx : xs.length = n * size) : w.ownsRow bs e size (.slice z n c) n xs := by
  refine ⟨hx, ?_⟩
  rcases h.2 with ⟨_, h0⟩ | ⟨g, cap, cur, e1, h1, h2, h3, h4, h5, h6⟩
  · omega
  · simp only [Value.slice.injEq] at e1
    obtain ⟨rfl, _, rfl⟩ := e1
    refine .inr ⟨g, c, cur, rfl, h1, h2, by omega, h4, h5, ?_⟩
    have : (cur.toList.take ((n + 1) * size)).take (n * size) = (xs ++ ys).take (n * size) := by rw [h6]
    rw [List.take_take, Nat.min_eq_left (Nat.mul_le_mul_right _ (by omega)), ← hx, List.take_left] at this
    rw [← hx]
    exact this
def isF : Option Value → Bool
  | some (.bool false) => true
  | _ => false
def cA (arr : Array Value) (M : Nat) : Nat := (List.range M).countP fun k => isF arr[k]?
/-- how many are not met yet, in memory -/
def cW (w : World) (gm M : Nat) : Nat := match w.heap[gm]? with
  | some (.cells arr _ _) => cA arr M
  | _ => 0
theorem cW_of {w : World} {gm M : Nat} {arr : Array Value} {t : TypeId} {fr : Nat × Nat} (h : w.heap[gm]? = some (.cells arr t fr)) : cW w gm M = cA arr M := by unfold cW; rw [h]
theorem cW_same {w w' : World} {gm M : Nat} (h : w'.heap[gm]? = w.heap[gm]?) : cW w' gm M = cW w gm M := by unfold cW; rw [h]
theorem cA_set {arr : Array Value} {M i : Nat} (hi : i < M) (hs : i < arr.size) (h : arr[i]? = some (.bool false)) : cA (arr.setIfInBounds i (.bool true)) M < cA arr M := by
  unfold cA
  refine countP_lt _ _ i _ (List.mem_range.2 hi) (by rw [h]; rfl) (by simp [hs, isF]) (fun k hk => ?_)
  by_cases e : i = k
  · subst e; simp [hs, isF] at hk
  · rwa [Array.getElem?_setIfInBounds_ne e] at hk
/-- the walk's memory: the stack, what was met, the captures, the program's box -/
structure WI (w0 w : World) (B0 gm gc x n q1 K c : Nat) (ad : Option Addr) (s k : Int) (tx : List Int) (z : Option Addr) (cz : Nat) (st : List Tk) (m : Met) (caps : List Int) : Prop where
  row : w.ownsRow B0 100 4 (.slice z st.length cz) st.length (stk st)
  met : ∃ arr : Array Value, w.heap[gm]? = some (.cells arr 4 (0, 0)) ∧ arr.size = n * q1 ∧ ∀ i p, i < n → p < q1 → arr[i * q1 + p]? = some (.bool (m i p))
  cap : w.ownsRow B0 3 1 (.slice (some ⟨gc, 0, none⟩) K K) K (caps.map (Value.int .i64))
  bx : w.heap[x]? = some (.cells #[.slice ad n c, .int .i64 s, .int .i64 k] 24 (0, 0))
  bl : Below B0 w0 w
  ok : ∀ t ∈ st, t.ok n tx K
  len : caps.length = K
  lo : B0 ≤ gm ∧ B0 ≤ w.heap.size
section
variable {w0 w w' : World} {B0 gm gc x n q1 K c cz : Nat} {ad z : Option Addr} {s k : Int} {tx : List Int} {st : List Tk} {t : Tk} {m : Met} {caps : List Int}
theorem WI.kept (h : WI w0 w B0 gm gc x n q1 K c ad s k tx z cz st m caps) (hb : Below w.heap.size w w') : WI w0 w' B0 gm gc x n q1 K c ad s k tx z cz st m caps := by
  obtain ⟨arr, h1, h2⟩ := h.met
  exact ⟨row_kept h.row (fun b hb' => hb.block b (h.row.lt b hb').2), ⟨arr, (hb.block gm (Array.getElem?_eq_some_iff.1 h1).1).trans h1, h2⟩, row_kept h.cap (fun b hb' => hb.block b (h.cap.lt b hb').2), (hb.block x (Array.getElem?_eq_some_iff.1 h.bx).1).trans h.bx, h.bl.trans (Joins.below_le hb h.lo.2), h.ok, h.len, by have := hb.size; have := h.lo; omega⟩
theorem WI.pop (h : WI w0 w B0 gm gc x n q1 K c ad s k tx z cz (t :: st) m caps) : WI w0 w B0 gm gc x n q1 K c ad s k tx z cz st m caps :=
  ⟨own_pop h.row (stk_len st), h.met, h.cap, h.bx, h.bl, fun u hu => h.ok u (List.mem_cons_of_mem _ hu), h.len, h.lo⟩
theorem WI.setc (h : WI w0 w B0 gm gc x n q1 K c ad s k tx z cz st m caps) (a : Nat) (v : Int) : WI w0 (w.setCell ⟨gc, a, none⟩ (.int .i64 v)) B0 gm gc x n q1 K c ad s k tx z cz st m (caps.set a v) := by
  obtain ⟨arr, h1, h2⟩ := h.met
  have hgc := h.cap.lt gc rfl
  have hk : ∀ b, b ≠ gc → (w.setCell ⟨gc, a, none⟩ (.int .i64 v)).heap[b]? = w.heap[b]? := fun b hb => Below.heap_setCell _ _ _ _ hb
  have hc := row_setC h.cap a (.int .i64 v)
  rw [← List.map_set] at hc
  refine ⟨row_kept h.row (fun b hb => hk b (fun e => ?_)), ⟨arr, (hk gm (fun e => own_ne h.cap h1 (by decide) (by rw [e]; rfl))).trans h1, h2⟩, hc, (hk x (fun e => own_ne h.cap h.bx (by decide) (by rw [e]; rfl))).trans h.bx, h.bl.setCell (p := ⟨gc, a, none⟩) hgc.1 _, h.ok, by simpa using h.len, by simpa [World.setCell] using h.lo⟩
  subst e
  rcases h.cap.2 with ⟨e, _⟩ | ⟨g, cap, cur, e, _, hg, _⟩
  · cases e
  · simp only [Value.slice.injEq, Option.some.injEq, Addr.mk.injEq] at e
    obtain ⟨⟨rfl, _⟩, _⟩ := e
    exact own_ne h.row hg (by decide) hb
theorem idx_inj {i j p q q1 : Nat} (hp : p < q1) (hq : q < q1) (h : i * q1 + p = j * q1 + q) : i = j ∧ p = q := by
  have h1 : (i * q1 + p) / q1 = i := by rw [Nat.mul_comm, Nat.mul_add_div (by omega), Nat.div_eq_of_lt hp]; omega
  have h2 : (j * q1 + q) / q1 = j := by rw [Nat.mul_comm, Nat.mul_add_div (by omega), Nat.div_eq_of_lt hq]; omega
  have : i = j := by rw [← h1, ← h2, h]
  subst this
  exact ⟨rfl, by omega⟩
theorem idx_lt {i p n q1 : Nat} (hi : i < n) (hp : p < q1) : i * q1 + p < n * q1 := by
  have : (i + 1) * q1 ≤ n * q1 := Nat.mul_le_mul_right _ hi
  rw [Nat.succ_mul] at this
  omega
theorem WI.metAt (h : WI w0 w B0 gm gc x n q1 K c ad s k tx z cz st m caps) {i p : Nat} (hi : i < n) (hp : p < q1) : w.cell? ⟨gm, i * q1 + p, none⟩ = some (.bool (m i p)) ∧ w.frozen? ⟨gm, i * q1 + p, none⟩ = false := by
  obtain ⟨arr, h1, h2, h3⟩ := h.met
  exact ⟨by rw [Joins.cell_of_block h1]; exact h3 i p hi hp, Joins.unfrozen_of_block h1 _⟩
theorem WI.mark (h : WI w0 w B0 gm gc x n q1 K c ad s k tx z cz st m caps) {i p : Nat} (hi : i < n) (hp : p < q1) (hm : m i p = false) : WI w0 (w.setCell ⟨gm, i * q1 + p, none⟩ (.bool true)) B0 gm gc x n q1 K c ad s k tx z cz st (mark m i p) caps ∧ cW (w.setCell ⟨gm, i * q1 + p, none⟩ (.bool true)) gm (n * q1) < cW w gm (n * q1) := by
  obtain ⟨arr, h1, h2, h3⟩ := h.met
  have hk : ∀ b, b ≠ gm → (w.setCell ⟨gm, i * q1 + p, none⟩ (.bool true)).heap[b]? = w.heap[b]? := fun b hb => Below.heap_setCell _ _ _ _ hb
  have hnew := Joins.block_setCell (i := i * q1 + p) h1 (.bool true)
  have hlt := idx_lt (n := n) hi hp
  refine ⟨⟨row_kept h.row (fun b hb => hk b (fun e => by subst e; exact own_ne h.row h1 (by decide) hb)), ⟨_, hnew, by simpa using h2, fun j q hj hq => ?_⟩, row_kept h.cap (fun b hb => hk b (fun e => by subst e; exact own_ne h.cap h1 (by decide) hb)), (hk x (fun e => by have := h.bx; rw [e, h1] at this; simp at this)).trans h.bx, h.bl.setCell (p := ⟨gm, i * q1 + p, none⟩) h.lo.1 _, h.ok, h.len, by simpa [World.setCell] using h.lo⟩, ?_⟩
  · unfold Go.Proofs.Ytnecakampgdhcaa.mark
    by_cases e : j = i ∧ q = p
    · obtain ⟨rfl, rfl⟩ := e
      simp [h2, hlt]
    · rw [if_neg e, Array.getElem?_setIfInBounds_ne (fun e' => e (by have := idx_inj hp hq e'; exact ⟨this.1.symm, this.2.symm⟩))]
      exact h3 j q hj hq
  · rw [cW_of h1, cW_of hnew]
    exact cA_set hlt (by omega) (by rw [h3 i p hi hp, hm])
/-- tasks are put onto the stack -/
theorem WI.push {V w7 : World} {y1 : Option Addr} {y3 : Nat} {ts : List Tk} (h : WI w0 w B0 gm gc x n q1 K c ad s k tx z cz st m caps) (hs : w.heap.size ≤ V.heap.size) (hk : ∀ b, b < w.heap.size → V.heap[b]? = w.heap[b]?) (ho : V.os = w.os) (htp : V.tape = w.tape) (hou : V.output = w.output) (hf : Frm V w7 (.slice z st.length cz) (.slice y1 (st.length + ts.length) y3)) (hr : w7.ownsRow B0 100 4 (.slice y1 (st.length + ts.length) y3) (st.length + ts.length) (stk st ++ stk ts)) (hok : ∀ t ∈ ts, t.ok n tx K) :
    WI w0 w7 B0 gm gc x n q1 K c ad s k tx y1 y3 (ts ++ st) m caps ∧ cW w7 gm (n * q1) = cW w gm (n * q1) := by
  obtain ⟨arr, h1, h2⟩ := h.met
  have hz := h.row.lt
  have hkk : ∀ (b : Nat) (cs : Array Value) (t : TypeId) (fr : Nat × Nat), w.heap[b]? = some (.cells cs t fr) → t ≠ 100 → w7.heap[b]? = some (.cells cs t fr) := fun b cs t fr hb ht => by
    have hbl := (Array.getElem?_eq_some_iff.1 hb).1
    exact (hf.block b (by omega) (own_ne h.row hb ht)).trans ((hk b hbl).trans hb)
  have hst : stk (ts ++ st) = stk st ++ stk ts := by
    clear hf hr hok
    induction ts with
    | nil => simp [stk]
    | cons t ts ih => rw [List.cons_append, stk, ih, stk, List.append_assoc]
  refine ⟨⟨by rw [hst, List.length_append, Nat.add_comm]; exact hr, ⟨arr, hkk _ _ _ _ h1 (by decide), h2⟩, row_kept h.cap (fun b hb => ?_), hkk _ _ _ _ h.bx (by decide), ⟨hf.os.trans (ho.trans h.bl.os), hf.tape.trans (htp.trans h.bl.tape), hf.output.trans (hou.trans h.bl.output), ?_, fun b hb => ?_⟩, fun t ht => (List.mem_append.1 ht).elim (hok t) (h.ok t), h.len, ⟨h.lo.1, ?_⟩⟩, ?_⟩
  · rcases h.cap.2 with ⟨e, _⟩ | ⟨g, cap, cur, e, _, hg, _⟩
    · rw [e] at hb; cases hb
    · rw [e] at hb
      cases hb
      rw [hkk _ _ _ _ hg (by decide), hg]
  · have := hf.size; have := h.bl.size; omega
  · exact (hf.block b (by have := h.lo; omega) (fun h' => by have := (hz b h').1; omega)).trans ((hk b (by have := h.lo; omega)).trans (h.bl.block b hb))
  · have := hf.size; have := h.lo; omega
  · rw [cW_of h1, cW_of (hkk _ _ _ _ h1 (by decide))]
end
theorem info100 : (Try.prog.info? 100).map (fun i => (i.zero, i.size, i.bytes)) = some (some (.agg #[.int .i64 0, .int .i64 0, .int .i64 0, .int .i64 0]), 4, 32) := by kernel_rfl
theorem info4 : (Try.prog.info? 4).map (fun i => (i.zero, i.size, i.bytes)) = some (some (.bool false), 1, 1) := by kernel_rfl
theorem make4 (c : Nat) (hc : c ≤ 1000000) (w : World) : (Instr.makeSlice 98 (.int .i64 (c : Int)) (.int .i64 (c : Int))).run Try.prog w = .ok (.slice (some ⟨w.heap.size, 0, none⟩) c c) (w.alloc (.cells (madeCells #[.bool false] c) 4)) := by
  obtain ⟨i0, hi0, hz0, hz1, hz2⟩ := info_parts info4
  have h := run_make (P := Try.prog) w 98 4 i0 (.bool false) Try.underlying98 hi0 hz0 .i64 .i64 c c (by omega) (by omega) (by rw [hz2]; omega) (by omega)
  simp only [Int.toNat_natCast, hz1, Nat.mul_one] at h
  exact h
end Go.Proofs.Ytnecakampgdhcaa
