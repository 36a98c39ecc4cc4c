/- HELPERS: can a match be come to: the document's own search, in plain words and in memory. -/
import Derived.Test.YtaoagcnbdfklnaaRa
namespace Go.Proofs.Ytaoagcnbdfklnaa
open Go.RowKit Go.Lk
set_option linter.unusedVariables false
set_option linter.unusedSimpArgs false
abbrev Met := Nat → Nat → Bool
def mark (m : Met) (i p : Nat) : Met := fun j q => if j = i ∧ q = p then true else m j q
theorem countP_lt {α : Type} (p q : α → Bool) (a : α) : ∀ (L : List α), a ∈ L → p a = true → q a = false → (∀ x, q x = true → p x = true) → L.countP q < L.countP p
  | [], h, _, _, _ => by cases h
  | x :: L, h, h1, h2, h3 => by
    have hle : L.countP q ≤ L.countP p := List.countP_mono_left (fun x _ hx => h3 x hx)
    rw [List.countP_cons, List.countP_cons]
    rcases List.mem_cons.1 h with rfl | h
    · rw [h1, h2]; simp; omega
    · have := countP_lt p q a L h h1 h2 h3
      have hx := h3 x
      cases hq : q x
      · cases hp : p x <;> simp <;> omega
      · rw [hx hq]; simp; omega
theorem own_pop {w : World} {bs e size n c : Nat} {z : Option Addr} {xs ys : List Value} (h : w.ownsRow bs e size (.slice z (n + 1) c) (n + 1) (xs ++ ys)) (hx : xs.length = n * size) : w.ownsRow bs e size (.slice z n c) n xs := by
  refine ⟨hx, ?_⟩
  rcases h.2 with ⟨_, h0⟩ | ⟨g, cap, cur, e1, h1, h2, h3, h4, h5, h6⟩
  · omega
  · simp only [Value.slice.injEq] at e1
    obtain ⟨rfl, _, rfl⟩ := e1
    refine .inr ⟨g, c, cur, rfl, h1, h2, by omega, h4, h5, ?_⟩
    have : (cur.toList.take ((n + 1) * size)).take (n * size) = (xs ++ ys).take (n * size) := by rw [h6]
    rw [List.take_take, Nat.min_eq_left (Nat.mul_le_mul_right _ (by omega)), ← hx, List.take_left] at this
    rw [← hx]
    exact this
def isF : Option Value → Bool
  | some (.bool false) => true
  | _ => false
def cA (arr : Array Value) (M : Nat) : Nat := (List.range M).countP fun k => isF arr[k]?
/-- how many are not met yet, in memory -/
def cW (w : World) (gm M : Nat) : Nat := match w.heap[gm]? with
  | some (.cells arr _ _) => cA arr M
  | _ => 0
theorem cW_of {w : World} {gm M : Nat} {arr : Array Value} {t : TypeId} {fr : Nat × Nat} (h : w.heap[gm]? = some (.cells arr t fr)) : cW w gm M = cA arr M := by unfold cW; rw [h]
theorem cW_same {w w' : World} {gm M : Nat} (h : w'.heap[gm]? = w.heap[gm]?) : cW w' gm M = cW w gm M := by unfold cW; rw [h]
theorem cA_set {arr : Array Value} {M i : Nat} (hi : i < M) (hs : i < arr.size) (h : arr[i]? = some (.bool false)) : cA (arr.setIfInBounds i (.bool true)) M < cA arr M := by
  unfold cA
  refine countP_lt _ _ i _ (List.mem_range.2 hi) (by rw [h]; rfl) (by simp [hs, isF]) (fun k hk => ?_)
  by_cases e : i = k
  · subst e; simp [hs, isF] at hk
  · rwa [Array.getElem?_setIfInBounds_ne e] at hk
theorem idx_inj {i j p q q1 : Nat} (hp : p < q1) (hq : q < q1) (h : i * q1 + p = j * q1 + q) : i = j ∧ p = q := by
  have h1 : (i * q1 + p) / q1 = i := by rw [Nat.mul_comm, Nat.mul_add_div (by omega), Nat.div_eq_of_lt hp]; omega
  have h2 : (j * q1 + q) / q1 = j := by rw [Nat.mul_comm, Nat.mul_add_div (by omega), Nat.div_eq_of_lt hq]; omega
  have : i = j := by rw [← h1, ← h2, h]
  subst this
  exact ⟨rfl, by omega⟩
theorem idx_lt {i p n q1 : Nat} (hi : i < n) (hp : p < q1) : i * q1 + p < n * q1 := by
  have : (i + 1) * q1 ≤ n * q1 := Nat.mul_le_mul_right _ hi
  rw [Nat.succ_mul] at this
  omega
/-- where an instruction at a place leads to -/
def succs (A : Nat → Nat → Ac) (t : Nat × Nat) : List (Nat × Nat) := match A t.2 t.1 with
  | .alt x y => [(x, t.2), (y, t.2)]
  | .go x => [(x, t.2)]
  | .cap x _ => [(x, t.2)]
  | .rune x => [(x, t.2 + 1)]
  | .fit _ => []
  | .stop => []
def isFit (A : Nat → Nat → Ac) (t : Nat × Nat) : Bool := match A t.2 t.1 with
  | .fit _ => true
  | _ => false
theorem rch_of_succ {A : Nat → Nat → Ac} {t u : Nat × Nat} (hu : u ∈ succs A t) (h : Rch A u.1 u.2) : Rch A t.1 t.2 := by
  unfold succs at hu
  split at hu
  · rename_i x y e
    simp at hu
    rcases hu with rfl | rfl
    · exact .altx x y e h
    · exact .alty x y e h
  · rename_i x e; simp at hu; subst hu; exact .go x e h
  · rename_i x a e; simp at hu; subst hu; exact .cap x a e h
  · rename_i x e; simp at hu; subst hu; exact .rune x e h
  · simp at hu
  · simp at hu
theorem rch_of_fit {A : Nat → Nat → Ac} {t : Nat × Nat} (h : isFit A t = true) : Rch A t.1 t.2 := by
  unfold isFit at h
  split at h
  · rename_i a e; exact .fit a e
  · cases h
/-- what the search knows -/
structure RK (A : Nat → Nat → Ac) (t0 : Nat × Nat) (st : List (Nat × Nat)) (m : Met) : Prop where
  snd : ∀ t ∈ st, Rch A t.1 t.2 → Rch A t0.1 t0.2
  cls : ∀ t : Nat × Nat, m t.1 t.2 = true → isFit A t = false ∧ ∀ u ∈ succs A t, m u.1 u.2 = true ∨ u ∈ st
  beg : m t0.1 t0.2 = true ∨ t0 ∈ st
theorem RK.init (A : Nat → Nat → Ac) (t0 : Nat × Nat) : RK A t0 [t0] (fun _ _ => false) := ⟨fun t ht h => by simp at ht; subst ht; exact h, fun t h => absurd h (by simp), .inr (by simp)⟩
theorem RK.old {A : Nat → Nat → Ac} {t0 t : Nat × Nat} {st : List (Nat × Nat)} {m : Met} (h : RK A t0 (t :: st) m) (hm : m t.1 t.2 = true) : RK A t0 st m := by
  refine ⟨fun u hu => h.snd u (List.mem_cons_of_mem _ hu), fun u hu => ⟨(h.cls u hu).1, fun v hv => ?_⟩, ?_⟩
  · rcases (h.cls u hu).2 v hv with h' | h'
    · exact .inl h'
    · rcases List.mem_cons.1 h' with rfl | h'
      · exact .inl hm
      · exact .inr h'
  · rcases h.beg with h' | h'
    · exact .inl h'
    · rcases List.mem_cons.1 h' with rfl | h'
      · exact .inl hm
      · exact .inr h'
theorem RK.new {A : Nat → Nat → Ac} {t0 t : Nat × Nat} {st P : List (Nat × Nat)} {m : Met} (h : RK A t0 (t :: st) m) (hf : isFit A t = false) (hP : ∀ u, u ∈ P ↔ u ∈ succs A t) : RK A t0 (P ++ st) (mark m t.1 t.2) := by
  have hmk : mark m t.1 t.2 t.1 t.2 = true := by simp [mark]
  have hmono : ∀ u : Nat × Nat, m u.1 u.2 = true → mark m t.1 t.2 u.1 u.2 = true := fun u hu => by unfold mark; split <;> simp [hu]
  have hold : ∀ u : Nat × Nat, (m u.1 u.2 = true ∨ u ∈ t :: st) → mark m t.1 t.2 u.1 u.2 = true ∨ u ∈ P ++ st := fun u hu => by
    rcases hu with h' | h'
    · exact .inl (hmono u h')
    · rcases List.mem_cons.1 h' with rfl | h'
      · exact .inl hmk
      · exact .inr (List.mem_append_right _ h')
  refine ⟨fun u hu hr => ?_, fun u hu => ?_, hold t0 h.beg⟩
  · rcases List.mem_append.1 hu with hu | hu
    · exact h.snd t List.mem_cons_self (rch_of_succ ((hP u).1 hu) hr)
    · exact h.snd u (List.mem_cons_of_mem _ hu) hr
  · by_cases e : u = t
    · subst e
      exact ⟨hf, fun v hv => .inr (List.mem_append_left _ ((hP v).2 hv))⟩
    · have hmu : m u.1 u.2 = true := by
        unfold mark at hu
        rw [if_neg (fun h' => e (by cases u; cases t; simp at h' ⊢; exact h'))] at hu
        exact hu
      exact ⟨(h.cls u hmu).1, fun v hv => hold v ((h.cls u hmu).2 v hv)⟩
theorem RK.yes {A : Nat → Nat → Ac} {t0 t : Nat × Nat} {st : List (Nat × Nat)} {m : Met} (h : RK A t0 (t :: st) m) (hf : isFit A t = true) : Rch A t0.1 t0.2 := h.snd t List.mem_cons_self (rch_of_fit hf)
theorem RK.no {A : Nat → Nat → Ac} {t0 : Nat × Nat} {m : Met} (h : RK A t0 [] m) : ¬ Rch A t0.1 t0.2 := by
  have key : ∀ {i j : Nat}, Rch A i j → m i j = true → False := by
    intro i j hr
    induction hr with
    | @fit i j a e => intro hm; have := (h.cls (i, j) hm).1; unfold isFit at this; simp only [e] at this; cases this
    | @altx i j x y e _ ih => intro hm; exact ih (((h.cls (i, j) hm).2 (x, j) (by simp [succs, e])).resolve_right (by simp))
    | @alty i j x y e _ ih => intro hm; exact ih (((h.cls (i, j) hm).2 (y, j) (by simp [succs, e])).resolve_right (by simp))
    | @go i j x e _ ih => intro hm; exact ih (((h.cls (i, j) hm).2 (x, j) (by simp [succs, e])).resolve_right (by simp))
    | @cap i j x a e _ ih => intro hm; exact ih (((h.cls (i, j) hm).2 (x, j) (by simp [succs, e])).resolve_right (by simp))
    | @rune i j x e _ ih => intro hm; exact ih (((h.cls (i, j) hm).2 (x, j + 1) (by simp [succs, e])).resolve_right (by simp))
  intro hr
  exact key hr (h.beg.resolve_right (by simp))
/-- the stack's cells, its top last -/
def stq (q1 : Nat) : List (Nat × Nat) → List Int
  | [] => []
  | t :: st => stq q1 st ++ [((t.1 * q1 + t.2 : Nat) : Int)]
theorem stq_len (q1 : Nat) (st : List (Nat × Nat)) : (stq q1 st).length = st.length := by
  induction st with
  | nil => rfl
  | cons t st ih => simp [stq, ih]
theorem stq_append (q1 : Nat) (P st : List (Nat × Nat)) : stq q1 (P ++ st) = stq q1 st ++ stq q1 P := by
  induction P with
  | nil => simp [stq]
  | cons t P ih => simp [stq, ih]
/-- the search's memory -/
structure RS (w0 w : World) (B0 gm x n q1 c : Nat) (ad : Option Addr) (s k : Int) (z : Option Addr) (cz : Nat) (st : List (Nat × Nat)) (m : Met) : Prop where
  row : w.ownsRow B0 3 1 (.slice z st.length cz) st.length (I64 (stq q1 st))
  met : ∃ arr : Array Value, w.heap[gm]? = some (.cells arr 4 (0, 0)) ∧ arr.size = n * q1 ∧ ∀ i p, i < n → p < q1 → arr[i * q1 + p]? = some (.bool (m i p))
  bx : w.heap[x]? = some (.cells #[.slice ad n c, .int .i64 s, .int .i64 k] 27 (0, 0))
  bl : Below B0 w0 w
  ok : ∀ t ∈ st, t.1 < n ∧ t.2 < q1
  lo : B0 ≤ gm ∧ B0 ≤ w.heap.size
section
variable {w0 w w' : World} {B0 gm x n q1 c cz : Nat} {ad z : Option Addr} {s k : Int} {st : List (Nat × Nat)} {t : Nat × Nat} {m : Met}
theorem RS.kept (h : RS w0 w B0 gm x n q1 c ad s k z cz st m) (hb : Below w.heap.size w w') : RS w0 w' B0 gm x n q1 c ad s k z cz st m := by
  obtain ⟨arr, h1, h2⟩ := h.met
  exact ⟨row_kept h.row (fun b hb' => hb.block b (h.row.lt b hb').2), ⟨arr, (hb.block gm (Array.getElem?_eq_some_iff.1 h1).1).trans h1, h2⟩, (hb.block x (Array.getElem?_eq_some_iff.1 h.bx).1).trans h.bx, h.bl.trans (Joins.below_le hb h.lo.2), h.ok, by have := hb.size; have := h.lo; omega⟩
theorem RS.pop (h : RS w0 w B0 gm x n q1 c ad s k z cz (t :: st) m) : RS w0 w B0 gm x n q1 c ad s k z cz st m := by
  have hr := h.row
  simp only [stq, List.length_cons, I64, List.map_append] at hr
  exact ⟨own_pop hr (by simp [stq_len]), h.met, h.bx, h.bl, fun u hu => h.ok u (List.mem_cons_of_mem _ hu), h.lo⟩
theorem RS.metAt (h : RS w0 w B0 gm x n q1 c ad s k z cz st m) {i p : Nat} (hi : i < n) (hp : p < q1) : w.cell? ⟨gm, i * q1 + p, none⟩ = some (.bool (m i p)) ∧ w.frozen? ⟨gm, i * q1 + p, none⟩ = false := by
  obtain ⟨arr, h1, h2, h3⟩ := h.met
  exact ⟨by rw [Joins.cell_of_block h1]; exact h3 i p hi hp, Joins.unfrozen_of_block h1 _⟩
theorem RS.mark (h : RS w0 w B0 gm x n q1 c ad s k z cz st m) {i p : Nat} (hi : i < n) (hp : p < q1) (hm : m i p = false) : RS w0 (w.setCell ⟨gm, i * q1 + p, none⟩ (.bool true)) B0 gm x n q1 c ad s k z cz st (Go.Proofs.Ytaoagcnbdfklnaa.mark m i p) ∧ cW (w.setCell ⟨gm, i * q1 + p, none⟩ (.bool true)) gm (n * q1) < cW w gm (n * q1) := by
  obtain ⟨arr, h1, h2, h3⟩ := h.met
  have hk : ∀ b, b ≠ gm → (w.setCell ⟨gm, i * q1 + p, none⟩ (.bool true)).heap[b]? = w.heap[b]? := fun b hb => Below.heap_setCell _ _ _ _ hb
  have hnew := Joins.block_setCell (i := i * q1 + p) h1 (.bool true)
  have hlt := idx_lt (n := n) hi hp
  refine ⟨⟨row_kept h.row (fun b hb => hk b (fun e => by subst e; exact own_ne h.row h1 (by decide) hb)), ⟨_, hnew, by simpa using h2, fun j q hj hq => ?_⟩, (hk x (fun e => by have := h.bx; rw [e, h1] at this; simp at this)).trans h.bx, h.bl.setCell (p := ⟨gm, i * q1 + p, none⟩) h.lo.1 _, h.ok, by simpa [World.setCell] using h.lo⟩, ?_⟩
  · unfold Go.Proofs.Ytaoagcnbdfklnaa.mark
    by_cases e : j = i ∧ q = p
    · obtain ⟨rfl, rfl⟩ := e
      simp [h2, hlt]
    · rw [if_neg e, Array.getElem?_setIfInBounds_ne (fun e' => e (by have := idx_inj hp hq e'; exact ⟨this.1.symm, this.2.symm⟩))]
      exact h3 j q hj hq
  · rw [cW_of h1, cW_of hnew]
    exact cA_set hlt (by omega) (by rw [h3 i p hi hp, hm])
/-- pairs are put onto the stack -/
theorem RS.push {V w7 : World} {y1 : Option Addr} {y3 : Nat} {ts : List (Nat × Nat)} (h : RS w0 w B0 gm x n q1 c ad s k z cz st m) (hb : Below w.heap.size w V) (hf : Frm V w7 (.slice z st.length cz) (.slice y1 (st.length + ts.length) y3)) (hr : w7.ownsRow B0 3 1 (.slice y1 (st.length + ts.length) y3) (st.length + ts.length) (I64 (stq q1 st) ++ I64 (stq q1 ts))) (hok : ∀ t ∈ ts, t.1 < n ∧ t.2 < q1) :
    RS w0 w7 B0 gm x n q1 c ad s k y1 y3 (ts ++ st) m ∧ cW w7 gm (n * q1) = cW w gm (n * q1) := by
  obtain ⟨arr, h1, h2⟩ := h.met
  have hs := hb.size
  have hkk : ∀ (b : Nat) (cs : Array Value) (t : TypeId) (fr : Nat × Nat), w.heap[b]? = some (.cells cs t fr) → t ≠ 3 → w7.heap[b]? = some (.cells cs t fr) := fun b cs t fr hb' ht => by
    have hbl := (Array.getElem?_eq_some_iff.1 hb').1
    exact (hf.block b (by omega) (own_ne h.row hb' ht)).trans ((hb.block b hbl).trans hb')
  refine ⟨⟨by rw [stq_append, List.length_append, Nat.add_comm]; show w7.ownsRow _ _ _ _ _ (List.map _ _); rw [List.map_append]; exact hr, ⟨arr, hkk _ _ _ _ h1 (by decide), h2⟩, hkk _ _ _ _ h.bx (by decide), ⟨hf.os.trans (hb.os.trans h.bl.os), hf.tape.trans (hb.tape.trans h.bl.tape), hf.output.trans (hb.output.trans h.bl.output), ?_, fun b hb' => ?_⟩, fun t ht => (List.mem_append.1 ht).elim (hok t) (h.ok t), ⟨h.lo.1, ?_⟩⟩, ?_⟩
  · have := hf.size; have := h.bl.size; omega
  · exact (hf.block b (by have := h.lo; omega) (fun h' => by have := (h.row.lt b h').1; omega)).trans ((hb.block b (by have := h.lo; omega)).trans (h.bl.block b hb'))
  · have := hf.size; have := h.lo; omega
  · rw [cW_of h1, cW_of (hkk _ _ _ _ h1 (by decide))]
end
theorem info4 : (Try.prog.info? 4).map (fun i => (i.zero, i.size, i.bytes)) = some (some (.bool false), 1, 1) := by kernel_rfl
theorem makeB (c : Nat) (hc : c ≤ 100000000) (w : World) : (Instr.makeSlice 64 (.int .i64 (c : Int)) (.int .i64 (c : Int))).run Try.prog w = .ok (.slice (some ⟨w.heap.size, 0, none⟩) c c) (w.alloc (.cells (madeCells #[.bool false] c) 4)) := by
  obtain ⟨i0, hi0, hz0, hz1, hz2⟩ := info_parts info4
  have h := run_make (P := Try.prog) w 64 4 i0 (.bool false) Try.underlying64 hi0 hz0 .i64 .i64 c c (by omega) (by omega) (by rw [hz2]; omega) (by omega)
  simp only [Int.toNat_natCast, hz1, Nat.mul_one] at h
  exact h
theorem and_key : ∀ (b1 b2 b3 b4 b5 : Bool) (a : Fin 6), decide (bits .and .i64 (sumB b1 b2 b3 b4 b5 6) ((2 ^ a.val : Nat) : Int) > 0) = holdsB ((2 ^ a.val : Nat) : Int) (sumB b1 b2 b3 b4 b5 6) := by decide +kernel
theorem assert_and (a : Int) (h : assertB a = true) (tx : List Int) (p : Nat) : decide (bits .and .i64 (atP tx p) a > 0) = holdsB a (atP tx p) := by
  have hk := and_key (begB p) (endB tx p) (blB tx p) (elB tx p) (edgeB tx p)
  unfold assertB at h
  simp only [Bool.or_eq_true, beq_iff_eq] at h
  rcases h with ((((rfl | rfl) | rfl) | rfl) | rfl) | rfl
  · exact hk 0
  · exact hk 1
  · exact hk 2
  · exact hk 3
  · exact hk 4
  · exact hk 5
end Go.Proofs.Ytaoagcnbdfklnaa
