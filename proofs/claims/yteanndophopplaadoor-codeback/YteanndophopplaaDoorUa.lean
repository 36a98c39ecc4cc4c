/- HELPERS: trees that lie in some blocks; rows of them. -/
import Derived.Test.YteanndophopplaaDoorTh
import Derived.Test.YteanndophopplaaDoorBh
namespace Go.Proofs.YteanndophopplaaDoor
open Go.RowKit
set_option linter.unusedVariables false
set_option linter.unusedSimpArgs false
/-- a row of ranges in blocks of A -/
def RP (w : World) (A : Nat → Prop) (ad : Option Addr) (R : List (Int × Int)) : Prop :=
  R ≠ [] → ∃ b o, ad = some ⟨b, o, none⟩ ∧ A b ∧ ∀ i (hi : i < R.length), w.cell? ⟨b, o + i * 2, none⟩ = some (.int .i64 R[i].1) ∧ w.cell? ⟨b, o + i * 2 + 1, none⟩ = some (.int .i64 R[i].2)
/-- a tree lies in blocks of A -/
inductive TP (w : World) (A : Nat → Prop) : Nv → Tn → Prop
  | mk {N : Nv} {R : List (Int × Int)} {ts : List Tn} {ND : Nat → Nv} (ok : N.ok) (hr : N.r2 = R.length) (hR : RP w A N.r1 R) (hRk : ∀ x ∈ R, I64ok x.1 ∧ I64ok x.2) (hs : N.s2 = ts.length)
      (hS : 0 < ts.length → ∃ b o, N.s1 = some ⟨b, o, none⟩ ∧ A b ∧ ∀ i, i < ts.length → N9 w b o i (ND i)) (hk : ∀ i (hi : i < ts.length), TP w A (ND i) ts[i]) :
      TP w A N (.mk N.k R N.a2 ts N.a4 N.a5 N.a6 N.a7 N.a8)
theorem RP.kept {w w' : World} {A A' : Nat → Prop} {ad : Option Addr} {R : List (Int × Int)} (h : RP w A ad R) (hk : ∀ b, A b → w'.heap[b]? = w.heap[b]?) (hA : ∀ b, A b → A' b) : RP w' A' ad R := fun hn => by
  obtain ⟨b, o, h1, h2, h3⟩ := h hn
  exact ⟨b, o, h1, hA b h2, fun i hi => ⟨(cell_eq (hk b h2) _).trans (h3 i hi).1, (cell_eq (hk b h2) _).trans (h3 i hi).2⟩⟩
theorem TP.kept {w w' : World} {A A' : Nat → Prop} {N : Nv} {t : Tn} (h : TP w A N t) (hk : ∀ b, A b → w'.heap[b]? = w.heap[b]?) (hA : ∀ b, A b → A' b) : TP w' A' N t := by
  induction h with
  | mk ok hr hR hRk hs hS hkk ih =>
    refine .mk ok hr (hR.kept hk hA) hRk hs (fun hp => ?_) ih
    obtain ⟨b, o, h1, h2, h3⟩ := hS hp
    exact ⟨b, o, h1, hA b h2, fun i hi => (h3 i hi).kept (hk b h2)⟩
theorem TI.tp {w : World} {B : Nat} {N : Nv} {t : Tn} (h : TI w B N t) : TP w (fun b => b < B) N t := by
  induction h with
  | mk ok hr hR hRk hs hS hkk ih => exact .mk ok hr hR hRk hs hS ih
theorem TP.ti {w : World} {A : Nat → Prop} {B : Nat} {N : Nv} {t : Tn} (h : TP w A N t) (hA : ∀ b, A b → b < B) : TI w B N t := by
  induction h with
  | mk ok hr hR hRk hs hS hkk ih =>
    refine .mk ok hr (fun hn => ?_) hRk hs (fun hp => ?_) ih
    · obtain ⟨b, o, h1, h2, h3⟩ := hR hn; exact ⟨b, o, h1, hA b h2, h3⟩
    · obtain ⟨b, o, h1, h2, h3⟩ := hS hp; exact ⟨b, o, h1, hA b h2, h3⟩
theorem TP.ok {w : World} {A : Nat → Prop} {N : Nv} {t : Tn} (h : TP w A N t) : N.ok := by cases h; assumption
theorem flat9 (MS : List Nv) : ∀ (j k : Nat) (hj : j < MS.length), k < 9 → (MS.flatMap Nv.cs)[j * 9 + k]? = (Nv.cs MS[j])[k]? := by
  induction MS with
  | nil => intro j k hj; simp at hj
  | cons M MS ih =>
    intro j k hj hk
    rw [List.flatMap_cons]
    have e9 : (Nv.cs M).length = 9 := rfl
    cases j with
    | zero => rw [List.getElem?_append_left (by rw [e9]; omega)]; simp
    | succ j =>
      rw [List.getElem?_append_right (by rw [e9]; omega)]
      have := ih j k (by simpa using hj) hk
      rw [e9, show (j + 1) * 9 + k - 9 = j * 9 + k by omega, this]
      rfl
theorem flat9_len (MS : List Nv) : (MS.flatMap Nv.cs).length = MS.length * 9 := by
  induction MS with
  | nil => rfl
  | cons M MS ih =>
    have e9 : (Nv.cs M).length = 9 := rfl
    rw [List.flatMap_cons, List.length_append, ih, e9, List.length_cons]
    omega
/-- a row of trees that grows: their node's cells lie in it, what is below them in blocks of A -/
structure RowN (base B : Nat) (w : World) (uv : Value) (MS : List Nv) (us : List Tn) (A : Nat → Prop) : Prop where
  row : w.ownsRow base 39 9 uv MS.length (MS.flatMap Nv.cs)
  len : MS.length = us.length
  tp : ∀ j (h : j < us.length) (h' : j < MS.length), TP w A MS[j] us[j]
  inA : ∀ b, b < B → A b
  low : ∀ b, A b → b < w.heap.size
  out : ∀ b, uv.ownBlock = some b → ¬ A b
/-- such a row as the list of a node -/
theorem RowN.node {base B : Nat} {w : World} {uv : Value} {MS : List Nv} {us : List Tn} {A : Nat → Prop} (h : RowN base B w uv MS us A) {N : Nv} {R : List (Int × Int)} (ok : N.ok) (hr : N.r2 = R.length) (hR : RP w A N.r1 R) (hRk : ∀ x ∈ R, I64ok x.1 ∧ I64ok x.2) (hu : uv = .slice N.s1 N.s2 N.s3) :
    TP w (fun b => A b ∨ uv.ownBlock = some b) N (.mk N.k R N.a2 us N.a4 N.a5 N.a6 N.a7 N.a8) := by
  have hs2 : N.s2 = us.length := by
    rcases Joins.ownsRow_forms h.row with ⟨e, h0⟩ | ⟨b, cap, e⟩
    · rw [e] at hu
      simp only [Value.slice.injEq] at hu
      have := h.len
      omega
    · rw [e] at hu
      simp only [Value.slice.injEq] at hu
      have := h.len
      omega
  refine .mk (ND := fun i => MS.getD i default) ok hr (hR.kept (fun _ _ => rfl) (fun b hb => .inl hb)) hRk hs2 (fun hp => ?_) (fun i hi => ?_)
  · rcases Joins.ownsRow_forms h.row with ⟨e, h0⟩ | ⟨b, cap, e⟩
    · have := h.len; omega
    · rw [e] at hu
      simp only [Value.slice.injEq] at hu
      refine ⟨b, 0, hu.1.symm, .inr (by rw [e]; rfl), fun i hi => ?_⟩
      have hl := h.len
      have hrow := h.row
      rw [e] at hrow
      have c : ∀ k, k < 9 → w.cell? ⟨b, 0 + i * 9 + k, none⟩ = (Nv.cs (MS.getD i default))[k]? := fun k hk => by
        rw [Nat.zero_add, hrow.cellAt (i * 9 + k) (by omega), flat9 MS i k (by omega) hk]
        simp [List.getD_eq_getElem?_getD, List.getElem?_eq_getElem (show i < MS.length by omega)]
      exact ⟨c 0 (by omega), c 1 (by omega), c 2 (by omega), c 3 (by omega), c 4 (by omega), c 5 (by omega), c 6 (by omega), c 7 (by omega), c 8 (by omega)⟩
  · have hl := h.len
    rw [List.getD_eq_getElem?_getD, List.getElem?_eq_getElem (show i < MS.length by omega)]
    exact (h.tp i hi (by omega)).kept (fun _ _ => rfl) (fun b hb => .inl hb)
theorem RowN.nil (base B : Nat) (w : World) (hB : B ≤ w.heap.size) : RowN base B w (.slice none 0 0) [] [] (fun b => b < B) :=
  ⟨World.ownsRow_nil _ _ _ _, rfl, fun j h => by simp at h, fun b hb => hb, fun b hb => by omega, fun b hb => by cases hb⟩
/-- one more -/
theorem RowN.next {base B : Nat} {w w' w2 w3 : World} {uv v' : Value} {MS : List Nv} {us : List Tn} {A : Nat → Prop} (h : RowN base B w uv MS us A) {M : Nv} {u : Tn} (hw : w.heap.size ≤ w'.heap.size) (hk1 : ∀ b, b < w.heap.size → w'.heap[b]? = w.heap[b]?) (hb : Below w'.heap.size w' w2) (hM : TP w2 (fun b => b < B ∨ w'.heap.size ≤ b ∧ b < w2.heap.size) M u) (o : Obj)
    (ho : w3.ownsRow base 39 9 v' (MS.length + 1) (MS.flatMap Nv.cs ++ Nv.cs M)) (hm : Moved (w2.alloc o) w3 uv v') : RowN base B w3 v' (MS ++ [M]) (us ++ [u]) (fun b => A b ∨ w'.heap.size ≤ b ∧ b < w2.heap.size) := by
  have hub : ∀ k, uv.ownBlock = some k → k < w.heap.size := fun k hk => (h.row.lt k hk).2
  have s2 := hb.size
  have e3 : ∀ k, k < w2.heap.size → uv.ownBlock ≠ some k → w3.heap[k]? = w2.heap[k]? := fun k hk hn => by
    have e : (w2.alloc o).heap[k]? = w2.heap[k]? := heap_alloc_old w2 o hk
    rcases hm with ⟨_, h⟩ | ⟨_, h⟩
    · exact (h.block k (by simp; omega) (fun h => hn h.symm)).trans e
    · exact (h.block k (by simp; omega) (by simp)).trans e
  have hs3 : w2.heap.size ≤ w3.heap.size := by rcases hm with ⟨_, h⟩ | ⟨_, h⟩ <;> (have := h.size; simp at this; omega)
  have hout : ∀ b, (A b ∨ w'.heap.size ≤ b ∧ b < w2.heap.size) → uv.ownBlock ≠ some b := fun b hA e => by
    rcases hA with hA | hA
    · exact h.out b e hA
    · have := hub b e; omega
  have hlow : ∀ b, (A b ∨ w'.heap.size ≤ b ∧ b < w2.heap.size) → b < w2.heap.size := fun b hA => by
    rcases hA with hA | hA
    · have := h.low b hA; omega
    · omega
  refine ⟨?_, by simp [h.len], fun j hj hj' => ?_, fun b hb => .inl (h.inA b hb), fun b hA => by have := hlow b hA; omega, fun b hb hA => ?_⟩
  · rw [List.length_append, List.flatMap_append]
    simpa using ho
  · by_cases hjl : j < us.length
    · have hl := h.len
      rw [List.getElem_append_left (by omega), List.getElem_append_left hjl]
      exact (h.tp j hjl (by omega)).kept (fun b hA => (e3 b (hlow b (.inl hA)) (hout b (.inl hA))).trans ((hb.block b (by have := h.low b hA; omega)).trans (hk1 b (h.low b hA)))) (fun b hA => .inl hA)
    · have hl := h.len
      simp only [List.length_append, List.length_cons, List.length_nil] at hj hj'
      have e : j = us.length := by omega
      subst e
      rw [List.getElem_append_right (by omega), List.getElem_append_right (Nat.le_refl _)]
      simp only [Nat.sub_self, hl, List.getElem_cons_zero]
      refine hM.kept (fun b hA => ?_) (fun b hA => ?_)
      · rcases hA with hA | hA
        · exact e3 b (by have := h.low b (h.inA b hA); omega) (hout b (.inl (h.inA b hA)))
        · exact e3 b hA.2 (hout b (.inr hA))
      · rcases hA with hA | hA
        · exact .inl (h.inA b hA)
        · exact .inr hA
  · rcases hm with ⟨h0, _⟩ | ⟨h0, _⟩
    · rw [h0] at hb
      exact hout b hA hb
    · rw [h0] at hb
      simp at hb
      have := hlow b hA
      omega
end Go.Proofs.YteanndophopplaaDoor
