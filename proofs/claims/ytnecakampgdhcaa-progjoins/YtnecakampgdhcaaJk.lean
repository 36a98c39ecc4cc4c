/- HELPERS: a row of lent programs. -/
import Derived.Test.YtnecakampgdhcaaOw
import Derived.Test.YtnecakampgdhcaaCe
namespace Go.Proofs.Ytnecakampgdhcaa
open Go.RowKit
set_option linter.unusedVariables false
set_option linter.unusedSimpArgs false
/-- a lent program's data -/
structure Dt where
  ad : Option Addr
  n : Nat
  c : Nat
  s : Int
  k : Int
  MS : List Iv
  lo : Nat
  hi : Nat
instance : Inhabited Dt := ⟨⟨none, 0, 0, 0, 0, [], 0, 0⟩⟩
abbrev Dt.cs (d : Dt) : List Value := [.slice d.ad d.n d.c, .int .i64 d.s, .int .i64 d.k]
def Dt.blk (d : Dt) (b : Nat) : Prop := (Value.slice d.ad (d.n + 2) d.c).ownBlock = some b ∨ ∃ j, (d.MS.getD j default).rv.ownBlock = some b
theorem flat3 (D : List Dt) (R : List Value) : ∀ (j k : Nat) (hj : j < D.length), k < 3 → (D.flatMap Dt.cs ++ R)[j * 3 + k]? = (Dt.cs (D.getD j default))[k]? := by
  induction D with
  | nil => intro j k hj; simp at hj
  | cons M D ih =>
    intro j k hj hk
    rw [List.flatMap_cons, List.append_assoc]
    cases j with
    | zero => rw [List.getElem?_append_left (by simp; omega)]; simp
    | succ j =>
      rw [List.getElem?_append_right (by simp; omega)]
      have := ih j k (by simpa using hj) hk
      simp only [List.length_cons, List.length_nil, List.getD_cons_succ]
      rw [← this]
      congr 1
      omega
theorem flat3_len (D : List Dt) : (D.flatMap Dt.cs).length = D.length * 3 := by
  induction D with
  | nil => rfl
  | cons M D ih => rw [List.flatMap_cons, List.length_append, ih]; simp; omega
theorem flat3_last (D : List Dt) (v0 v1 v2 : Value) : (D.flatMap Dt.cs ++ [v0, v1, v2])[D.length * 3 + 1]? = some v1 := by
  rw [List.getElem?_append_right (by rw [flat3_len]; omega), flat3_len]
  simp
/-- one lent program in memory -/
structure OD (w : World) (B : Nat) (d : Dt) (P : Pg) : Prop where
  pl : PL w d.lo d.ad d.n d.c P.l d.MS
  s : d.s = P.s
  k : d.k = P.k
  sm : d.n * 56 ≤ 140737488351232
  blo : B ≤ d.lo
  hi : ∀ b, d.blk b → b < d.hi
  hs : d.hi ≤ w.heap.size
theorem PL.blo {w : World} {base n c : Nat} {ad : Option Addr} {l : List In} {MS : List Iv} (h : PL w base ad n c l MS) (b : Nat) (hb : (Value.slice ad (n + 2) c).ownBlock = some b ∨ ∃ j, (MS.getD j default).rv.ownBlock = some b) : base ≤ b ∧ b < w.heap.size := by
  rcases hb with hb | ⟨j, hb⟩
  · exact h.row.lt b hb
  · by_cases hj : j < MS.length
    · have hO := h.lo j (by have := h.len; have := h.lms; omega)
      exact hO.rr.lt b ((ob_len _ _ _ _ _).trans hb)
    · have : MS.getD j default = default := by simp [List.getD_eq_getElem?_getD, List.getElem?_eq_none (by omega : MS.length ≤ j)]
      rw [this] at hb
      cases hb
theorem PL.kept {w w' : World} {base n c : Nat} {ad : Option Addr} {l : List In} {MS : List Iv} (h : PL w base ad n c l MS) (hk : ∀ b, ((Value.slice ad (n + 2) c).ownBlock = some b ∨ ∃ j, (MS.getD j default).rv.ownBlock = some b) → w'.heap[b]? = w.heap[b]?) : PL w' base ad n c l MS :=
  ⟨h.len, h.lms, row_kept h.row (fun b hb' => hk b (.inl hb')), fun j hj => (h.lo j hj).kept (fun b hb => hk b (.inr ⟨j, hb⟩)), h.pw⟩
theorem OD.kept {w w' : World} {B : Nat} {d : Dt} {P : Pg} (h : OD w B d P) (hs : w.heap.size ≤ w'.heap.size) (hk : ∀ b, d.lo ≤ b → b < d.hi → d.blk b → w'.heap[b]? = w.heap[b]?) : OD w' B d P :=
  ⟨h.pl.kept (fun b hb => hk b (h.pl.blo b hb).1 (h.hi b hb) hb), h.s, h.k, h.sm, h.blo, h.hi, Nat.le_trans h.hs hs⟩
theorem OD.below {w w' : World} {B : Nat} {d : Dt} {P : Pg} (h : OD w B d P) (hb : Below w.heap.size w w') : OD w' B d P := h.kept hb.size (fun b _ h1 _ => hb.block b (by have := h.hs; omega))
/-- a block of another kind is none of its -/
theorem OD.ne {w : World} {B : Nat} {d : Dt} {P : Pg} (h : OD w B d P) {b x : Nat} (hb : d.blk b) {cs : Array Value} {t : TypeId} {fr : Nat × Nat} (hx : w.heap[x]? = some (.cells cs t fr)) (h1 : t ≠ 51) (h2 : t ≠ 49) : b ≠ x := by
  intro e
  subst e
  rcases hb with hb | ⟨j, hb⟩
  · exact own_ne h.pl.row hx h1 hb
  · by_cases hj : j < d.MS.length
    · have hO := h.pl.lo j (by have := h.pl.len; have := h.pl.lms; omega)
      exact own_ne hO.rr hx h2 ((ob_len _ _ _ _ _).trans hb)
    · have : d.MS.getD j default = default := by simp [List.getD_eq_getElem?_getD, List.getElem?_eq_none (by omega : d.MS.length ≤ j)]
      rw [this] at hb
      cases hb
/-- the lent programs from the f-th on -/
structure OWN (w : World) (B : Nat) (D : List Dt) (L : List Pg) (f : Nat) : Prop where
  od : ∀ j, j < D.length → f ≤ j → OD w B (D.getD j default) (L.getD j default)
  ap : ∀ j j', j < j' → j' < D.length → (D.getD j default).hi ≤ (D.getD j' default).lo
theorem OWN.below {w w' : World} {B : Nat} {D : List Dt} {L : List Pg} {f : Nat} (h : OWN w B D L f) (hb : Below w.heap.size w w') : OWN w' B D L f := ⟨fun j hj hf => (h.od j hj hf).below hb, h.ap⟩
theorem getD_snoc (D : List Dt) (d : Dt) (j : Nat) (hj : j < D.length + 1) : (D ++ [d]).getD j default = if j = D.length then d else D.getD j default := by
  by_cases e : j = D.length
  · subst e; simp [List.getD_eq_getElem?_getD]
  · rw [if_neg e, List.getD_eq_getElem?_getD, List.getElem?_append_left (by omega), List.getD_eq_getElem?_getD]
theorem OWN.push {w w' : World} {B : Nat} {D : List Dt} {L : List Pg} {d : Dt} (h : OWN w B D L 0) (hs : w.heap.size ≤ w'.heap.size) (hk : ∀ j, j < D.length → ∀ b, b < w.heap.size → (D.getD j default).blk b → w'.heap[b]? = w.heap[b]?) (hd : OD w' B d (L.getD D.length default)) (hlo : w.heap.size ≤ d.lo) : OWN w' B (D ++ [d]) L 0 := by
  refine ⟨fun j hj hf => ?_, fun j j' hjj hj' => ?_⟩
  · rw [List.length_append, List.length_cons, List.length_nil] at hj
    rw [getD_snoc D d j hj]
    by_cases e : j = D.length
    · subst e; rw [if_pos rfl]; exact hd
    · rw [if_neg e]
      have hO := h.od j (by omega) (Nat.zero_le _)
      exact hO.kept hs (fun b _ h1 h2 => hk j (by omega) b (by have := hO.hs; omega) h2)
  · rw [List.length_append, List.length_cons, List.length_nil] at hj'
    rw [getD_snoc D d j (by omega), getD_snoc D d j' hj', if_neg (by omega)]
    by_cases e : j' = D.length
    · rw [if_pos e]
      have := (h.od j (by omega) (Nat.zero_le _)).hs
      omega
    · rw [if_neg e]; exact h.ap j j' hjj (by omega)
theorem res_small (L : List Pg) : (resI L).length ≤ 20000 ∧ ∀ I ∈ resI L, I.R.length ≤ 20000 := by
  by_cases h : joinC L = 0
  · rw [(res_ok h).1, joinI_len]
    have h1 : ¬ (L.length < 1 ∨ 100 < L.length) := fun h' => by rw [joinC_arg h'] at h; omega
    have h2 : allMay L = true := by
      cases g : allMay L with
      | true => rfl
      | false => rw [joinC_prog h1 g] at h; omega
    have h3 : ¬ 20000 < ahead L L.length := fun h' => by rw [joinC_big h1 h2 h'] at h; omega
    refine ⟨by omega, fun I hI => ?_⟩
    unfold joinI at hI
    rcases List.mem_append.1 hI with hI | hI
    · simp only [altsL, List.mem_map] at hI
      obtain ⟨i, _, rfl⟩ := hI
      simp [altI]
    · simp only [movedL, List.mem_flatMap, List.mem_map] at hI
      obtain ⟨i, hi, J, hJ, rfl⟩ := hI
      have hiL : i < L.length := by simpa using hi
      have := ok_len ((may_ok (mayTo_all h2 i hiL)).2.2.2.2.2 J hJ)
      simp only [mvI]
      omega
  · rw [(res_no h).1]
    exact ⟨by simp, fun I hI => by simp at hI⟩
theorem info24 : (Try.prog.info? 24).map (fun i => (i.zero, i.size, i.bytes)) = some (some (.agg #[.slice none 0 0, .int .i64 0, .int .i64 0]), 3, 40) := by kernel_rfl
end Go.Proofs.Ytnecakampgdhcaa
