/- HELPERS: what RunesEncodes asks: Encode and the document's Encode in one form; a row of ints of the call's own. -/
import Derived.Test.YtjglehklfdhgaaaDoorOwnB
import Derived.Test.YtjglehklfdhgaaaDoorRef
import Derived.Test.YtjglehklfdhgaaaDoorAwake
import Derived.Laws.CopyOwn
import Derived.Deep.Onto
namespace Go.Proofs.YtjglehklfdhgaaaDoor
open Go.RowKit Go.Mx
set_option linter.unusedVariables false
set_option linter.unusedSimpArgs false
def encC (l : List Int) : Int := if 4194304 < l.length then 2 else if l.all dom = true then 0 else 10
def encB (l : List Int) : List Int := if 4194304 < l.length then [] else if l.all dom = true then encL l else []
/-- an answer of Encode -/
def Out (w w' : World) (e : Ending) (l : List Int) : Prop :=
  ∃ ad m cap, e = .returned (.tuple #[.slice ad m cap, .int .i64 (encC l)]) ∧ m = (encB l).length ∧ w'.ownsRow w.heap.size 5 1 (.slice ad m cap) m (U8 (encB l)) ∧ Below w.heap.size w w'
theorem encB_len (l : List Int) : (encB l).length ≤ 16777216 := by
  unfold encB
  split
  · simp
  · split
    · have := encL_len l; omega
    · simp
theorem out_nil {w w' : World} {e : Ending} {l : List Int} (c : Int) (hc : encC l = c) (hB : encB l = []) (he : e = .returned (.tuple #[.slice none 0 0, .int .i64 c])) (hb : Below w.heap.size w w') : Out w w' e l :=
  ⟨none, 0, 0, by rw [hc]; exact he, by rw [hB]; rfl, by rw [hB]; exact World.ownsRow_nil _ _ _ _, hb⟩
theorem encode_out (l : List Int) (ad : Option Addr) (n cap : Nat) (w : World) (hn : n = l.length) (hl : IntsAt w.heap.size w (.slice ad n cap) l) (hT : Tabs w) (h2 : 2 ≤ w.heap.size) :
    Calls Tryd.prog 19 #[.slice ad n cap] w fun e w' => Out w w' e l := by
  refine (encode19 l ad n cap w hn hl hT h2).mono fun e w' h => ?_
  obtain ⟨hb, h⟩ := h
  split at h
  · rename_i h1
    exact out_nil 2 (by unfold encC; rw [if_pos h1]) (by unfold encB; rw [if_pos h1]) h hb
  · rename_i h1
    split at h
    · rename_i h3
      obtain ⟨g, cp, he, ho⟩ := h
      have e1 : encC l = 0 := by unfold encC; rw [if_neg h1, if_pos h3]
      have e2 : encB l = encL l := by unfold encB; rw [if_neg h1, if_pos h3]
      refine ⟨_, (encL l).length, cp, by rw [e1]; exact he, by rw [e2], by rw [e2]; exact ho, hb⟩
    · rename_i h3
      exact out_nil 10 (by unfold encC; rw [if_neg h1, if_neg h3]) (by unfold encB; rw [if_neg h1, if_neg h3]) h hb
theorem ref_out (l : List Int) (ad : Option Addr) (n cap : Nat) (w : World) (hn : n = l.length) (hl : IntsAt w.heap.size w (.slice ad n cap) l) :
    Calls Tryd.prog 20 #[.slice ad n cap] w fun e w' => Out w w' e l := by
  refine (refenc20 l ad n cap w hn hl).mono fun e w' h => ?_
  obtain ⟨hb, h⟩ := h
  split at h
  · rename_i h1
    exact out_nil 2 (by unfold encC; rw [if_pos h1]) (by unfold encB; rw [if_pos h1]) h hb
  · rename_i h1
    split at h
    · rename_i h3
      obtain ⟨v, he, ho⟩ := h
      have e1 : encC l = 0 := by unfold encC; rw [if_neg h1, if_pos h3]
      have e2 : encB l = encL l := by unfold encB; rw [if_neg h1, if_pos h3]
      rcases Joins.ownsRow_forms ho with ⟨rfl, h0⟩ | ⟨g, cap', rfl⟩
      · exact ⟨none, 0, 0, by rw [e1]; exact he, by rw [e2, h0], by rw [e2]; rw [h0] at ho; exact ho, hb⟩
      · exact ⟨_, _, cap', by rw [e1]; exact he, by rw [e2], by rw [e2]; exact ho, hb⟩
    · rename_i h3
      exact out_nil 10 (by unfold encC; rw [if_neg h1, if_neg h3]) (by unfold encB; rw [if_neg h1, if_neg h3]) h hb
/-- string of bytes that the call owns -/
theorem str_own {w : World} {B : Nat} {ad : Option Addr} {m cap : Nat} {zs : List Int} (hm : m = zs.length) (h : w.ownsRow B 5 1 (.slice ad m cap) m (U8 zs)) : (convert 25 9 (.slice ad m cap)).run Tryd.prog w = .ok (.string (strOfNums zs)) w := by
  rcases Joins.ownsRow_forms h with ⟨he, h0⟩ | ⟨g, cap', he⟩
  · simp only [Value.slice.injEq] at he
    obtain ⟨rfl, -, rfl⟩ := he
    have hz : zs = [] := List.eq_nil_of_length_eq_zero (by omega)
    subst hz h0
    simp [convert, run_underlying Tryd.underlying25, run_underlying Tryd.underlying9, run_underlying Tryd.underlying5]
    rfl
  · simp only [Value.slice.injEq, true_and] at he
    obtain ⟨rfl, rfl⟩ := he
    exact run_convert_bytes_arg (P := Tryd.prog) w 25 5 Tryd.underlying25 Tryd.underlying5 g 0 m cap zs hm.symm (fun k hk => by
      rw [Nat.zero_add, h.cellAt k (by omega)]
      simp [show k < zs.length by omega]) 9 Tryd.underlying9
/-- the block g is a row of ints of the call's own -/
def RowG (w : World) (g : Nat) (l : List Int) : Prop := w.heap[g]? = some (.cells (I64 l).toArray 3 (0, 0))
theorem RowG.cell {w : World} {g : Nat} {l : List Int} (h : RowG w g l) (k : Nat) (hk : k < l.length) : w.cell? ⟨g, k, none⟩ = some (.int .i64 (l.getD k 0)) := by
  rw [cell_of_row w g k _ 3 (0, 0) h]
  simp [hk]
theorem RowG.frozen {w : World} {g : Nat} {l : List Int} (h : RowG w g l) (k : Nat) : w.frozen? ⟨g, k, none⟩ = false := frozen_of_row w g k _ 3 h
theorem RowG.set {w : World} {g : Nat} {l : List Int} (h : RowG w g l) (k : Nat) (x : Int) : RowG (w.setCell ⟨g, k, none⟩ (.int .i64 x)) g (l.set k x) := by
  have := heap_setCell_same w g k _ 3 (.int .i64 x) h
  unfold RowG
  rw [this]
  congr 2
  simp
theorem RowG.lt {w : World} {g : Nat} {l : List Int} (h : RowG w g l) : g < w.heap.size := by
  rcases Nat.lt_or_ge g w.heap.size with h1 | h1
  · exact h1
  · unfold RowG at h; rw [Array.getElem?_eq_none h1] at h; cases h
theorem RowG.ints {w : World} {g n : Nat} {l r : List Int} (h : RowG w g (l ++ r)) (hn : n = l.length) (hr : r.length = 2) (hm : n ≤ 17592186044414) : IntsAt w.heap.size w (.slice (some ⟨g, 0, none⟩) n (n + 2)) l := by
  subst hn
  refine ⟨_, _, rfl, by omega, by omega, .inr ⟨g, 0, rfl, h.lt, fun k hk => ?_⟩⟩
  rw [Nat.zero_add, h.cell k (by rw [List.length_append]; omega)]
  simp [List.getD_eq_getElem?_getD, List.getElem?_append_left hk]
theorem RowG.below {w w' : World} {N g : Nat} {l : List Int} (h : RowG w g l) (hb : Below N w w') (hg : g < N) : RowG w' g l := by
  have := hb.block g hg
  unfold RowG
  rw [this]; exact h
theorem one_cell_ints (l : List Int) : ∀ u : Value, u ∈ I64 l → u.oneCell' = true := by
  intro u hu
  simp only [List.mem_map] at hu
  obtain ⟨x, _, rfl⟩ := hu
  rfl
theorem row_some {w : World} {g k : Nat} {cs : List Value} {t : TypeId} {fr : Nat × Nat} (h : w.heap[g]? = some (.cells cs.toArray t fr)) (hk : k < cs.length) : ∃ x, w.cell? ⟨g, k, none⟩ = some x := by
  rw [cell_of_row w g k _ t fr h]
  exact ⟨cs[k], by simp [hk]⟩
theorem set_marks (l : List Int) (n : Nat) (hn : n = l.length) : ((splice (I64 (List.replicate (n + 2) 0)) 0 (I64 l)).set n (.int .i64 (-71))).set (n + 1) (.int .i64 (-72)) = I64 (l ++ [-71, -72]) := by
  subst hn
  have e : splice (I64 (List.replicate (l.length + 2) 0)) 0 (I64 l) = I64 (l ++ [0, 0]) := by
    unfold splice
    simp
  rw [e]
  simp [List.set_append]
end Go.Proofs.YtjglehklfdhgaaaDoor
