/- HELPERS: the document's side of classes: both; class of a list that the call owns; the letters that Fold adds. -/
import Derived.Test.YtjglehklfdhgaaaDoorDcF
import Derived.Laws.AppendOwnNone
namespace Go.Proofs.YtjglehklfdhgaaaDoor
open Go.RowKit Go.Mx
set_option linter.unusedVariables false
set_option linter.unusedSimpArgs false
theorem row_cells {N : Nat} {w : World} {ad : Option Addr} {n cap : Nat} {L : List (Int × Int)} (h : RowAt N w (.slice ad n cap) L) (hc : ad = none → cap = 0) :
    (ad = none ∧ n = 0 ∧ cap = 0 ∧ L = []) ∨ ∃ a, ad = some a ∧ ∀ j u, (fl L)[j]? = some u → w.cell? (a.add j) = some u := by
  obtain ⟨ad', cap', he, h⟩ := h
  simp only [Value.slice.injEq] at he
  obtain ⟨rfl, rfl, rfl⟩ := he
  rcases h with h | ⟨b, off, rfl, hb, h0, h1⟩
  · have hL : L = [] := List.eq_nil_of_length_eq_zero h
    subst hL
    cases ad with
    | none => exact .inl ⟨rfl, rfl, hc rfl, rfl⟩
    | some a => exact .inr ⟨a, rfl, fun j u hu => by simp [fl] at hu⟩
  · refine .inr ⟨_, rfl, fun j u hu => ?_⟩
    have := drop_cells h0 h1 rfl 0 j u (by simpa using hu)
    simpa using this
/-- what both leaves -/
def BothEnd (w w' : World) (e : Ending) (L : List (Int × Int)) : Prop := ∃ v, e = .returned v ∧ w'.ownsRow w.heap.size 57 2 v L.length (fl L) ∧ Below w.heap.size w w'
set_option maxHeartbeats 2000000 in
set_option maxRecDepth 1000000 in
theorem both54 (A B : List (Int × Int)) (aa ab : Option Addr) (na nb ca cb : Nat) (w : World) (hna : Hid (A.length = na)) (hnb : Hid (B.length = nb)) (hA2 : na ≤ 1000000) (hB2 : nb ≤ 1000000)
    (hA : Hid (RowAt w.heap.size w (.slice aa na ca) A)) (hB : Hid (RowAt w.heap.size w (.slice ab nb cb) B)) (cA : Hid (aa = none → ca = 0)) (cB : Hid (ab = none → cb = 0)) :
    Calls Tryd.prog 54 #[.slice aa na ca, .slice ab nb cb] w fun e w' => BothEnd w w' e (A ++ B) := by
  obtain ⟨i0, hi0, hz0, hz1, hz2⟩ := info_parts info57
  have HN : Hid (w.ownsRow w.heap.size 57 2 (.slice none 0 0) 0 []) := World.ownsRow_nil _ _ _ _
  rcases row_cells hA.out cA.out with ⟨rfl, rfl, rfl, rfl⟩ | ⟨a, rfl, hcA⟩
  · rcases row_cells hB.out cB.out with ⟨rfl, rfl, rfl, rfl⟩ | ⟨b, rfl, hcB⟩
    · go_enter Tryd.func54, Tryd.ntmps54
      go_wp2_with (first
        | (at_builtin; refine wpList_append_own_none rfl (.tmp 6) (.tmp 7) 42 rfl w.heap.size 57 i0 2 Tryd.underlying42 hi0 (.slice none 0 0) 0 [] rfl HN.out rfl ?_)
        | (at_builtin; refine wpList_append_own_none rfl (.tmp 9) (.tmp 10) 42 rfl w.heap.size 57 i0 2 Tryd.underlying42 hi0 (.slice none 0 0) 0 [] rfl HN.out rfl ?_))
      go_wp2
      go_ret
      exact ⟨_, rfl, HN.out, Below.refl _ _⟩
    · have HCB : Hid (∀ j u, (fl B)[j]? = some u → w.cell? (b.add j) = some u) := hcB
      clear hcB
      go_enter Tryd.func54, Tryd.ntmps54
      go_wp2_with (first
        | (at_builtin; refine wpList_append_own_none rfl (.tmp 6) (.tmp 7) 42 rfl w.heap.size 57 i0 2 Tryd.underlying42 hi0 (.slice none 0 0) 0 [] rfl HN.out rfl ?_)
        | (at_builtin; refine wpList_append_own _ rfl (.tmp 9) (.tmp 10) 42 rfl w.heap.size 57 i0 (.agg #[.int .i64 0, .int .i64 0]) 2 16 Tryd.underlying42 hi0 hz0 hz1 hz2 rfl (by decide) (.slice none 0 0) 0 [] rfl HN.out b nb cb (fl B) rfl (by rw [fl_len, hnb.out]) HCB.out (two_of_fl B) (by unfold maxLen; omega) (by omega) (Nat.le_refl _) ?_; intro v' w1 ho1 hg1 _))
      go_wp2
      go_ret
      refine ⟨v', rfl, ?_, (Below.refl _ _).grown hg1 (Nat.le_refl _) (fun k hk => by simp [Value.ownBlock] at hk)⟩
      have h := ho1
      rw [List.nil_append, Nat.zero_add, ← hnb.out] at h
      exact h
  · have HCA : Hid (∀ j u, (fl A)[j]? = some u → w.cell? (a.add j) = some u) := hcA
    clear hcA
    go_enter Tryd.func54, Tryd.ntmps54
    go_wp2_with (at_builtin; refine wpList_append_own _ rfl (.tmp 6) (.tmp 7) 42 rfl w.heap.size 57 i0 (.agg #[.int .i64 0, .int .i64 0]) 2 16 Tryd.underlying42 hi0 hz0 hz1 hz2 rfl (by decide) (.slice none 0 0) 0 [] rfl HN.out a na ca (fl A) rfl (by rw [fl_len, hna.out]) HCA.out (two_of_fl A) (by unfold maxLen; omega) (by omega) (Nat.le_refl _) ?_)
    intro v' w1 ho1 hg1 _
    have hb1 : Below w.heap.size w w1 := (Below.refl _ _).grown hg1 (Nat.le_refl _) (fun k hk => by simp [Value.ownBlock] at hk)
    have hs1 := hb1.size
    have HO1 : Hid (w1.ownsRow w.heap.size 57 2 v' na (fl A)) := by
      show w1.ownsRow _ _ _ _ _ _
      simpa using ho1
    clear ho1 hg1
    rcases row_cells (hB.out.below hb1 (Nat.le_refl _) hs1) cB.out with ⟨rfl, rfl, rfl, rfl⟩ | ⟨b, rfl, hcB⟩
    · go_wp2_with (at_builtin; refine wpList_append_own_none rfl (.tmp 9) (.tmp 10) 42 rfl w.heap.size 57 i0 2 Tryd.underlying42 hi0 v' na (fl A) rfl HO1.out rfl ?_)
      go_wp2
      go_ret
      refine ⟨v', rfl, ?_, hb1⟩
      have h := HO1.out
      rw [← hna.out] at h
      simpa using h
    · have HCB : Hid (∀ j u, (fl B)[j]? = some u → w1.cell? (b.add j) = some u) := hcB
      clear hcB
      go_wp2_with (at_builtin; refine wpList_append_own _ rfl (.tmp 9) (.tmp 10) 42 rfl w.heap.size 57 i0 (.agg #[.int .i64 0, .int .i64 0]) 2 16 Tryd.underlying42 hi0 hz0 hz1 hz2 rfl (by decide) v' na (fl A) rfl HO1.out b nb cb (fl B) rfl (by rw [fl_len, hnb.out]) HCB.out (two_of_fl B) (by unfold maxLen; omega) (by omega) hs1 ?_; intro v2 w2 ho2 hg2 _)
      go_wp2
      go_ret
      refine ⟨v2, rfl, ?_, hb1.grown hg2 hs1 (fun k hk => (HO1.out.lt k hk).1)⟩
      show w2.ownsRow _ _ _ v2 (A ++ B).length (fl (A ++ B))
      rw [fl_append, List.length_append, hna.out, hnb.out]
      exact ho2
/-- class of a list that the call owns -/
theorem class_own (L : List (Int × Int)) (v : Value) (n : Nat) (w : World) (B : Nat) (hn : L.length = n) (hS : n ≤ 10000000) (ho : w.ownsRow B 57 2 v n (fl L)) :
    Calls Tryd.prog 53 #[v] w fun e w' => ClsEnd w w' e L := by
  have hr := row_own hn.symm ho
  rcases Joins.ownsRow_forms ho with ⟨rfl, h0⟩ | ⟨g, cap, rfl⟩
  · exact class53 L none 0 0 w (by show L.length = 0; omega) (by omega) hr
  · exact class53 L _ n cap w hn hS hr
theorem RNorm.no {w w' : World} {L : List (Int × Int)} {ok : Bool} (h : ok = false) (hb : Below w.heap.size w w') : RNorm w w' (.returned (.tuple #[.slice none 0 0, .int .i64 10])) ok L :=
  ⟨hb, by rw [if_neg (by rw [h]; simp)]⟩
theorem RNorm.yes {w w' : World} {e : Ending} {L : List (Int × Int)} {ok : Bool} (h : ok = true) (hc : ClsEnd w w' e L) : RNorm w w' e ok L :=
  ⟨hc.1, by rw [if_pos h]; exact hc⟩
/-- the letters that Fold puts behind, those of the first k -/
def foldL (L : List (Int × Int)) (k : Nat) : List (Int × Int) :=
  (List.range k).flatMap fun (i : Nat) => (if hasB L (97 + (i : Int)) = true then [(97 + (i : Int) - 32, 97 + (i : Int) - 32)] else []) ++ (if hasB L (97 + (i : Int) - 32) = true then [(97 + (i : Int), 97 + (i : Int))] else [])
theorem foldL_succ (L : List (Int × Int)) (k : Nat) : foldL L (k + 1) = foldL L k ++ (if hasB L (97 + (k : Int)) = true then [(97 + (k : Int) - 32, 97 + (k : Int) - 32)] else []) ++ (if hasB L (97 + (k : Int) - 32) = true then [(97 + (k : Int), 97 + (k : Int))] else []) := by
  unfold foldL
  rw [List.range_succ, List.flatMap_append, List.append_assoc]
  simp
theorem foldL_len (L : List (Int × Int)) (k : Nat) : (foldL L k).length ≤ 2 * k := by
  induction k with
  | zero => simp [foldL]
  | succ k ih =>
    rw [foldL_succ, List.length_append, List.length_append]
    split <;> split <;> simp <;> omega
theorem foldL_has (L : List (Int × Int)) (r : Int) : hasB (foldL L 26) r = (decide (otherI r ≠ r) && hasB L (otherI r)) := by
  rw [Bool.eq_iff_iff, hasB_true]
  simp only [foldL, List.mem_flatMap, List.mem_range, List.mem_append, Bool.and_eq_true, decide_eq_true_eq]
  constructor
  · rintro ⟨g, ⟨i, hi, h⟩, h1, h2⟩
    rcases h with h | h
    · split at h
      · rename_i hh
        simp at h
        subst h
        simp only at h1 h2
        have hr : r = 97 + (i : Int) - 32 := by omega
        have ho : otherI r = 97 + (i : Int) := by unfold otherI; rw [if_neg (by omega), if_pos (by omega)]; omega
        rw [ho]
        exact ⟨by omega, hh⟩
      · simp at h
    · split at h
      · rename_i hh
        simp at h
        subst h
        simp only at h1 h2
        have hr : r = 97 + (i : Int) := by omega
        have ho : otherI r = 97 + (i : Int) - 32 := by unfold otherI; rw [if_pos (by omega)]; omega
        rw [ho]
        exact ⟨by omega, hh⟩
      · simp at h
  · rintro ⟨hne, hh⟩
    by_cases c1 : 97 ≤ r ∧ r ≤ 122
    · have ho : otherI r = r - 32 := by unfold otherI; rw [if_pos c1]
      rw [ho] at hh
      refine ⟨(r, r), ⟨(r - 97).toNat, by omega, .inr ?_⟩, Int.le_refl _, Int.le_refl _⟩
      have e : 97 + (((r - 97).toNat : Nat) : Int) = r := by omega
      rw [e, if_pos hh]
      simp
    · by_cases c2 : 65 ≤ r ∧ r ≤ 90
      · have ho : otherI r = r + 32 := by unfold otherI; rw [if_neg c1, if_pos c2]
        rw [ho] at hh
        refine ⟨(r, r), ⟨(r - 65).toNat, by omega, .inl ?_⟩, Int.le_refl _, Int.le_refl _⟩
        have e : 97 + (((r - 65).toNat : Nat) : Int) = r + 32 := by omega
        rw [e, if_pos hh]
        simp
      · exact absurd (by unfold otherI; rw [if_neg c1, if_neg c2]) hne
/-- class's list -/
def classL (L : List (Int × Int)) : List (Int × Int) := lowOf L ++ highOf L
theorem classL_same (A B : List (Int × Int)) (h : ∀ r, hasB A r = hasB B r) : classL A = classL B :=
  right_one _ _ 0 0 (class_means A).1 (class_means B).1 (fun r => by show hasB (lowOf A ++ highOf A) r = hasB (lowOf B ++ highOf B) r; rw [(class_means A).2 r, (class_means B).2 r, h r])
theorem classL_fold (L : List (Int × Int)) : classL (L ++ foldL L 26) = classL (L ++ allFold L) :=
  classL_same _ _ fun r => by rw [hasB_append, hasB_append, foldL_has, allFold_has]
theorem classL_turn (A B : List (Int × Int)) : classL (A ++ B) = classL (B ++ A) :=
  classL_same _ _ fun r => by rw [hasB_append, hasB_append, Bool.or_comm]
end Go.Proofs.YtjglehklfdhgaaaDoor
