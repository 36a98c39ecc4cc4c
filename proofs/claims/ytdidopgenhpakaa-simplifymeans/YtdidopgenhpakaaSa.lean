/- HELPERS: the simple form of a tree, as data. -/
import Derived.Test.YtdidopgenhpakaaTb
namespace Go.Proofs.Ytdidopgenhpakaa
open Go.RowKit
set_option linter.unusedVariables false
set_option linter.unusedSimpArgs false
/-- a node of a kind, with Subs alone -/
abbrev zN (k : Int) (s : List Tn) : Tn := .mk k [] 0 s 0 0 false 0 ⟨#[]⟩
abbrev emptyT : Tn := zN 1 []
abbrev loopT (mn mx : Int) (lz : Bool) (y : Tn) : Tn := .mk 6 [] 0 [y] mn mx lz 0 ⟨#[]⟩
/-- what a tree is in a row of a kind -/
def within (k : Int) (t : Tn) : List Tn := if t.kind = k then t.subs else [t]
/-- the Subs of a row of runs -/
def rowS (k : Int) (l : List (Tn × Nat)) : List Tn := l.flatMap fun x => (List.replicate x.2 (within k x.1)).flatten
abbrev rowT (k : Int) (l : List (Tn × Nat)) : Tn := zN k (rowS k l)
/-- which runs are kept in a JOIN -/
def keep (x : Tn × Nat) : Bool := decide (0 < x.2) && !(x.1.kind == 1)
def timesOf : List (Tn × Nat) → Nat
  | [] => 0
  | x :: l => x.2 + timesOf l
/-- the JOIN of runs that are kept -/
def joinK (l : List (Tn × Nat)) : Tn := if timesOf l = 0 then emptyT else if timesOf l = 1 then (l.headD (emptyT, 0)).1 else rowT 4 l
def joinT (l : List (Tn × Nat)) : Tn := joinK (l.filter keep)
def optT (y : Tn) (lz : Bool) : Nat → Tn
  | 0 => emptyT
  | 1 => loopT 0 1 lz y
  | n + 2 => loopT 0 1 lz (joinT [(y, 1), (optT y lz (n + 1), 1)])
def repT (y : Tn) (mn mx : Int) (lz : Bool) : Tn :=
  if mx ≠ -1 then joinT [(y, mn.toNat), (optT y lz (mx - mn).toNat, 1)] else if mn = 0 then loopT 0 (-1) lz y else joinT [(y, (mn - 1).toNat), (loopT 1 (-1) lz y, 1)]
abbrev ones (l : List Tn) : List (Tn × Nat) := l.map fun t => (t, 1)
mutual
/-- the simple form -/
def Tn.S : Tn → Tn
  | .mk k R a s mn mx lz ix nm =>
    if k = 4 then joinT (ones (SL s)) else if k = 5 then rowT 5 (ones (SL s)) else if k = 6 then repT ((SL s).headD emptyT) mn mx lz else if k = 7 then .mk 7 [] 0 [(SL s).headD emptyT] 0 0 false ix nm else .mk k R a [] mn mx lz ix nm
def SL : List Tn → List Tn
  | [] => []
  | t :: ts => t.S :: SL ts
end
theorem SL_map (ts : List Tn) : SL ts = ts.map Tn.S := by
  induction ts with
  | nil => rfl
  | cons t ts ih => simp [SL, ih]
theorem nodesL_append (a b : List Tn) : nodesL (a ++ b) = nodesL a + nodesL b := by
  induction a with
  | nil => simp [nodesL]
  | cons t a ih => simp only [List.cons_append, nodesL, ih]; omega
theorem depthL_append (a b : List Tn) : depthL (a ++ b) = max (depthL a) (depthL b) := by
  induction a with
  | nil => simp [depthL]
  | cons t a ih => simp only [List.cons_append, depthL, ih]; omega
theorem nodesL_rep (n : Nat) (l : List Tn) : nodesL (List.replicate n l).flatten = n * nodesL l := by
  induction n with
  | zero => simp [nodesL]
  | succ n ih => rw [List.replicate_succ, List.flatten_cons, nodesL_append, ih, Nat.add_mul]; omega
theorem depthL_rep (n : Nat) (l : List Tn) (h : 0 < n) : depthL (List.replicate n l).flatten = depthL l := by
  induction n with
  | zero => omega
  | succ n ih =>
    rw [List.replicate_succ, List.flatten_cons, depthL_append]
    rcases Nat.eq_zero_or_pos n with h0 | h0
    · subst h0; simp [depthL]
    · rw [ih h0]; omega
theorem Tn.nodes_subs (t : Tn) : t.nodes = 1 + nodesL t.subs := by cases t; rfl
theorem Tn.depth_subs (t : Tn) : t.depth = 1 + depthL t.subs := by cases t; rfl
theorem within_nodes (k : Int) (t : Tn) : nodesL (within k t) = if t.kind = k then t.nodes - 1 else t.nodes := by
  unfold within
  split
  · rw [t.nodes_subs]; omega
  · simp [nodesL]
theorem within_depth (k : Int) (t : Tn) : depthL (within k t) = if t.kind = k then t.depth - 1 else t.depth := by
  unfold within
  split
  · rw [t.depth_subs]; omega
  · simp [depthL]
theorem rowS_cons (k : Int) (x : Tn × Nat) (l : List (Tn × Nat)) : rowS k (x :: l) = (List.replicate x.2 (within k x.1)).flatten ++ rowS k l := by simp [rowS]
theorem rowS_append (k : Int) (a b : List (Tn × Nat)) : rowS k (a ++ b) = rowS k a ++ rowS k b := by simp [rowS]
theorem rowS_take (k : Int) (l : List (Tn × Nat)) (i : Nat) (hi : i < l.length) : rowS k (l.take (i + 1)) = rowS k (l.take i) ++ (List.replicate l[i].2 (within k l[i].1)).flatten := by
  rw [List.take_succ_eq_append_getElem hi, rowS_append, rowS_cons]; simp [rowS]
/-- the number of nodes as it is kept -/
abbrev capN (n : Nat) : Nat := min n 200001
/-- one more run: how many nodes -/
theorem row_nodes_step (k : Int) (l : List (Tn × Nat)) (i : Nat) (hi : i < l.length) (hp : 0 < l[i].2) :
    capN (1 + nodesL (rowS k (l.take (i + 1)))) = capN (capN (1 + nodesL (rowS k (l.take i))) + l[i].2 * (if l[i].1.kind = k then capN l[i].1.nodes - 1 else capN l[i].1.nodes)) := by
  rw [rowS_take k l i hi, nodesL_append, nodesL_rep, within_nodes]
  generalize nodesL (rowS k (l.take i)) = a
  generalize hm : l[i].2 = m at hp ⊢
  generalize hn : l[i].1.nodes = n
  have hn1 : 1 ≤ n := by rw [← hn]; exact Tn.pos _
  unfold capN
  split
  · by_cases h : n ≤ 200001
    · rw [Nat.min_eq_left h]; omega
    · rw [Nat.min_eq_right (by omega : 200001 ≤ n)]
      have h1 : 200000 ≤ m * (200001 - 1) := by have := Nat.mul_le_mul_right 200000 hp; omega
      have h2 : 200001 ≤ m * (n - 1) := by have := Nat.mul_le_mul hp (show 200001 ≤ n - 1 by omega); omega
      omega
  · by_cases h : n ≤ 200001
    · rw [Nat.min_eq_left h]; omega
    · rw [Nat.min_eq_right (by omega : 200001 ≤ n)]
      have h1 : 200001 ≤ m * 200001 := by have := Nat.mul_le_mul_right 200001 hp; omega
      have h2 : 200001 ≤ m * n := by have := Nat.mul_le_mul hp (show 200001 ≤ n by omega); omega
      omega
/-- how deep a row is, so far -/
def depR (k : Int) (l : List (Tn × Nat)) (i : Nat) : Nat := if i = 0 then 0 else 1 + depthL (rowS k (l.take i))
theorem row_depth_step (k : Int) (l : List (Tn × Nat)) (i : Nat) (hi : i < l.length) (hp : 0 < l[i].2) :
    depR k l (i + 1) = max (depR k l i) (1 + (if l[i].1.kind = k then l[i].1.depth - 1 else l[i].1.depth)) := by
  unfold depR
  rw [if_neg (by omega), rowS_take k l i hi, depthL_append, depthL_rep _ _ hp, within_depth]
  by_cases h0 : i = 0
  · subst h0; simp [rowS, depthL]
  · rw [if_neg h0]; omega
theorem rowT_kind (k : Int) (l : List (Tn × Nat)) : (rowT k l).kind = k := rfl
theorem rowT_nodes (k : Int) (l : List (Tn × Nat)) : (rowT k l).nodes = 1 + nodesL (rowS k l) := rfl
theorem rowT_depth (k : Int) (l : List (Tn × Nat)) : (rowT k l).depth = 1 + depthL (rowS k l) := rfl
/-- the JOIN of a tree and an option of it -/
theorem join_two (y o : Tn) (ho : o.kind = 6) : joinT [(y, 1), (o, 1)] = if y.kind = 1 then o else rowT 4 [(y, 1), (o, 1)] := by
  unfold joinT
  have h2 : keep (o, 1) = true := by simp [keep, ho]
  by_cases h : y.kind = 1
  · have h1 : keep (y, 1) = false := by simp [keep, h]
    rw [if_pos h]
    simp [List.filter, h1, h2, joinK, timesOf]
  · have h1 : keep (y, 1) = true := by simp [keep, h]
    rw [if_neg h]
    simp [List.filter, h1, h2, joinK, timesOf]
theorem optT_kind (y : Tn) (lz : Bool) (n : Nat) : (optT y lz (n + 1)).kind = 6 := by cases n <;> rfl
theorem rowS_two (k : Int) (y o : Tn) : rowS k [(y, 1), (o, 1)] = within k y ++ within k o := by simp [rowS]
theorem join_two_nodes (y o : Tn) (ho : o.kind = 6) : (joinT [(y, 1), (o, 1)]).nodes = o.nodes + (if y.kind = 1 then 0 else if y.kind = 4 then y.nodes else y.nodes + 1) := by
  rw [join_two y o ho]
  by_cases h : y.kind = 1
  · simp [h]
  · rw [if_neg h, if_neg h, rowT_nodes]
    rw [rowS_two, nodesL_append, within_nodes, within_nodes, ho, if_neg (by decide : ¬ (6 : Int) = 4)]
    have := y.pos
    split <;> omega
theorem join_two_depth (y o : Tn) (ho : o.kind = 6) (hd : y.depth ≤ o.depth) : (joinT [(y, 1), (o, 1)]).depth = o.depth + (if y.kind = 1 then 0 else 1) := by
  rw [join_two y o ho]
  by_cases h : y.kind = 1
  · simp [h]
  · rw [if_neg h, if_neg h, rowT_depth]
    rw [rowS_two, depthL_append, within_depth, within_depth, ho, if_neg (by decide : ¬ (6 : Int) = 4)]
    split <;> omega
theorem loopT_nodes (mn mx : Int) (lz : Bool) (y : Tn) : (loopT mn mx lz y).nodes = 1 + y.nodes := by simp [Tn.nodes, nodesL]
theorem loopT_depth (mn mx : Int) (lz : Bool) (y : Tn) : (loopT mn mx lz y).depth = 1 + y.depth := by simp [Tn.depth, depthL]
theorem optT_step (y : Tn) (lz : Bool) (n : Nat) : optT y lz (n + 2) = loopT 0 1 lz (joinT [(y, 1), (optT y lz (n + 1), 1)]) := rfl
theorem optT_deep (y : Tn) (lz : Bool) (n : Nat) : y.depth ≤ (optT y lz (n + 1)).depth := by
  induction n with
  | zero => rw [show optT y lz (0 + 1) = loopT 0 1 lz y from rfl, loopT_depth]; omega
  | succ n ih => rw [optT_step, loopT_depth, join_two_depth _ _ (optT_kind _ _ _) ih]; omega
/-- each option adds as much as the second one -/
theorem optT_nodes (y : Tn) (lz : Bool) (n : Nat) : (optT y lz (n + 1)).nodes = 1 + y.nodes + n * (1 + if y.kind = 1 then 0 else if y.kind = 4 then y.nodes else y.nodes + 1) := by
  induction n with
  | zero => rw [show optT y lz (0 + 1) = loopT 0 1 lz y from rfl, loopT_nodes]; omega
  | succ n ih => rw [optT_step, loopT_nodes, join_two_nodes _ _ (optT_kind _ _ _), ih, Nat.add_mul]; omega
theorem optT_depth (y : Tn) (lz : Bool) (n : Nat) : (optT y lz (n + 1)).depth = 1 + y.depth + n * (1 + if y.kind = 1 then 0 else 1) := by
  induction n with
  | zero => rw [show optT y lz (0 + 1) = loopT 0 1 lz y from rfl, loopT_depth]; omega
  | succ n ih => rw [optT_step, loopT_depth, join_two_depth _ _ (optT_kind _ _ _) (optT_deep _ _ _), ih, Nat.add_mul]; omega
/-- as they are reckoned from the first and the second one -/
theorem optT_capN (y : Tn) (lz : Bool) (n : Nat) : capN (optT y lz (n + 2)).nodes = capN (capN (optT y lz 1).nodes + (n + 1) * (capN (optT y lz 2).nodes - capN (optT y lz 1).nodes)) := by
  rw [show n + 2 = (n + 1) + 1 from rfl, optT_nodes, optT_nodes y lz 0, optT_nodes y lz 1]
  generalize (1 + if y.kind = 1 then 0 else if y.kind = 4 then y.nodes else y.nodes + 1) = c
  generalize 1 + y.nodes = a
  unfold capN
  simp only [Nat.zero_mul, Nat.one_mul, Nat.add_zero]
  by_cases h : a + c ≤ 200001
  · rw [Nat.min_eq_left h, Nat.min_eq_left (by omega : a ≤ 200001), show a + c - a = c by omega]
  · rw [Nat.min_eq_right (by omega : 200001 ≤ a + c)]
    have h1 : c ≤ (n + 1) * c := Nat.le_mul_of_pos_left _ (by omega)
    have h2 : 200001 - min a 200001 ≤ (n + 1) * (200001 - min a 200001) := Nat.le_mul_of_pos_left _ (by omega)
    omega
theorem optT_dep (y : Tn) (lz : Bool) (n : Nat) : (optT y lz (n + 2)).depth = (optT y lz 1).depth + (n + 1) * ((optT y lz 2).depth - (optT y lz 1).depth) := by
  rw [show n + 2 = (n + 1) + 1 from rfl, optT_depth, optT_depth y lz 0, optT_depth y lz 1]
  generalize (1 + if y.kind = 1 then 0 else 1) = c
  generalize 1 + y.depth = a
  simp only [Nat.zero_mul, Nat.one_mul, Nat.add_zero]
  rw [show a + c - a = c by omega]
end Go.Proofs.Ytdidopgenhpakaa
