/- HELPERS: the program of a simple tree, in plain words. -/
import Derived.Test.YtpckbpimgoljoaaGreatK3
import Derived.Test.YtpckbpimgoljoaaGreatK1
import Derived.Test.YtpckbpimgoljoaaGreatK4
import Derived.Test.YtpckbpimgoljoaaGreatCc
/- HELPERS: a tree's mirror, as data. -/
namespace Go.Proofs.YtpckbpimgoljoaaGreat
open Go.RowKit Go.Lk
set_option linter.unusedVariables false
set_option linter.unusedSimpArgs false
theorem fineL_get {ts : List Tn} (h : fineL ts = true) : ∀ (i : Nat) (hi : i < ts.length), ts[i].fine = true := by
  induction ts with
  | nil => intro i hi; simp at hi
  | cons t ts ih =>
    simp only [fineL, Bool.and_eq_true] at h
    intro i hi
    cases i with
    | zero => exact h.1
    | succ i => exact ih h.2 i (by simpa using hi)
theorem nodes_ge (ts : List Tn) : ts.length ≤ nodesL ts := by
  induction ts with
  | nil => simp
  | cons t ts ih => simp only [nodesL, List.length_cons]; have := t.pos; omega
theorem nodes_get (ts : List Tn) : ∀ (i : Nat) (hi : i < ts.length), ts[i].nodes ≤ nodesL ts := by
  induction ts with
  | nil => intro i hi; simp at hi
  | cons t ts ih =>
    intro i hi
    cases i with
    | zero => simp only [nodesL, List.getElem_cons_zero]; omega
    | succ i => have := ih i (by simpa using hi); simp only [nodesL, List.getElem_cons_succ]; omega
/-- what a node that may be is like -/
structure FineN (k : Int) (R : List (Int × Int)) (a : Int) (n : Nat) (mn mx : Int) (lz : Bool) (ix : Int) (nm : ByteArray) : Prop where
  kind : k = 1 ∨ k = 2 ∨ k = 3 ∨ k = 4 ∨ k = 5 ∨ k = 6 ∨ k = 7
  grp : k = 7 → n = 1
  rng : k ≠ 2 → R.length = 0
  cls : k = 2 → rightB R = true
  ast : k = 3 → assertB a = true
  nas : k ≠ 3 → a = 0
theorem fine_node {k : Int} {R : List (Int × Int)} {a : Int} {n : Nat} {mn mx : Int} {lz : Bool} {ix : Int} {nm : ByteArray} (h : nodeB k R a n mn mx lz ix nm = true) : FineN k R a n mn mx lz ix nm := by
  have hk : k = 1 ∨ k = 2 ∨ k = 3 ∨ k = 4 ∨ k = 5 ∨ k = 6 ∨ k = 7 := by
    by_cases h' : k ≠ 1 ∧ k ≠ 2 ∧ k ≠ 3 ∧ k ≠ 4 ∧ k ≠ 5 ∧ k ≠ 6 ∧ k ≠ 7
    · rw [nodeB_ne h'] at h; cases h
    · omega
  rcases hk with rfl | rfl | rfl | rfl | rfl | rfl | rfl <;> simp [nodeB, bareB] at h <;> refine ⟨by omega, by omega, ?_, ?_, ?_, ?_⟩ <;> first | (intro h'; omega) | (intro _; exact h.1) | (intro _; simp [h])
end Go.Proofs.YtpckbpimgoljoaaGreat
namespace Go.Proofs.YtpckbpimgoljoaaGreat
open Go.RowKit
set_option linter.unusedVariables false
set_option linter.unusedSimpArgs false
abbrev BNo (w : World) (b : Nat) (N : Nv) : Prop := w.heap[b]? = some (.cells #[.int .i64 N.k, .slice N.r1 N.r2 N.r3, .int .i64 N.a2, .slice N.s1 N.s2 N.s3, .int .i64 N.a4, .int .i64 N.a5, .bool N.a6, .int .i64 N.a7, .string N.a8] 25 (0, 0))
theorem fine_kind0 {k : Int} {R : List (Int × Int)} {a : Int} {n : Nat} {mn mx : Int} {lz : Bool} {ix : Int} {nm : ByteArray} (h : nodeB k R a n mn mx lz ix nm = true) :
    ((k = 1 ∨ k = 2 ∨ k = 3) ∧ n = 0 ∧ R.length ≤ 5000) ∨ ((k = 4 ∨ k = 5) ∧ 2 ≤ n) ∨ (k = 6 ∧ n = 1 ∧ 0 ≤ mn ∧ mn ≤ 1000 ∧ (mx = -1 ∨ mn ≤ mx ∧ mx ≤ 1000)) ∨ (k = 7 ∧ n = 1 ∧ 1 ≤ ix ∧ ix ≤ 500) := by
  have hk : k = 1 ∨ k = 2 ∨ k = 3 ∨ k = 4 ∨ k = 5 ∨ k = 6 ∨ k = 7 := (fine_node h).kind
  rcases hk with rfl | rfl | rfl | rfl | rfl | rfl | rfl
  · simp [nodeB, bareB] at h; left; refine ⟨by omega, by omega, ?_⟩; have := h.1; simp [h]
  · simp [nodeB, bareB] at h; left; exact ⟨by omega, by omega, rightB_len h.1⟩
  · simp [nodeB, bareB] at h; left; refine ⟨by omega, by omega, ?_⟩; simp [h]
  · simp [nodeB, bareB] at h; right; left; exact ⟨by omega, by omega⟩
  · simp [nodeB, bareB] at h; right; left; exact ⟨by omega, by omega⟩
  · simp [nodeB, bareB] at h; right; right; left; exact ⟨rfl, by omega, by omega, by omega, by omega⟩
  · simp [nodeB, bareB] at h; right; right; right; exact ⟨rfl, by omega, by omega, by omega⟩
mutual
/-- how many instructions the row of a simple tree has -/
def Tn.len : Tn → Nat
  | .mk k _ _ s mn mx _ _ _ => if k = 2 ∨ k = 3 then 1 else if k = 7 then lenL s + 2 else if k = 4 then lenL s else if k = 5 then lenL s + 2 * (s.length - 1) else if k = 6 then (if mn = 1 ∨ mx = 1 then lenL s + 1 else lenL s + 2) else 0
def lenL : List Tn → Nat
  | [] => 0
  | t :: ts => t.len + lenL ts
end
/-- an OpAlt that goes round, or past; a lazy one the other way about -/
def forkI (round past : Nat) (lz : Bool) : In := if lz then ⟨2, (past : Int), (round : Int), 0, []⟩ else ⟨2, (round : Int), (past : Int), 0, []⟩
mutual
/-- the row of a simple tree, from a number on -/
def Tn.lay : Tn → Nat → List In
  | .mk k R a s mn mx lz ix nm, n =>
    if k = 2 then (if R.length = 0 then [⟨6, 0, 0, 0, []⟩] else [⟨1, ((n + 1 : Nat) : Int), 0, 0, R⟩])
    else if k = 3 then [⟨4, ((n + 1 : Nat) : Int), 0, a, []⟩]
    else if k = 7 then ⟨3, ((n + 1 : Nat) : Int), 0, 2 * ix, []⟩ :: (layL s (n + 1) ++ [⟨3, ((n + 1 + lenL s + 1 : Nat) : Int), 0, 2 * ix + 1, []⟩])
    else if k = 4 then layL s n
    else if k = 5 then layA s n ((n + (lenL s + 2 * (s.length - 1)) : Nat) : Int)
    else if k = 6 then
      if mn = 1 then layL s n ++ [forkI n (n + lenL s + 1) lz]
      else if mx = 1 then forkI (n + 1) (n + 1 + lenL s) lz :: layL s (n + 1)
      else forkI (n + 1) (n + 1 + lenL s + 1) lz :: (layL s (n + 1) ++ [⟨7, (n : Int), 0, 0, []⟩])
    else []
def layL : List Tn → Nat → List In
  | [], _ => []
  | t :: ts, n => t.lay n ++ layL ts (n + t.len)
def layA : List Tn → Nat → Int → List In
  | [], _, _ => []
  | [t], n, _ => t.lay n
  | t :: u :: ts, n, f => ⟨2, ((n + 1 : Nat) : Int), ((n + t.len + 2 : Nat) : Int), 0, []⟩ :: (t.lay (n + 1) ++ ⟨7, f, 0, 0, []⟩ :: layA (u :: ts) (n + t.len + 2) f)
end
mutual
theorem lay_len : ∀ (t : Tn) (n : Nat), (t.lay n).length = t.len
  | .mk k R a s mn mx lz ix nm, n => by
    have h1 := layL_len s
    have h2 := layA_len s
    by_cases k2 : k = 2
    · subst k2; simp [Tn.lay, Tn.len]; split <;> rfl
    by_cases k3 : k = 3
    · subst k3; simp [Tn.lay, Tn.len]
    by_cases k7 : k = 7
    · subst k7; simp [Tn.lay, Tn.len, h1]
    by_cases k4 : k = 4
    · subst k4; simp [Tn.lay, Tn.len, h1]
    by_cases k5 : k = 5
    · subst k5; simp [Tn.lay, Tn.len, h2]
    by_cases k6 : k = 6
    · subst k6
      by_cases m1 : mn = 1
      · simp [Tn.lay, Tn.len, h1, m1]
      by_cases x1 : mx = 1
      · simp [Tn.lay, Tn.len, h1, m1, x1]
      simp [Tn.lay, Tn.len, h1, m1, x1]
    simp [Tn.lay, Tn.len, k2, k3, k4, k5, k6, k7]
theorem layL_len : ∀ (ts : List Tn) (n : Nat), (layL ts n).length = lenL ts
  | [], _ => rfl
  | t :: ts, n => by simp only [layL, lenL, List.length_append, lay_len t n, layL_len ts (n + t.len)]
theorem layA_len : ∀ (ts : List Tn) (n : Nat) (f : Int), (layA ts n f).length = lenL ts + 2 * (ts.length - 1)
  | [], _, _ => rfl
  | [t], n, _ => by simp only [layA, lenL, lay_len t n, List.length_cons, List.length_nil]; omega
  | t :: u :: ts, n, f => by
    have h := layA_len (u :: ts) (n + t.len + 2) f
    simp only [layA, lenL, List.length_cons, List.length_append, lay_len t (n + 1), h]
    omega
end
theorem lenL_append (a b : List Tn) : lenL (a ++ b) = lenL a + lenL b := by
  induction a with
  | nil => simp [lenL]
  | cons t a ih => simp only [List.cons_append, lenL, ih]; omega
theorem layL_append (a b : List Tn) (n : Nat) : layL (a ++ b) n = layL a n ++ layL b (n + lenL a) := by
  induction a generalizing n with
  | nil => simp [layL, lenL]
  | cons t a ih => simp only [List.cons_append, layL, lenL, ih, List.append_assoc, Nat.add_assoc]
theorem lenL_rep (m : Nat) (l : List Tn) : lenL (List.replicate m l).flatten = m * lenL l := by
  induction m with
  | zero => simp [lenL]
  | succ m ih => rw [List.replicate_succ, List.flatten_cons, lenL_append, ih, Nat.add_mul]; omega
mutual
/-- how long the program is reckoned to be, ahead -/
def Tn.ln : Tn → Nat
  | .mk k _ _ s mn mx _ _ _ => if k = 2 ∨ k = 3 then 1 else if k = 7 then lnL s 0 + 2 else if k = 5 then lnL s 0 + 2 * (s.length - 1) else if k = 6 then (if mx ≠ -1 then mn.toNat * lnL s 0 + (mx - mn).toNat * (1 + lnL s 0) else if mn = 0 then lnL s 0 + 2 else mn.toNat * lnL s 0 + 1) else lnL s 0
def lnL : List Tn → Nat → Nat
  | [], a => a
  | t :: ts, a => lnL ts (min (a + t.ln) 20001)
end
mutual
/-- the greatest index of a group -/
def Tn.top : Tn → Int
  | .mk _ _ _ s _ _ _ ix _ => topL s ix
def topL : List Tn → Int → Int
  | [], a => a
  | t :: ts, a => topL ts (max a t.top)
end
theorem topL_ge : ∀ (ts : List Tn) (a : Int), a ≤ topL ts a
  | [], a => Int.le_refl _
  | t :: ts, a => by have := topL_ge ts (max a t.top); simp only [topL]; omega
theorem topL_mem : ∀ (ts : List Tn) (a : Int) (u : Tn), u ∈ ts → u.top ≤ topL ts a
  | [], a, u, h => by cases h
  | t :: ts, a, u, h => by
    simp only [topL]
    rcases List.mem_cons.1 h with rfl | h
    · have := topL_ge ts (max a u.top); omega
    · exact topL_mem ts _ u h
theorem fine_ix {k : Int} {R : List (Int × Int)} {a : Int} {n : Nat} {mn mx : Int} {lz : Bool} {ix : Int} {nm : ByteArray} (h : nodeB k R a n mn mx lz ix nm = true) : 0 ≤ ix ∧ ix ≤ 500 := by
  have hk := fine_kind0 h
  have hk' : k = 1 ∨ k = 2 ∨ k = 3 ∨ k = 4 ∨ k = 5 ∨ k = 6 ∨ k = 7 := by omega
  rcases hk' with rfl | rfl | rfl | rfl | rfl | rfl | rfl <;> simp [nodeB, bareB] at h <;> omega
mutual
theorem top_fine : ∀ t : Tn, t.fine = true → 0 ≤ t.top ∧ t.top ≤ 500
  | .mk k R a s mn mx lz ix nm, h => by
    simp only [Tn.fine, Bool.and_eq_true] at h
    have h1 := fine_ix h.1
    simp only [Tn.top]
    exact topL_fine s h.2 ix h1
theorem topL_fine : ∀ ts : List Tn, fineL ts = true → ∀ a : Int, 0 ≤ a ∧ a ≤ 500 → 0 ≤ topL ts a ∧ topL ts a ≤ 500
  | [], _ => fun a h => h
  | t :: ts, h => fun a ha => by
    simp only [fineL, Bool.and_eq_true] at h
    have h1 := top_fine t h.1
    simp only [topL]
    exact topL_fine ts h.2 _ (by omega)
end
end Go.Proofs.YtpckbpimgoljoaaGreat
