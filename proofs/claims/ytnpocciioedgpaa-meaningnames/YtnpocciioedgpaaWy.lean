/- HELPERS: ways: what a walk does from a place on, as data; how they lie in memory. -/
import Derived.Test.YtnpocciioedgpaaMa
import Derived.Test.YtnpocciioedgpaaRi
namespace Go.Proofs.Ytnpocciioedgpaa
open Go.RowKit
set_option linter.unusedVariables false
set_option linter.unusedSimpArgs false
theorem hid {p : Prop} (h : p) : Hid p := h
abbrev Rng := List (Int × Int)
def encR (x : Int × Int) : List Value := [.int .i64 x.1, .int .i64 x.2]
def fl (L : List (Int × Int)) : List Value := L.flatMap encR
/-- a way -/
inductive Way where
  | through
  | once (n : Int) (d : Way)
  | noted (c : Nat) (d : Way)
  | runeOf (L : Rng) (d : Way)
  | inOrder (l : List Way)
  | again (b : Nat)
/-- what was done, what is noted, what came through -/
structure Sg where
  done : List (Int × Int)
  notes : List Int
  parses : List (Int × List Int)
/-- to go a way from a place -/
inductive Ex (tx : List Int) (E : Nat → Way) : Way → Nat → Sg → Sg → Prop
  | through (p : Nat) (s : Sg) : Ex tx E .through p s { s with parses := s.parses ++ [((p : Int), s.notes.set 1 (p : Int))] }
  | skip {n : Int} {d : Way} {p : Nat} {s : Sg} (h : (n, (p : Int)) ∈ s.done) : Ex tx E (.once n d) p s s
  | once {n : Int} {d : Way} {p : Nat} {s s' : Sg} (h : (n, (p : Int)) ∉ s.done) (hd : Ex tx E d p { s with done := s.done ++ [(n, (p : Int))] } s') : Ex tx E (.once n d) p s s'
  | noted {c : Nat} {d : Way} {p : Nat} {s s' : Sg} (hd : Ex tx E d p { s with notes := s.notes.set c (p : Int) } s') : Ex tx E (.noted c d) p s { s' with notes := s'.notes.set c (s.notes.getD c 0) }
  | over {L : Rng} {d : Way} {p : Nat} {s : Sg} (h : tx.length ≤ p) : Ex tx E (.runeOf L d) p s s
  | other {L : Rng} {d : Way} {p : Nat} {s : Sg} (h : p < tx.length) (hr : (rightB L && hasB L (tx.getD p 0)) = false) : Ex tx E (.runeOf L d) p s s
  | rune {L : Rng} {d : Way} {p : Nat} {s s' : Sg} (h : p < tx.length) (hr : (rightB L && hasB L (tx.getD p 0)) = true) (hd : Ex tx E d (p + 1) s s') : Ex tx E (.runeOf L d) p s s'
  | inOrder {l : List Way} {p : Nat} (ss : Nat → Sg) (h : ∀ i (hi : i < l.length), Ex tx E (l[i]'hi) p (ss i) (ss (i + 1))) : Ex tx E (.inOrder l) p (ss 0) (ss l.length)
  | again {b p : Nat} {s s' : Sg} (h : Ex tx E (E b) p s s') : Ex tx E (.again b) p s s'
abbrev pt (b : Nat) : Value := .pointer (some ⟨b, 0, none⟩)
/-- a box of one cell -/
abbrev Bx (w : World) (b : Nat) (t : TypeId) (v : Value) : Prop := w.heap[b]? = some (.cells #[v] t (0, 0))
mutual
/-- a value is a way's closure; the blocks in which it lies -/
inductive Rep (g K : Nat) (L : List Nat) (w : World) : Value → Way → List Nat → Prop
  | through : Rep g K L w (.func (.func 55) #[pt g] #[]) .through []
  | once {b5 b2 b3 : Nat} {v : Value} {d : Way} {F : List Nat} {n : Int} (h5 : Bx w b5 3 (.int .i64 n)) (h2 : Bx w b2 60 (pt g)) (h3 : Bx w b3 84 v) (hn : 0 ≤ n ∧ n < 4611686018427387904) (hd : Rep g K L w v d F) :
      Rep g K L w (.func (.func 70) #[] #[pt b5, pt b2, pt b3]) (.once n d) (b5 :: b2 :: b3 :: F)
  | noted {b3 b4 b5 c : Nat} {v : Value} {d : Way} {F : List Nat} (h3 : Bx w b3 60 (pt g)) (h4 : Bx w b4 3 (.int .i64 (c : Int))) (h5 : Bx w b5 84 v) (hc : c < K) (hd : Rep g K L w v d F) :
      Rep g K L w (.func (.func 95) #[] #[pt b3, pt b4, pt b5]) (.noted c d) (b3 :: b4 :: b5 :: F)
  | runeOf {b3 b4 b5 N0 : Nat} {v rv : Value} {d : Way} {F : List Nat} {R : Rng} (h3 : Bx w b3 60 (pt g)) (h4 : Bx w b4 25 rv) (h5 : Bx w b5 84 v) (hr : w.ownsRow N0 70 2 rv R.length (fl R)) (hd : Rep g K L w v d F) :
      Rep g K L w (.func (.func 89) #[] #[pt b3, pt b4, pt b5]) (.runeOf R d) (b3 :: b4 :: b5 :: (rv.ownBlock.toList ++ F))
  | inOrder {b1 N0 : Nat} {sv : Value} {l : List Way} {vs : List Value} {F : List Nat} (h1 : Bx w b1 124 sv) (hs : w.ownsRow N0 84 1 sv l.length vs) (hl : Reps g K L w vs l F) :
      Rep g K L w (.func (.func 109) #[] #[pt b1]) (.inOrder l) (b1 :: (sv.ownBlock.toList ++ F))
  | again {b : Nat} (hb : b ∈ L) : Rep g K L w (.func (.func 110) #[] #[pt b]) (.again b) []
inductive Reps (g K : Nat) (L : List Nat) (w : World) : List Value → List Way → List Nat → Prop
  | nil : Reps g K L w [] [] []
  | cons {v : Value} {vs : List Value} {d : Way} {l : List Way} {F G : List Nat} (h : Rep g K L w v d F) (hs : Reps g K L w vs l G) : Reps g K L w (v :: vs) (d :: l) (F ++ G)
end
theorem row_kept {w w' : World} {base e size n : Nat} {v : Value} {xs : List Value} (h : w.ownsRow base e size v n xs) (hk : ∀ b, v.ownBlock = some b → w'.heap[b]? = w.heap[b]?) : w'.ownsRow base e size v n xs := by
  refine ⟨h.1, ?_⟩
  rcases h.2 with hn | ⟨g, cap, cur, rfl, hb, hgg, rest⟩
  · exact .inl hn
  · exact .inr ⟨g, cap, cur, rfl, hb, (hk g rfl).trans hgg, rest⟩
mutual
theorem Rep.kept {g K : Nat} {L : List Nat} {w w' : World} {v : Value} {d : Way} {F : List Nat} (h : Rep g K L w v d F) (hk : ∀ k ∈ F, w'.heap[k]? = w.heap[k]?) : Rep g K L w' v d F := by
  cases h with
  | through => exact .through
  | once h5 h2 h3 hn hd => exact .once ((hk _ (by simp)).trans h5) ((hk _ (by simp)).trans h2) ((hk _ (by simp)).trans h3) hn (hd.kept fun k hkk => hk k (by simp [hkk]))
  | noted h3 h4 h5 hc hd => exact .noted ((hk _ (by simp)).trans h3) ((hk _ (by simp)).trans h4) ((hk _ (by simp)).trans h5) hc (hd.kept fun k hkk => hk k (by simp [hkk]))
  | runeOf h3 h4 h5 hr hd => exact .runeOf ((hk _ (by simp)).trans h3) ((hk _ (by simp)).trans h4) ((hk _ (by simp)).trans h5) (row_kept hr fun b hb => hk b (by simp [hb])) (hd.kept fun k hkk => hk k (by simp [hkk]))
  | inOrder h1 hs hl => exact .inOrder ((hk _ (by simp)).trans h1) (row_kept hs fun b hb => hk b (by simp [hb])) (hl.kept fun k hkk => hk k (by simp [hkk]))
  | again hb => exact .again hb
theorem Reps.kept {g K : Nat} {L : List Nat} {w w' : World} {v : List Value} {d : List Way} {F : List Nat} (h : Reps g K L w v d F) (hk : ∀ k ∈ F, w'.heap[k]? = w.heap[k]?) : Reps g K L w' v d F := by
  cases h with
  | nil => exact .nil
  | cons h hs => exact .cons (h.kept fun k hkk => hk k (by simp [hkk])) (hs.kept fun k hkk => hk k (by simp [hkk]))
end
theorem bx_lt {w : World} {b : Nat} {t : TypeId} {v : Value} (h : Bx w b t v) : b < w.heap.size := (Array.getElem?_eq_some_iff.1 h).1
mutual
theorem Rep.low {g K : Nat} {L : List Nat} {w : World} {v : Value} {d : Way} {F : List Nat} (h : Rep g K L w v d F) : ∀ k ∈ F, k < w.heap.size := by
  cases h with
  | through => intro k hk; cases hk
  | once h5 h2 h3 hn hd =>
    intro k hk
    simp only [List.mem_cons] at hk
    rcases hk with rfl | rfl | rfl | hk
    · exact bx_lt h5
    · exact bx_lt h2
    · exact bx_lt h3
    · exact hd.low k hk
  | noted h3 h4 h5 hc hd =>
    intro k hk
    simp only [List.mem_cons] at hk
    rcases hk with rfl | rfl | rfl | hk
    · exact bx_lt h3
    · exact bx_lt h4
    · exact bx_lt h5
    · exact hd.low k hk
  | runeOf h3 h4 h5 hr hd =>
    intro k hk
    simp only [List.mem_cons, List.mem_append, Option.mem_toList] at hk
    rcases hk with rfl | rfl | rfl | hk | hk
    · exact bx_lt h3
    · exact bx_lt h4
    · exact bx_lt h5
    · exact (hr.lt k hk).2
    · exact hd.low k hk
  | inOrder h1 hs hl =>
    intro k hk
    simp only [List.mem_cons, List.mem_append, Option.mem_toList] at hk
    rcases hk with rfl | hk | hk
    · exact bx_lt h1
    · exact (hs.lt k hk).2
    · exact hl.low k hk
  | again hb => intro k hk; cases hk
theorem Reps.low {g K : Nat} {L : List Nat} {w : World} {v : List Value} {d : List Way} {F : List Nat} (h : Reps g K L w v d F) : ∀ k ∈ F, k < w.heap.size := by
  cases h with
  | nil => intro k hk; cases hk
  | cons h hs =>
    intro k hk
    rcases List.mem_append.1 hk with hk | hk
    · exact h.low k hk
    · exact hs.low k hk
end
/-- what came through, in memory -/
inductive PR (N : Nat) (w : World) : List Value → List (Int × List Int) → List Nat → Prop
  | nil : PR N w [] [] []
  | cons {e : Int} {cp : List Int} {cv : Value} {cs : List Value} {l : List (Int × List Int)} {F : List Nat} (h : w.ownsRow N 3 1 cv cp.length (I64 cp)) (hl : PR N w cs l F) :
      PR N w (.int .i64 e :: cv :: cs) ((e, cp) :: l) (cv.ownBlock.toList ++ F)
theorem PR.kept {N : Nat} {w w' : World} {cs : List Value} {l : List (Int × List Int)} {F : List Nat} (h : PR N w cs l F) (hk : ∀ k ∈ F, w'.heap[k]? = w.heap[k]?) : PR N w' cs l F := by
  induction h with
  | nil => exact .nil
  | cons h hl ih => exact .cons (row_kept h fun b hb => hk b (by simp [hb])) (ih fun k hkk => hk k (by simp [hkk]))
theorem PR.low {N : Nat} {w : World} {cs : List Value} {l : List (Int × List Int)} {F : List Nat} (h : PR N w cs l F) : ∀ k ∈ F, N ≤ k ∧ k < w.heap.size := by
  induction h with
  | nil => intro k hk; cases hk
  | cons h hl ih =>
    intro k hk
    rcases List.mem_append.1 hk with hk | hk
    · exact h.lt k (by simpa using hk)
    · exact ih k hk
theorem PR.snoc {N : Nat} {w : World} {cs : List Value} {l : List (Int × List Int)} {F : List Nat} (h : PR N w cs l F) {e : Int} {cp : List Int} {cv : Value} (hc : w.ownsRow N 3 1 cv cp.length (I64 cp)) : PR N w (cs ++ [.int .i64 e, cv]) (l ++ [(e, cp)]) (F ++ cv.ownBlock.toList) := by
  induction h with
  | nil => simpa using PR.cons (e := e) hc .nil
  | cons h hl ih => rw [List.append_assoc]; exact .cons h ih
/-- what stays of a walk's object: the text, what holds, the whole, how many things, the map, the notes -/
structure Cx where
  tv : Value
  hv : Value
  wh : Value
  n : Int
  mb : Nat
  nb : Nat
  ncap : Nat
  K : Nat
def Cx.nv (C : Cx) : Value := .slice (some ⟨C.nb, 0, none⟩) C.K C.ncap
/-- a walk's object, its map, its notes, what came through; B: the blocks of all these -/
structure WS (N : Nat) (w : World) (g : Nat) (C : Cx) (s : Sg) (B : List Nat) : Prop where
  ex : ∃ pv cs F, w.heap[g]? = some (.cells #[C.tv, C.hv, C.wh, .int .i64 C.n, .map (some C.mb), C.nv, pv] 86 (0, 0)) ∧ w.ownsRow N 53 2 pv s.parses.length cs ∧ PR N w cs s.parses F ∧ C.nb ∉ F ∧
    B = g :: C.mb :: C.nb :: (pv.ownBlock.toList ++ F)
  map : MP w C.mb s.done
  notes : w.ownsRow N 3 1 C.nv s.notes.length (I64 s.notes)
  len : s.notes.length = C.K
  two : 2 ≤ C.K
  few : C.K ≤ 10000
  low : N ≤ g ∧ N ≤ C.mb
end Go.Proofs.Ytnpocciioedgpaa
