/- HELPERS: what RunesSets asks of classes. -/
import Derived.Test.YtjglehklfdhgaabDoorEdL
namespace Go.Proofs.YtjglehklfdhgaabDoor
open Go.Shelf Go.RowKit Go.Lib Go.Sort Go.Mx
set_option linter.unusedVariables false
set_option linter.unusedSimpArgs false
/-- there is a class of these runes, of at most 5000 ranges -/
def HasU (X : List (Int × Int)) : Prop := ∃ C, rightFrom 0 C = true ∧ C.length ≤ 5000 ∧ ∀ r, hasB C r = (dom r && hasB X r)
theorem hasU_few {X : List (Int × Int)} (hX : X.all okR = true) (hl : (allParts X).length ≤ 5000) : HasU X := by
  let le : Int × Int → Int × Int → Bool := fun x y => decide (x.1 ≤ y.1)
  have hp : ((allParts X).mergeSort le).Perm (allParts X) := List.mergeSort_perm _ _
  have hs : ((allParts X).mergeSort le).Pairwise (fun x y => x.1 ≤ y.1) := by
    have := List.pairwise_mergeSort (le := le) (fun a b c h1 h2 => by simp only [le, decide_eq_true_eq] at *; omega) (fun a b => by simp only [le, Bool.or_eq_true, decide_eq_true_eq]; omega) (allParts X)
    exact this.imp (fun h => by simpa [le] using h)
  obtain ⟨h1, h2⟩ := gather_means X _ hX hp hs
  have h3 := mergeL_len ((allParts X).mergeSort le)
  rw [hp.length_eq] at h3
  exact ⟨_, h1, by omega, h2⟩
theorem gather_none {w w' : World} {e : Ending} {X : List (Int × Int)} (h : GatherEnd w.heap.size w w' e (allParts X)) (hX : X.all okR = true) (hn : ¬ HasU X) : e = .returned (.tuple #[.slice none 0 0, .int .i64 3]) ∧ Below w.heap.size w w' := by
  rcases gather_all h hX with ⟨C, h1, h2, h3, h4⟩ | h
  · exact absurd ⟨C, h2, h3, h4⟩ hn
  · exact h
/-- some answer -/
def SomeG (w w' : World) (e : Ending) : Prop := ∃ v x, e = .returned (.tuple #[v, .int .i64 x]) ∧ Below w.heap.size w w'
theorem gather_some {w w' : World} {e : Ending} {P : List (Int × Int)} (h : GatherEnd w.heap.size w w' e P) : SomeG w w' e := by
  obtain ⟨D, hp, hs, hb, hv⟩ := h
  split at hv
  · obtain ⟨v, he, _⟩ := hv
    exact ⟨_, _, he, hb⟩
  · exact ⟨_, _, hv, hb⟩
theorem unionX_ok {A B : List (Int × Int)} (rA : rightFrom 0 A = true) (rB : rightFrom 0 B = true) : (A ++ B).all okR = true := by rw [List.all_append, right_okR rA, right_okR rB]; rfl
theorem foldX_ok {A : List (Int × Int)} (rA : rightFrom 0 A = true) : (A ++ allFold A).all okR = true := by rw [List.all_append, right_okR rA, allFold_okR]; rfl
theorem union_none (A B : List (Int × Int)) (aa ab : Option Addr) (na nb ca cb : Nat) (w : World) (hna : na = A.length) (hnb : nb = B.length) (hA : RowAt w.heap.size w (.slice aa na ca) A) (hB : RowAt w.heap.size w (.slice ab nb cb) B)
    (rA : rightFrom 0 A = true) (lA : A.length ≤ 5000) (rB : rightFrom 0 B = true) (lB : B.length ≤ 5000) (hn : ¬ HasU (A ++ B)) :
    Calls Tryd.prog 7 #[.slice aa na ca, .slice ab nb cb] w fun e w' => e = .returned (.tuple #[.slice none 0 0, .int .i64 3]) ∧ Below w.heap.size w w' := by
  refine (union27 A B aa ab na nb ca cb w hna hnb (by omega) (by omega) hA hB).mono fun e w' h => ?_
  unfold UnionEnd at h
  rw [if_pos (by rw [rightB_of rA lA, rightB_of rB lB]; rfl)] at h
  exact gather_none h (unionX_ok rA rB) hn
theorem neg_some (A : List (Int × Int)) (ad : Option Addr) (n cap : Nat) (w : World) (hn : n = A.length) (hA : RowAt w.heap.size w (.slice ad n cap) A) (rA : rightFrom 0 A = true) (lA : A.length ≤ 5000) :
    Calls Tryd.prog 8 #[.slice ad n cap] w fun e w' => SomeG w w' e := by
  refine (negate28 A ad n cap w hn (by omega) hA).mono fun e w' h => ?_
  unfold NegEnd at h
  rw [if_pos (rightB_of rA lA)] at h
  exact gather_some h
theorem neg_none (A : List (Int × Int)) (ad : Option Addr) (n cap : Nat) (w : World) (hn : n = A.length) (hA : RowAt w.heap.size w (.slice ad n cap) A) (rA : rightFrom 0 A = true) (lA : A.length ≤ 5000) (hN : ¬ HasU (negFrom 0 A)) :
    Calls Tryd.prog 8 #[.slice ad n cap] w fun e w' => e = .returned (.tuple #[.slice none 0 0, .int .i64 3]) ∧ Below w.heap.size w w' := by
  refine (negate28 A ad n cap w hn (by omega) hA).mono fun e w' h => ?_
  unfold NegEnd at h
  rw [if_pos (rightB_of rA lA)] at h
  exact gather_none h (neg_okR A 0 0 rA (by omega)) hN
theorem fold_some (A : List (Int × Int)) (ad : Option Addr) (n cap : Nat) (w : World) (hn : n = A.length) (hA : RowAt w.heap.size w (.slice ad n cap) A) (rA : rightFrom 0 A = true) (lA : A.length ≤ 5000) :
    Calls Tryd.prog 9 #[.slice ad n cap] w fun e w' => SomeG w w' e := by
  refine (fold29 A ad n cap w hn (by omega) hA).mono fun e w' h => ?_
  unfold FoldEnd at h
  rw [if_pos (rightB_of rA lA)] at h
  exact gather_some h
theorem fold_none (A : List (Int × Int)) (ad : Option Addr) (n cap : Nat) (w : World) (hn : n = A.length) (hA : RowAt w.heap.size w (.slice ad n cap) A) (rA : rightFrom 0 A = true) (lA : A.length ≤ 5000) (hN : ¬ HasU (A ++ allFold A)) :
    Calls Tryd.prog 9 #[.slice ad n cap] w fun e w' => e = .returned (.tuple #[.slice none 0 0, .int .i64 3]) ∧ Below w.heap.size w w' := by
  refine (fold29 A ad n cap w hn (by omega) hA).mono fun e w' h => ?_
  unfold FoldEnd at h
  rw [if_pos (rightB_of rA lA)] at h
  exact gather_none h (foldX_ok rA) hN
theorem full_u {A B : List (Int × Int)} (rA : rightFrom 0 A = true) (rB : rightFrom 0 B = true) (hn : ¬ HasU (A ++ B)) : 2000 < A.length ∨ 2000 < B.length := by
  rcases Nat.lt_or_ge 2000 A.length with h | h
  · exact .inl h
  · rcases Nat.lt_or_ge 2000 B.length with h' | h'
    · exact .inr h'
    · have hg : ∀ g ∈ A ++ B, goodG g := fun g hg => by
        rcases List.mem_append.1 hg with h | h
        · exact right_good A 0 rA g h
        · exact right_good B 0 rB g h
      have hl := allParts_one (A ++ B) hg
      rw [List.length_append] at hl
      exact absurd (hasU_few (unionX_ok rA rB) (by omega)) hn
theorem full_n {A : List (Int × Int)} (rA : rightFrom 0 A = true) (hn : ¬ HasU (negFrom 0 A)) : 2000 < A.length := by
  rcases Nat.lt_or_ge 2000 A.length with h | h
  · exact h
  · have h1 := negFrom_len A 0
    have h2 := allParts_len (negFrom 0 A)
    exact absurd (hasU_few (neg_okR A 0 0 rA (by omega)) (by omega)) hn
theorem full_o {A : List (Int × Int)} (rA : rightFrom 0 A = true) (hn : ¬ HasU (A ++ allFold A)) : 2000 < A.length := by
  rcases Nat.lt_or_ge 2000 A.length with h | h
  · exact h
  · have h1 := allFold_short A (rightB_of rA (by omega))
    have h2 := allParts_len (A ++ allFold A)
    rw [List.length_append] at h2
    exact absurd (hasU_few (foldX_ok rA) (by omega)) hn
theorem neg_runes {A : List (Int × Int)} (rA : rightFrom 0 A = true) (r : Int) : (dom r && hasB (negFrom 0 A) r) = (dom r && !hasB A r) := by
  rw [neg_has r A 0 0 rA (by omega)]
  cases hd : dom r
  · simp
  · have : 0 ≤ r ∧ r ≤ 1114111 := by simp [dom] at hd; omega
    simp [this.1, this.2]
/-- Has of a class -/
theorem hasC (C : List (Int × Int)) (ad : Option Addr) (n cap : Nat) (r : Int) (w : World) (hn : n = C.length) (h1 : rightFrom 0 C = true) (h2 : C.length ≤ 5000) (hl : RowAt w.heap.size w (.slice ad n cap) C) (b : Bool) (hb : hasB C r = b) :
    Calls Tryd.prog 14 #[.slice ad n cap, .int .i64 r] w fun e w' => e = .returned (.bool b) ∧ Below w.heap.size w w' := by
  have h := has30 C ad n cap r w hn (by omega) hl
  rw [rightB_of h1 h2, hb, Bool.true_and] at h
  exact h
/-- what the walk keeps -/
structure St3 (w0 : World) (g : Nat) (vA vB vR : Value) (S : List (Value × List (Int × Int))) (w : World) : Prop where
  b0 : w.cell? ⟨g, 0, none⟩ = some vA
  b1 : w.cell? ⟨g, 1, none⟩ = some vB
  b2 : w.cell? ⟨g, 2, none⟩ = some vR
  bg : g < w.heap.size
  all : All w S
  bel : Below w0.heap.size w0 w
theorem St3.next {w0 : World} {g : Nat} {vA vB vR : Value} {S : List (Value × List (Int × Int))} {w w' : World} (h : St3 w0 g vA vB vR S w) (hb : Below w.heap.size w w') : St3 w0 g vA vB vR S w' :=
  ⟨(hb.cell (p := ⟨g, 0, none⟩) h.bg).trans h.b0, (hb.cell (p := ⟨g, 1, none⟩) h.bg).trans h.b1, (hb.cell (p := ⟨g, 2, none⟩) h.bg).trans h.b2, Nat.lt_of_lt_of_le h.bg hb.size, h.all.next hb, h.bel.trans (hb.mono h.bel.size)⟩
theorem St3.add {w0 : World} {g : Nat} {vA vB vR : Value} {S : List (Value × List (Int × Int))} {w : World} (h : St3 w0 g vA vB vR S w) {v : Value} {C : List (Int × Int)} (hc : RowAt w.heap.size w v C) : St3 w0 g vA vB vR ((v, C) :: S) w :=
  ⟨h.b0, h.b1, h.b2, h.bg, h.all.add hc, h.bel⟩
theorem St3.get {w0 : World} {g : Nat} {vA vB vR : Value} {S : List (Value × List (Int × Int))} {w : World} (h : St3 w0 g vA vB vR S w) (k : Nat) {v : Value} {C : List (Int × Int)} (hk : S[k]? = some (v, C)) : RowAt w.heap.size w v C :=
  h.all (v, C) (List.mem_of_getElem? hk)
theorem St3.new (w0 : World) (vA vB vR : Value) (LA LB : List (Int × Int)) (hA : RowAt w0.heap.size w0 vA LA) (hB : RowAt w0.heap.size w0 vB LB) : St3 w0 w0.heap.size vA vB vR [(vA, LA), (vB, LB)] (w0.alloc (.cells #[vA, vB, vR] 25)) := by
  have hb : Below w0.heap.size w0 (w0.alloc (.cells #[vA, vB, vR] 25)) := (Below.refl _ _).alloc (Nat.le_refl _) _
  refine ⟨?_, ?_, ?_, by simp, ?_, hb⟩
  · rw [World.cell?_alloc_at _ _ _ _ rfl]; rfl
  · rw [World.cell?_alloc_at _ _ _ _ rfl]; rfl
  · rw [World.cell?_alloc_at _ _ _ _ rfl]; rfl
  · intro x hx
    simp only [List.mem_cons, List.not_mem_nil, or_false] at hx
    rcases hx with rfl | rfl
    · exact hA.next hb
    · exact hB.next hb
end Go.Proofs.YtjglehklfdhgaabDoor
