/- HELPERS: what the walk of RunesClasses uses: what each call answers, the document's too, in one form; what lives in memory. -/
import Derived.Test.YtjglehklfdhgaaaDoorDcI
import Derived.Test.YtjglehklfdhgaaaDoorDcJ
import Derived.Test.YtjglehklfdhgaaaDoorDcL
import Derived.Test.YtjglehklfdhgaaaDoorOwnQ
import Derived.Test.YtjglehklfdhgaaaDoorFold
import Derived.Test.YtjglehklfdhgaaaDoorUnion
import Derived.Test.YtjglehklfdhgaaaDoorNegate
import Derived.Test.YtjglehklfdhgaaaDoorHas
namespace Go.Proofs.YtjglehklfdhgaaaDoor
open Go.RowKit Go.Mx
set_option linter.unusedVariables false
set_option linter.unusedSimpArgs false
def code (ok : Bool) (K : List (Int × Int)) : Int := if ok = true then (if K.length ≤ 5000 then 0 else 3) else 10
def outL (ok : Bool) (K : List (Int × Int)) : List (Int × Int) := if ok = true then (if K.length ≤ 5000 then K else []) else []
theorem outL_len (ok : Bool) (K : List (Int × Int)) : (outL ok K).length ≤ 5000 := by
  unfold outL
  split
  · split
    · assumption
    · simp
  · simp
/-- a list and a code that were answered -/
def Got (w w' : World) (e : Ending) (X : List (Int × Int)) (c : Int) : Prop := ∃ ad m cap, e = .returned (.tuple #[.slice ad m cap, .int .i64 c]) ∧ w'.ownsRow w.heap.size 57 2 (.slice ad m cap) m (fl X) ∧ m = X.length ∧ Below w.heap.size w w'
theorem got_of {w w' : World} {e : Ending} {ok : Bool} {K : List (Int × Int)} (hb : Below w.heap.size w w')
    (h : if ok = true then (if K.length ≤ 5000 then ∃ v, e = .returned (.tuple #[v, .int .i64 0]) ∧ w'.ownsRow w.heap.size 57 2 v K.length (fl K) else e = .returned (.tuple #[.slice none 0 0, .int .i64 3])) else e = .returned (.tuple #[.slice none 0 0, .int .i64 10])) :
    Got w w' e (outL ok K) (code ok K) := by
  unfold outL code
  by_cases h1 : ok = true
  · rw [if_pos h1] at h
    rw [if_pos h1, if_pos h1]
    by_cases h2 : K.length ≤ 5000
    · rw [if_pos h2] at h
      rw [if_pos h2, if_pos h2]
      obtain ⟨v, he, ho⟩ := h
      rcases Joins.ownsRow_forms ho with ⟨rfl, h0⟩ | ⟨g, cap, rfl⟩
      · exact ⟨none, 0, 0, he, by rw [h0] at ho; exact ho, h0.symm, hb⟩
      · exact ⟨_, _, cap, he, ho, rfl, hb⟩
    · rw [if_neg h2] at h
      rw [if_neg h2, if_neg h2]
      exact ⟨none, 0, 0, h, World.ownsRow_nil _ _ _ _, rfl, hb⟩
  · rw [if_neg h1] at h
    rw [if_neg h1, if_neg h1]
    exact ⟨none, 0, 0, h, World.ownsRow_nil _ _ _ _, rfl, hb⟩
theorem RNorm.got {w w' : World} {e : Ending} {ok : Bool} {L : List (Int × Int)} (h : RNorm w w' e ok L) : Got w w' e (outL ok (classL L)) (code ok (classL L)) := by
  refine got_of h.1 ?_
  have h2 := h.2
  by_cases h1 : ok = true
  · rw [if_pos h1] at h2
    rw [if_pos h1]
    exact h2.2
  · rw [if_neg h1] at h2
    rw [if_neg h1]
    exact h2
theorem gather_got {w w' : World} {e : Ending} {L : List (Int × Int)} (hL : L.all okR = true) (h : GatherEnd w.heap.size w w' e (allParts L)) : Got w w' e (outL true (classL L)) (code true (classL L)) := by
  obtain ⟨D, hp, hs, hb, h2⟩ := h
  rw [class_gather L D hL hp hs] at h2
  exact got_of hb (by rw [if_pos rfl]; exact h2)
theorem no_got {w w' : World} {e : Ending} {K : List (Int × Int)} (he : e = .returned (.tuple #[.slice none 0 0, .int .i64 10])) (hb : Below w.heap.size w w') : Got w w' e (outL false K) (code false K) :=
  got_of hb (by rw [if_neg (by simp)]; exact he)
theorem rightB_okR {L : List (Int × Int)} (h : rightB L = true) : L.all okR = true := by
  unfold rightB at h
  rw [Bool.and_eq_true] at h
  exact right_okR h.2
theorem rightB_from {L : List (Int × Int)} (h : rightB L = true) : rightFrom 0 L = true := by
  unfold rightB at h
  rw [Bool.and_eq_true] at h
  exact h.2
def XN (A : List (Int × Int)) : List (Int × Int) := outL (A.all okR) (classL A)
def cN (A : List (Int × Int)) : Int := code (A.all okR) (classL A)
def XU (A B : List (Int × Int)) : List (Int × Int) := outL (rightB A && rightB B) (classL (A ++ B))
def cU (A B : List (Int × Int)) : Int := code (rightB A && rightB B) (classL (A ++ B))
def XG (A : List (Int × Int)) : List (Int × Int) := outL (rightB A) (classL (negFrom 0 A))
def cG (A : List (Int × Int)) : Int := code (rightB A) (classL (negFrom 0 A))
def XF (A : List (Int × Int)) : List (Int × Int) := outL (rightB A) (classL (A ++ allFold A))
def cF (A : List (Int × Int)) : Int := code (rightB A) (classL (A ++ allFold A))
section
variable (A B : List (Int × Int)) (ad aa ab : Option Addr) (n cap na nb ca cb : Nat) (w : World)
theorem norm_got (hn : A.length = n) (hS : n ≤ 1048576) (hl : RowAt w.heap.size w (.slice ad n cap) A) : Calls Tryd.prog 26 #[.slice ad n cap] w fun e w' => Got w w' e (XN A) (cN A) := by
  refine (norm26 A ad n cap w hn.symm (by omega) hl).mono fun e w' h => ?_
  unfold XN cN
  unfold NormEnd at h
  cases hok : A.all okR
  · rw [hok, if_neg (by simp)] at h
    exact no_got h.1 h.2
  · rw [hok, if_pos rfl] at h
    exact gather_got hok h
theorem union_got (hna : A.length = na) (hnb : B.length = nb) (hA2 : na ≤ 1048576) (hB2 : nb ≤ 1048576) (hA : RowAt w.heap.size w (.slice aa na ca) A) (hB : RowAt w.heap.size w (.slice ab nb cb) B) :
    Calls Tryd.prog 27 #[.slice aa na ca, .slice ab nb cb] w fun e w' => Got w w' e (XU A B) (cU A B) := by
  refine (union27 A B aa ab na nb ca cb w hna.symm hnb.symm (by omega) (by omega) hA hB).mono fun e w' h => ?_
  unfold XU cU
  unfold UnionEnd at h
  cases hok : (rightB A && rightB B)
  · rw [hok, if_neg (by simp)] at h
    exact no_got h.1 h.2
  · rw [hok, if_pos rfl] at h
    rw [Bool.and_eq_true] at hok
    exact gather_got (by rw [List.all_append, rightB_okR hok.1, rightB_okR hok.2]; rfl) h
theorem turned_got (hna : A.length = na) (hnb : B.length = nb) (hA2 : na ≤ 1048576) (hB2 : nb ≤ 1048576) (hA : RowAt w.heap.size w (.slice aa na ca) A) (hB : RowAt w.heap.size w (.slice ab nb cb) B) :
    Calls Tryd.prog 27 #[.slice ab nb cb, .slice aa na ca] w fun e w' => Got w w' e (XU A B) (cU A B) := by
  have e1 : XU A B = XU B A := by unfold XU; rw [classL_turn, Bool.and_comm]
  have e2 : cU A B = cU B A := by unfold cU; rw [classL_turn, Bool.and_comm]
  rw [e1, e2]
  exact union_got B A ab aa nb na cb ca w hnb hna hB2 hA2 hB hA
theorem neg_got (hn : A.length = n) (hS : n ≤ 1048576) (hl : RowAt w.heap.size w (.slice ad n cap) A) : Calls Tryd.prog 28 #[.slice ad n cap] w fun e w' => Got w w' e (XG A) (cG A) := by
  refine (negate28 A ad n cap w hn.symm (by omega) hl).mono fun e w' h => ?_
  unfold XG cG
  unfold NegEnd at h
  cases hok : rightB A
  · rw [hok, if_neg (by simp)] at h
    exact no_got h.1 h.2
  · rw [hok, if_pos rfl] at h
    exact gather_got (neg_okR A 0 0 (rightB_from hok) (by omega)) h
theorem fold_got (hn : A.length = n) (hS : n ≤ 1048576) (hl : RowAt w.heap.size w (.slice ad n cap) A) : Calls Tryd.prog 29 #[.slice ad n cap] w fun e w' => Got w w' e (XF A) (cF A) := by
  refine (fold29 A ad n cap w hn.symm (by omega) hl).mono fun e w' h => ?_
  unfold XF cF
  unfold FoldEnd at h
  cases hok : rightB A
  · rw [hok, if_neg (by simp)] at h
    exact no_got h.1 h.2
  · rw [hok, if_pos rfl] at h
    exact gather_got (by rw [List.all_append, rightB_okR hok, allFold_okR]; rfl) h
theorem rnorm_got (hn : A.length = n) (hS : n ≤ 1048576) (hl : RowAt w.heap.size w (.slice ad n cap) A) : Calls Tryd.prog 34 #[.slice ad n cap] w fun e w' => Got w w' e (XN A) (cN A) :=
  (rnorm34 A ad n cap w hn (by omega) hl).mono fun e w' h => h.got
theorem runion_got (hna : A.length = na) (hnb : B.length = nb) (hA2 : na ≤ 1048576) (hB2 : nb ≤ 1048576) (hA : RowAt w.heap.size w (.slice aa na ca) A) (hB : RowAt w.heap.size w (.slice ab nb cb) B) (cA : aa = none → ca = 0) (cB : ab = none → cb = 0) :
    Calls Tryd.prog 35 #[.slice aa na ca, .slice ab nb cb] w fun e w' => Got w w' e (XU A B) (cU A B) :=
  (runion35 A B aa ab na nb ca cb w hna hnb (by omega) (by omega) hA hB cA cB).mono fun e w' h => h.got
theorem rneg_got (hn : A.length = n) (hS : n ≤ 1048576) (hl : RowAt w.heap.size w (.slice ad n cap) A) : Calls Tryd.prog 36 #[.slice ad n cap] w fun e w' => Got w w' e (XG A) (cG A) :=
  (rneg36 A ad n cap w hn (by omega) hl).mono fun e w' h => h.got
theorem rfold_got (hn : A.length = n) (hS : n ≤ 1048576) (hl : RowAt w.heap.size w (.slice ad n cap) A) (hc : ad = none → cap = 0) : Calls Tryd.prog 37 #[.slice ad n cap] w fun e w' => Got w w' e (XF A) (cF A) :=
  (rfold37 A ad n cap w hn (by omega) hl hc).mono fun e w' h => by
    have := h.got
    rw [classL_fold] at this
    exact this
end
/-- what lives: the box of the argument, the lists that were lent, the lists that came out -/
structure Lv (N M : Nat) (w wr : World) (X : Obj) (ms : List (Nat × List (Int × Int))) (rows : List (Value × List (Int × Int))) : Prop where
  below : Below N w wr
  box : wr.heap[N]? = some X
  hM : N < M ∧ M ≤ wr.heap.size
  mar : ∀ m ∈ ms, RowR wr m.1 m.2 ∧ N < m.1 ∧ m.1 < M
  own : ∀ r ∈ rows, wr.ownsRow M 57 2 r.1 r.2.length (fl r.2)
  dis : rows.Pairwise (fun r s => ∀ b, r.1.ownBlock = some b → s.1.ownBlock ≠ some b)
section
variable {N M : Nat} {w wr w1 : World} {X : Obj} {ms : List (Nat × List (Int × Int))} {rows : List (Value × List (Int × Int))}
theorem Lv.next (h : Lv N M w wr X ms rows) (hb : Below wr.heap.size wr w1) : Lv N M w w1 X ms rows where
  below := h.below.trans (hb.mono (by have := h.hM; omega))
  box := (hb.block N (by have := h.hM; omega)).trans h.box
  hM := ⟨h.hM.1, Nat.le_trans h.hM.2 hb.size⟩
  mar := fun m hm => ⟨(h.mar m hm).1.below hb (by have := (h.mar m hm).2.2; have := h.hM; omega), (h.mar m hm).2⟩
  own := fun r hr => own_kept2 (h.own r hr) (fun b hb' => hb.block b ((h.own r hr).lt b hb').2)
  dis := h.dis
theorem Lv.add (h : Lv N M w wr X ms rows) {v : Value} {m : Nat} {K : List (Int × Int)} (hm : m = K.length) (ho : w1.ownsRow wr.heap.size 57 2 v m (fl K)) (hb : Below wr.heap.size wr w1) : Lv N M w w1 X ms ((v, K) :: rows) := by
  subst hm
  have h1 := h.next hb
  refine ⟨h1.below, h1.box, h1.hM, h1.mar, fun r hr => ?_, List.pairwise_cons.2 ⟨fun s hs b hb1 hb2 => ?_, h1.dis⟩⟩
  · rcases List.mem_cons.1 hr with rfl | hr
    · exact own_low ho h.hM.2
    · exact h1.own r hr
  · have h2 := (ho.lt b hb1).1
    have h3 := ((h.own s hs).lt b hb2).2
    omega
theorem Lv.cut (h : Lv N M w wr X ms rows) {g : Nat} {K : List (Int × Int)} {ms' : List (Nat × List (Int × Int))} (hg : (g, K) ∈ ms) (hk : ∀ b, b ≠ g → w1.heap[b]? = wr.heap[b]?) (hb : Below g wr w1) (hms : ∀ m ∈ ms', m ∈ ms ∧ m.1 ≠ g) : Lv N M w w1 X ms' rows := by
  have hg2 := (h.mar _ hg).2
  simp only at hg2
  refine ⟨h.below.trans (hb.mono (by omega)), (hk N (by omega)).trans h.box, ⟨h.hM.1, Nat.le_trans h.hM.2 hb.size⟩, fun m hm => ?_, fun r hr => own_kept2 (h.own r hr) (fun b hb' => hk b ?_), h.dis⟩
  · obtain ⟨h1, h2⟩ := hms m hm
    refine ⟨?_, (h.mar m h1).2⟩
    unfold RowR
    rw [hk m.1 h2]
    exact (h.mar m h1).1
  · have := ((h.own r hr).lt b hb').1
    omega
theorem Lv.x {sa sb sr : Value} (h : Lv N M w wr (.cells #[sa, sb, sr] 44 (0, 0)) ms rows) : wr.cell? ⟨N, 0, none⟩ = some sa ∧ wr.cell? ⟨N, 1, none⟩ = some sb ∧ wr.cell? ⟨N, 2, none⟩ = some sr := by
  refine ⟨?_, ?_, ?_⟩
  · rw [cell_of_row wr N 0 _ 44 (0, 0) h.box]; rfl
  · rw [cell_of_row wr N 1 _ 44 (0, 0) h.box]; rfl
  · rw [cell_of_row wr N 2 _ 44 (0, 0) h.box]; rfl
/-- a list that was lent -/
theorem Lv.lent (h : Lv N M w wr X ms rows) {g : Nat} {L R : List (Int × Int)} (hg : (g, L ++ R) ∈ ms) {n c : Nat} (hn : L.length = n) : RowAt wr.heap.size wr (.slice (some ⟨g, 0, none⟩) n c) L := (h.mar _ hg).1.row hn
/-- a list of the argument -/
theorem Lv.arg (h : Lv N M w wr X ms rows) (hN : N = w.heap.size) {v : Value} {L : List (Int × Int)} (hl : RowAt w.heap.size w v L) : RowAt wr.heap.size wr v L := by
  subst hN
  exact hl.below h.below (Nat.le_refl _) (by have := h.hM; omega)
theorem Lv.row (h : Lv N M w wr X ms rows) {v : Value} {K : List (Int × Int)} (hr : (v, K) ∈ rows) : RowAt wr.heap.size wr v K := row_own rfl (h.own _ hr)
theorem Lv.same (h : Lv N M w wr X ms rows) {aa ab : Option Addr} {m ca cb : Nat} {K : List (Int × Int)} (hm : m = K.length) (hK : K.length ≤ 5000) (h1 : (Value.slice aa m ca, K) ∈ rows) (h2 : (Value.slice ab m cb, K) ∈ rows) (q : Nat) :
    Calls Tryd.prog 38 #[.slice aa m ca, .slice ab m cb] (wr.drewN q) fun e w' => e = .returned (.bool true) ∧ ∃ q', w' = wr.drewN q' :=
  (same38 K aa ab m ca cb wr.heap.size wr.heap.size (wr.drewN q) hm.symm (by omega) (h.row h1) (h.row h2)).mono fun e w' h => ⟨h.1, by obtain ⟨q2, rfl⟩ := h.2; exact ⟨q + q2, by rw [World.drewN_drewN]⟩⟩
theorem Lv.apart (h : Lv N M w wr X ms rows) {i j : Nat} {r s : Value × List (Int × Int)} (hi : rows[i]? = some r) (hj : rows[j]? = some s) (hij : i ≠ j) : ∀ b, r.1.ownBlock = some b → s.1.ownBlock ≠ some b := by
  intro b hb1 hb2
  obtain ⟨hi', rfl⟩ := List.getElem?_eq_some_iff.1 hi
  obtain ⟨hj', rfl⟩ := List.getElem?_eq_some_iff.1 hj
  have hp := List.pairwise_iff_getElem.1 h.dis
  rcases Nat.lt_or_gt_of_ne hij with hlt | hlt
  · exact hp i j hi' hj' hlt b hb1 hb2
  · exact hp j i hj' hi' hlt b hb2 hb1
/-- ownRanges of six lists that came out -/
theorem Lv.six (h : Lv N M w wr X ms rows) (v : Nat → Value) (K : Nat → List (Int × Int)) (idx : Nat → Nat) (hidx : ∀ j, j < 6 → rows[idx j]? = some (v j, K j)) (hinj : ∀ i j, i < 6 → j < 6 → i ≠ j → idx i ≠ idx j) (hl : ∀ j, j < 6 → (K j).length ≤ 5000) (q : Nat) :
    Calls Tryd.prog 39 #[.slice (some ⟨wr.heap.size, 0, none⟩) 6 6] ((wr.drewN q).alloc (.cells #[v 0, v 1, v 2, v 3, v 4, v 5] 42)) fun e w' => e = .returned (.bool true) ∧ Below N w w' := by
  have hown : ∀ j, j < 6 → wr.ownsRow M 57 2 (v j) (K j).length (fl (K j)) := fun j hj => h.own _ (List.mem_of_getElem? (hidx j hj))
  have hsz : ((wr.drewN q).alloc (.cells #[v 0, v 1, v 2, v 3, v 4, v 5] 42)).heap.size = wr.heap.size + 1 := by simp
  have R : Rws 57 42 M wr.heap.size 6 v (fun j => (K j).length) mk0 ((wr.drewN q).alloc (.cells #[v 0, v 1, v 2, v 3, v 4, v 5] 42)) := by
    refine ⟨by omega, by have := h.hM; omega, fun i j hi hj hij b hb => h.apart (hidx i hi) (hidx j hj) (hinj i j hi hj hij) b hb, fun j hj e => ?_, fun j hj b hb => ?_, fun j => rfl⟩
    · have := ((hown j hj).lt _ e).2; omega
    · have := (hown j hj).lt b hb; omega
  refine (own39 M wr.heap.size 6 v (fun j => (K j).length) _ (by omega) R (fun j hj => ⟨K j, (show (wr.drewN q).ownsRow M 57 2 (v j) (K j).length (fl (K j)) from hown j hj).alloc _⟩) (fun j hj => ?_) (fun j hj => by have := hl j hj; show (K j).length ≤ _; omega)).mono fun e w' h2 => ⟨h2.1, ?_⟩
  · have e1 : (wr.drewN q).heap.size = wr.heap.size := rfl
    rw [← e1, World.cell?_alloc_at _ _ _ _ rfl]
    have : j = 0 ∨ j = 1 ∨ j = 2 ∨ j = 3 ∨ j = 4 ∨ j = 5 := by omega
    rcases this with rfl | rfl | rfl | rfl | rfl | rfl <;> rfl
  · have h3 : Below N w ((wr.drewN q).alloc (.cells #[v 0, v 1, v 2, v 3, v 4, v 5] 42)) := (below_drewN h.below q).alloc (by have := h.hM; show N ≤ wr.heap.size; omega) _
    exact h3.trans (h2.2.mono (by have := h.hM; omega))
end
end Go.Proofs.YtjglehklfdhgaaaDoor
