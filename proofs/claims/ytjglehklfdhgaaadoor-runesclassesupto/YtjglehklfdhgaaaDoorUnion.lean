/- HELPERS: the contract of runes.Union. -/
import Derived.Test.YtjglehklfdhgaaaDoorRight
namespace Go.Proofs.YtjglehklfdhgaaaDoor
open Go.Shelf Go.RowKit Go.Lib Go.Sort Go.Mx
set_option linter.unusedVariables false
set_option linter.unusedSimpArgs false
theorem rightFrom_bd (L : List (Int × Int)) : ∀ ls, rightFrom ls L = true → bdB L := by
  induction L with
  | nil => intro ls _ g hg; simp at hg
  | cons a t ih =>
    intro ls h
    simp only [rightFrom, okG, Bool.and_eq_true] at h
    have hd := h.1.1.2
    intro g hg
    rcases List.mem_cons.1 hg with rfl | hg
    · simp [dom] at hd; omega
    · exact ih _ h.2 g hg
theorem rightB_bd {L : List (Int × Int)} (h : rightB L = true) : bdB L := by
  unfold rightB at h
  rw [Bool.and_eq_true] at h
  exact rightFrom_bd L 0 h.2
theorem rightB_len {L : List (Int × Int)} (h : rightB L = true) : L.length ≤ 5000 := by
  unfold rightB at h
  rw [Bool.and_eq_true] at h
  exact of_decide_eq_true h.1
theorem bdB_append {A B : List (Int × Int)} (ha : bdB A) (hb : bdB B) : bdB (A ++ B) := by
  intro g hg
  rcases List.mem_append.1 hg with h | h
  · exact ha g h
  · exact hb g h
def UnionEnd (N : Nat) (w w' : World) (e : Ending) (A B : List (Int × Int)) : Prop := if (rightB A && rightB B) = true then GatherEnd N w w' e (allParts (A ++ B)) else e = .returned (.tuple #[.slice none 0 0, .int .i64 10]) ∧ Below N w w'
set_option maxHeartbeats 2000000 in
set_option maxRecDepth 1000000 in
theorem union27 (A B : List (Int × Int)) (aa ab : Option Addr) (na nb ca cb : Nat) (w : World) (hna : Hid (na = A.length)) (hnb : Hid (nb = B.length)) (hA2 : na ≤ 17592186044416) (hB2 : nb ≤ 17592186044416)
    (hA : Hid (RowAt w.heap.size w (.slice aa na ca) A)) (hB : Hid (RowAt w.heap.size w (.slice ab nb cb) B)) :
    Calls Tryd.prog 27 #[.slice aa na ca, .slice ab nb cb] w fun e w' => UnionEnd w.heap.size w w' e A B := by
  have hr1 := right25 A aa na ca w hna.out hA2 hA.out
  cases hrA : rightB A
  · rw [hrA] at hr1
    have hE : Hid (∀ w', Below w.heap.size w w' → UnionEnd w.heap.size w w' (.returned (.tuple #[.slice none 0 0, .int .i64 10])) A B) := fun w' hb => by unfold UnionEnd; rw [if_neg (by rw [hrA]; simp)]; exact ⟨rfl, hb⟩
    clear hrA
    go_enter Tryd.func27, Tryd.ntmps27
    go_wp2_with fail
    refine hr1.mono ?_
    rintro e w1 ⟨rfl, hb1⟩
    go_wp2
    go_ret2
    exact hE.out _ hb1
  · rw [hrA] at hr1
    cases hrB : rightB B
    · have hE : Hid (∀ w', Below w.heap.size w w' → UnionEnd w.heap.size w w' (.returned (.tuple #[.slice none 0 0, .int .i64 10])) A B) := fun w' hb => by unfold UnionEnd; rw [if_neg (by rw [hrB]; simp)]; exact ⟨rfl, hb⟩
      have HRB : Hid (rightB B = false) := hrB
      clear hrA hrB
      go_enter Tryd.func27, Tryd.ntmps27
      go_wp2_with fail
      refine hr1.mono ?_
      rintro e w1 ⟨rfl, hb1⟩
      have hs1 := hb1.size
      have hr2 := right25 B ab nb cb w1 hnb.out hB2 (hB.out.below hb1 (Nat.le_refl _) hs1)
      rw [HRB.out] at hr2
      go_wp2_with fail
      refine hr2.mono ?_
      rintro e w2 ⟨rfl, hb2⟩
      go_wp2
      go_ret2
      exact hE.out _ (hb1.trans (hb2.mono hs1))
    · have hE : Hid (∀ w' e, GatherEnd w.heap.size w w' e (allParts (A ++ B)) → UnionEnd w.heap.size w w' e A B) := fun w' e hg => by unfold UnionEnd; rw [if_pos (by rw [hrA, hrB]; rfl)]; exact hg
      have HRB : Hid (rightB B = true) := hrB
      have HRA : Hid (rightB A = true) := hrA
      clear hrA hrB
      go_enter Tryd.func27, Tryd.ntmps27
      go_wp2_with fail
      refine hr1.mono ?_
      rintro e w1 ⟨rfl, hb1⟩
      have hs1 := hb1.size
      have hr2 := right25 B ab nb cb w1 hnb.out hB2 (hB.out.below hb1 (Nat.le_refl _) hs1)
      rw [HRB.out] at hr2
      go_wp2_with fail
      refine hr2.mono ?_
      rintro e w2 ⟨rfl, hb2⟩
      have hbw2 := hb1.trans (hb2.mono hs1)
      have hs2 := hbw2.size
      have hfl : [A, B].flatten = A ++ B := by simp
      have hbw3 : Below w.heap.size w (w2.alloc (.cells #[.slice aa na ca, .slice ab nb cb] 42)) := hbw2.alloc hs2 _
      have hc0 : (w2.alloc (.cells #[.slice aa na ca, .slice ab nb cb] 42)).cell? ⟨w2.heap.size, 0 + 0, none⟩ = some (.slice aa na ca) := (World.cell?_alloc_at _ _ _ 0 rfl).trans rfl
      have hc1 : (w2.alloc (.cells #[.slice aa na ca, .slice ab nb cb] 42)).cell? ⟨w2.heap.size, 0 + 1, none⟩ = some (.slice ab nb cb) := (World.cell?_alloc_at _ _ _ 1 rfl).trans rfl
      have hrA3 := hA.out.below hbw3 (Nat.le_refl _) hbw3.size
      have hrB3 := hB.out.below hbw3 (Nat.le_refl _) hbw3.size
      have hg := gather47 [A, B] w2.heap.size 0 2 2 10000 (w2.alloc (.cells #[.slice aa na ca, .slice ab nb cb] 42)) rfl (by show ([A, B].flatten).length ≤ 10000; rw [hfl, List.length_append]; have := rightB_len HRA.out; have := rightB_len HRB.out; omega) (by omega) (by omega) (by show bdB [A, B].flatten; rw [hfl]; exact bdB_append (rightB_bd HRA.out) (rightB_bd HRB.out)) (by simp)
        (by intro j hj
            match j, hj with
            | 0, _ => exact ⟨_, hc0, hrA3⟩
            | 1, _ => exact ⟨_, hc1, hrB3⟩)
      rw [hfl] at hg
      clear hfl hc0 hc1 hrA3 hrB3
      go_wp2_with (go_at_call 47; refine hg.mono ?_; intro e w4 hG; obtain ⟨v4, c4, rfl⟩ := hG.form)
      go_ret2
      exact hE.out _ _ (hG.low hbw3 (by simp; omega))
end Go.Proofs.YtjglehklfdhgaaaDoor
