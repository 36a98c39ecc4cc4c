/- HELPERS: the simple form: what a sound tree's is like, how deep. -/
import Derived.Test.YtdidopgenhpakaaFd
namespace Go.Proofs.Ytdidopgenhpakaa
open Go.RowKit
set_option linter.unusedVariables false
set_option linter.unusedSimpArgs false
/-- the nodes that may be, by kinds -/
theorem fine_kind {k : Int} {R : List (Int × Int)} {a : Int} {n : Nat} {mn mx : Int} {lz : Bool} {ix : Int} {nm : ByteArray} (h : nodeB k R a n mn mx lz ix nm = true) :
    ((k = 1 ∨ k = 2 ∨ k = 3) ∧ n = 0 ∧ R.length ≤ 5000) ∨ ((k = 4 ∨ k = 5) ∧ 2 ≤ n) ∨ (k = 6 ∧ n = 1 ∧ 0 ≤ mn ∧ mn ≤ 1000 ∧ (mx = -1 ∨ mn ≤ mx ∧ mx ≤ 1000)) ∨ (k = 7 ∧ n = 1 ∧ 1 ≤ ix ∧ ix ≤ 500) := by
  have hk : k = 1 ∨ k = 2 ∨ k = 3 ∨ k = 4 ∨ k = 5 ∨ k = 6 ∨ k = 7 := (fine_node h).kind
  rcases hk with rfl | rfl | rfl | rfl | rfl | rfl | rfl
  · simp [nodeB, bareB] at h; left; refine ⟨by omega, by omega, ?_⟩; have := h.1; simp [h]
  · simp [nodeB, bareB] at h; left; exact ⟨by omega, by omega, rightB_len h.1⟩
  · simp [nodeB, bareB] at h; left; refine ⟨by omega, by omega, ?_⟩; simp [h]
  · simp [nodeB, bareB] at h; right; left; exact ⟨by omega, by omega⟩
  · simp [nodeB, bareB] at h; right; left; exact ⟨by omega, by omega⟩
  · simp [nodeB, bareB] at h; right; right; left; exact ⟨rfl, by omega, by omega, by omega, by omega⟩
  · simp [nodeB, bareB] at h; right; right; right; exact ⟨rfl, by omega, by omega, by omega⟩
theorem rowS_dle (k : Int) (l : List (Tn × Nat)) {M : Nat} (h : ∀ x ∈ l, x.1.depth ≤ M) : depthL (rowS k l) ≤ M := depthL_le_of fun t ht => by
  simp only [rowS, List.mem_flatMap, List.mem_flatten, List.mem_replicate] at ht
  obtain ⟨x, hx, y, ⟨_, rfl⟩, hy⟩ := ht
  have h1 := h x hx
  unfold within at hy
  split at hy
  · have := depthL_mem hy; have := x.1.depth_subs; omega
  · simp at hy; subst hy; exact h1
theorem joinT_dle (l : List (Tn × Nat)) {M : Nat} (h : ∀ x ∈ l, x.1.depth ≤ M) : (joinT l).depth ≤ M + 1 := by
  unfold joinT joinK
  split
  · simp [Tn.depth, depthL]
  · split
    · cases hl : l.filter keep with
      | nil => simp [Tn.depth, depthL]
      | cons x l' =>
        simp only [List.headD_cons]
        have : x ∈ l.filter keep := by rw [hl]; simp
        have := h x (List.mem_filter.1 this).1
        omega
    · rw [rowT_depth]
      have := rowS_dle 4 (l.filter keep) (M := M) (fun x hx => h x (List.mem_filter.1 hx).1)
      omega
theorem repT_dle (y : Tn) (mn mx : Int) (lz : Bool) (h1 : 0 ≤ mn) (h2 : mn ≤ 1000) (h3 : mx = -1 ∨ mn ≤ mx ∧ mx ≤ 1000) : (repT y mn mx lz).depth ≤ y.depth + 2002 := by
  unfold repT
  split
  · refine joinT_dle _ (M := y.depth + 2001) fun x hx => ?_
    simp at hx
    rcases hx with rfl | rfl
    · simp
    · have := optT_dle y lz (mx - mn).toNat
      simp only
      omega
  · split
    · rw [loopT_depth]; omega
    · refine Nat.le_trans (joinT_dle _ (M := y.depth + 1) fun x hx => ?_) (by omega)
      simp at hx
      rcases hx with rfl | rfl
      · simp
      · simp only [loopT_depth]; omega
theorem SL_len (ts : List Tn) : (SL ts).length = ts.length := by rw [SL_map]; simp
theorem SL_head {ts : List Tn} (h : 0 < ts.length) : (SL ts).headD emptyT = (ts[0]'h).S := by
  cases ts with
  | nil => simp at h
  | cons t ts => rfl
mutual
theorem S_depth : ∀ t : Tn, t.fine = true → t.S.depth ≤ 2003 * t.depth
  | .mk k R a s mn mx lz ix nm, h => by
    simp only [Tn.fine, Bool.and_eq_true] at h
    have ih := SL_depth s h.2
    have hd : (Tn.mk k R a s mn mx lz ix nm).depth = 1 + depthL s := by simp only [Tn.depth]
    rw [hd]
    have hhead : ((SL s).headD emptyT).depth ≤ 2003 * depthL s + 1 := by
      cases hs : SL s with
      | nil => simp [Tn.depth, depthL]
      | cons u l => simp only [List.headD_cons]; have := ih u (by rw [hs]; simp); omega
    simp only [Tn.S]
    split
    · refine Nat.le_trans (joinT_dle _ (M := 2003 * depthL s) fun x hx => ?_) (by omega)
      obtain ⟨u, hu, rfl⟩ := List.mem_map.1 hx
      exact ih u hu
    · split
      · rw [rowT_depth]
        have := rowS_dle 5 (ones (SL s)) (M := 2003 * depthL s) (fun x hx => by obtain ⟨u, hu, rfl⟩ := List.mem_map.1 hx; exact ih u hu)
        omega
      · split
        · rcases fine_kind h.1 with h1 | h1 | h1 | h1
          · omega
          · omega
          · have h1' := h1
            have hl : 0 < s.length := by omega
            have hm : (SL s).headD emptyT ∈ SL s := by
              cases hs : SL s with
              | nil => have := SL_len s; rw [hs] at this; simp at this; omega
              | cons u l => simp
            have := ih _ hm
            have := repT_dle ((SL s).headD emptyT) mn mx lz h1.2.2.1 h1.2.2.2.1 h1.2.2.2.2
            omega
          · omega
        · split
          · simp only [Tn.depth, depthL]; omega
          · simp only [Tn.depth, depthL]; omega
theorem SL_depth : ∀ ts : List Tn, fineL ts = true → ∀ u ∈ SL ts, u.depth ≤ 2003 * depthL ts
  | [], _ => fun u hu => by simp [SL] at hu
  | t :: ts, h => fun u hu => by
    simp only [fineL, Bool.and_eq_true] at h
    simp only [SL, List.mem_cons] at hu
    simp only [depthL]
    rcases hu with rfl | hu
    · have := S_depth t h.1; omega
    · have := SL_depth ts h.2 u hu; omega
end
end Go.Proofs.Ytdidopgenhpakaa
