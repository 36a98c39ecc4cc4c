/- HELPERS: simple forms: each is sound, simple, its own simple form. -/
import Derived.Test.YtdidopgenhpakaaGg
namespace Go.Proofs.Ytdidopgenhpakaa
open Go.RowKit
set_option linter.unusedVariables false
set_option linter.unusedSimpArgs false
/-- a simple form -/
inductive Nf : Tn → Prop
  | leaf {k : Int} {R : List (Int × Int)} {a mn mx : Int} {lz : Bool} {ix : Int} {nm : ByteArray} (hk : k = 1 ∨ k = 2 ∨ k = 3) (hn : nodeB k R a 0 mn mx lz ix nm = true) : Nf (.mk k R a [] mn mx lz ix nm)
  | cat {s : List Tn} (h2 : 2 ≤ s.length) (h : ∀ u ∈ s, u.kind ≠ 1 ∧ u.kind ≠ 4) (hs : ∀ u ∈ s, Nf u) : Nf (zN 4 s)
  | alt {s : List Tn} (h2 : 2 ≤ s.length) (h : ∀ u ∈ s, u.kind ≠ 5) (hs : ∀ u ∈ s, Nf u) : Nf (zN 5 s)
  | loop {mn mx : Int} {lz : Bool} {y : Tn} (h : (mn = 0 ∧ mx = 1) ∨ (mn = 0 ∧ mx = -1) ∨ (mn = 1 ∧ mx = -1)) (hy : Nf y) : Nf (loopT mn mx lz y)
  | grp {ix : Int} {nm : ByteArray} {y : Tn} (hn : nodeB 7 [] 0 1 0 0 false ix nm = true) (hy : Nf y) : Nf (.mk 7 [] 0 [y] 0 0 false ix nm)
theorem empty_nil : (⟨#[]⟩ : ByteArray).toList.isEmpty = true := by decide +kernel
theorem nf_empty : Nf emptyT := .leaf (.inl rfl) (by simp [nodeB, bareB, empty_nil])
theorem fineL_of {ts : List Tn} (h : ∀ t ∈ ts, t.fine = true) : fineL ts = true := by
  induction ts with
  | nil => rfl
  | cons t ts ih => simp only [fineL, Bool.and_eq_true]; exact ⟨h t (by simp), ih fun u hu => h u (by simp [hu])⟩
theorem Nf.fine {t : Tn} (h : Nf t) : t.fine = true := by
  induction h with
  | leaf hk hn => simp only [Tn.fine, List.length_nil, hn, fineL, Bool.and_true]
  | cat h2 h hs ih => simp only [Tn.fine, Bool.and_eq_true]; exact ⟨by simp [nodeB, bareB, empty_nil, h2], fineL_of ih⟩
  | alt h2 h hs ih => simp only [Tn.fine, Bool.and_eq_true]; exact ⟨by simp [nodeB, bareB, empty_nil, h2], fineL_of ih⟩
  | loop h hy ih =>
    simp only [Tn.fine, Bool.and_eq_true]
    refine ⟨?_, by simp [fineL, ih]⟩
    rcases h with ⟨rfl, rfl⟩ | ⟨rfl, rfl⟩ | ⟨rfl, rfl⟩ <;> simp [nodeB, bareB, empty_nil]
  | grp hn hy ih => simp only [Tn.fine, Bool.and_eq_true]; exact ⟨hn, by simp [fineL, ih]⟩
theorem SL_id {s : List Tn} (h : ∀ u ∈ s, u.S = u) : SL s = s := by
  rw [SL_map]
  conv => rhs; rw [← List.map_id s]
  exact List.map_congr_left fun u hu => h u hu
theorem timesOf_ones (s : List Tn) : timesOf (ones s) = s.length := by
  induction s with
  | nil => rfl
  | cons u s ih =>
    have : ones (u :: s) = (u, 1) :: ones s := rfl
    rw [this, timesOf, ih, List.length_cons]; omega
theorem rowS_ones {k : Int} {s : List Tn} (h : ∀ u ∈ s, u.kind ≠ k) : rowS k (ones s) = s := by
  induction s with
  | nil => rfl
  | cons u s ih =>
    have e : ones (u :: s) = (u, 1) :: ones s := rfl
    rw [e, rowS_cons, ih fun v hv => h v (by simp [hv])]
    simp [within, h u (by simp)]
theorem filter_ones {s : List Tn} (h : ∀ u ∈ s, u.kind ≠ 1) : (ones s).filter keep = ones s := by
  rw [List.filter_eq_self]
  intro x hx
  obtain ⟨u, hu, rfl⟩ := List.mem_map.1 hx
  simp [keep, h u hu]
theorem Nf.S_eq {t : Tn} (h : Nf t) : t.S = t := by
  induction h with
  | @leaf k R a mn mx lz ix nm hk hn => rcases hk with rfl | rfl | rfl <;> simp [Tn.S]
  | @cat s h2 h hs ih =>
    have e : (zN 4 s).S = joinT (ones (SL s)) := by simp [Tn.S]
    rw [e, SL_id ih]
    unfold joinT joinK
    rw [filter_ones fun u hu => (h u hu).1, timesOf_ones, if_neg (by omega), if_neg (by omega)]
    show zN 4 (rowS 4 (ones s)) = zN 4 s
    rw [rowS_ones fun u hu => (h u hu).2]
  | @alt s h2 h hs ih =>
    have e : (zN 5 s).S = rowT 5 (ones (SL s)) := by simp [Tn.S]
    rw [e, SL_id ih]
    show zN 5 (rowS 5 (ones s)) = zN 5 s
    rw [rowS_ones h]
  | @loop mn mx lz y h hy ih =>
    have e : (loopT mn mx lz y).S = repT y.S mn mx lz := by simp [Tn.S, SL]
    rw [e, ih]
    rcases h with ⟨rfl, rfl⟩ | ⟨rfl, rfl⟩ | ⟨rfl, rfl⟩
    · unfold repT
      rw [if_pos (by decide)]
      have k6 : keep (optT y lz 1, 1) = true := by simp [keep, optT, Tn.kind]
      have k0 : keep (y, 0) = false := by simp [keep]
      simp only [Int.sub_zero, Int.toNat_zero, show (1 : Int).toNat = 1 from rfl, joinT, List.filter_cons, List.filter_nil, k0, k6, if_true, Bool.false_eq_true, if_false]
      rfl
    · unfold repT
      rw [if_neg (by decide), if_pos rfl]
    · unfold repT
      rw [if_neg (by decide), if_neg (by decide)]
      have k6 : keep (loopT 1 (-1) lz y, 1) = true := by simp [keep, Tn.kind]
      have k0 : keep (y, 0) = false := by simp [keep]
      simp only [show ((1 : Int) - 1).toNat = 0 from rfl, joinT, List.filter_cons, List.filter_nil, k0, k6, if_true, Bool.false_eq_true, if_false]
      rfl
  | @grp ix nm y hn hy ih => simp [Tn.S, SL, ih]
/-- what a simple form is in a row -/
theorem nf_within {k : Int} (hk : k = 4 ∨ k = 5) {t : Tn} (h : Nf t) : 1 ≤ (within k t).length ∧ ∀ u ∈ within k t, Nf u ∧ u.kind ≠ k ∧ (k = 4 → t.kind ≠ 1 → u.kind ≠ 1) := by
  unfold within
  split
  · rename_i hkk
    cases h with
    | leaf h1 hn => simp only [Tn.kind] at hkk; omega
    | cat h2 h' hs =>
      simp only [Tn.kind] at hkk
      subst hkk
      exact ⟨by simp only [Tn.subs]; omega, fun u hu => ⟨hs u hu, (h' u hu).2, fun _ _ => (h' u hu).1⟩⟩
    | alt h2 h' hs =>
      simp only [Tn.kind] at hkk
      subst hkk
      exact ⟨by simp only [Tn.subs]; omega, fun u hu => ⟨hs u hu, h' u hu, fun e => by omega⟩⟩
    | loop h' hy => simp only [Tn.kind] at hkk; omega
    | grp hn hy => simp only [Tn.kind] at hkk; omega
  · rename_i hkk
    refine ⟨by simp, fun u hu => ?_⟩
    simp at hu
    subst hu
    exact ⟨h, hkk, fun _ h1 => h1⟩
theorem rowS_mem {k : Int} {l : List (Tn × Nat)} {u : Tn} (h : u ∈ rowS k l) : ∃ x ∈ l, u ∈ within k x.1 := by
  simp only [rowS, List.mem_flatMap, List.mem_flatten, List.mem_replicate] at h
  obtain ⟨x, hx, y, ⟨_, rfl⟩, hy⟩ := h
  exact ⟨x, hx, hy⟩
theorem rowS_len {k : Int} {l : List (Tn × Nat)} (h : ∀ x ∈ l, 1 ≤ (within k x.1).length) : timesOf l ≤ (rowS k l).length := by
  induction l with
  | nil => simp [timesOf]
  | cons x l ih =>
    rw [rowS_cons, List.length_append, timesOf]
    have h1 := h x (by simp)
    have h2 := ih fun y hy => h y (by simp [hy])
    have h3 : x.2 ≤ (List.replicate x.2 (within k x.1)).flatten.length := by simp; exact Nat.le_mul_of_pos_right _ h1
    omega
theorem nf_join {l : List (Tn × Nat)} (h : ∀ x ∈ l, Nf x.1) : Nf (joinT l) := by
  unfold joinT joinK
  have hf : ∀ x ∈ l.filter keep, Nf x.1 ∧ x.1.kind ≠ 1 := fun x hx => by
    rw [List.mem_filter] at hx
    refine ⟨h x hx.1, ?_⟩
    have := hx.2
    simp only [keep, Bool.and_eq_true, Bool.not_eq_true', beq_eq_false_iff_ne] at this
    exact this.2
  split
  · exact nf_empty
  · split
    · cases hl : l.filter keep with
      | nil => exact nf_empty
      | cons x l' => exact (hf x (by rw [hl]; simp)).1
    · rename_i h0 h1
      have hlen := rowS_len (k := 4) (l := l.filter keep) fun x hx => (nf_within (.inl rfl) (hf x hx).1).1
      refine .cat (by omega) (fun u hu => ?_) (fun u hu => ?_)
      · obtain ⟨x, hx, hux⟩ := rowS_mem hu
        have := (nf_within (.inl rfl) (hf x hx).1).2 u hux
        exact ⟨this.2.2 rfl (hf x hx).2, this.2.1⟩
      · obtain ⟨x, hx, hux⟩ := rowS_mem hu
        exact ((nf_within (.inl rfl) (hf x hx).1).2 u hux).1
theorem nf_opt {y : Tn} (lz : Bool) (hy : Nf y) : ∀ n, Nf (optT y lz n)
  | 0 => nf_empty
  | 1 => .loop (.inl ⟨rfl, rfl⟩) hy
  | n + 2 => by
    rw [optT_step]
    refine .loop (.inl ⟨rfl, rfl⟩) (nf_join fun x hx => ?_)
    simp at hx
    rcases hx with rfl | rfl
    · exact hy
    · exact nf_opt lz hy (n + 1)
theorem nf_rep {y : Tn} (mn mx : Int) (lz : Bool) (hy : Nf y) : Nf (repT y mn mx lz) := by
  unfold repT
  split
  · refine nf_join fun x hx => ?_
    simp at hx
    rcases hx with rfl | rfl
    · exact hy
    · exact nf_opt lz hy _
  · split
    · exact .loop (.inr (.inl ⟨rfl, rfl⟩)) hy
    · refine nf_join fun x hx => ?_
      simp at hx
      rcases hx with rfl | rfl
      · exact hy
      · exact .loop (.inr (.inr ⟨rfl, rfl⟩)) hy
mutual
theorem nf_S : ∀ t : Tn, t.fine = true → Nf t.S
  | .mk k R a s mn mx lz ix nm, h => by
    simp only [Tn.fine, Bool.and_eq_true] at h
    have ih := nf_SL s h.2
    have hfk := fine_kind h.1
    have hhead : Nf ((SL s).headD emptyT) := by
      cases hs : SL s with
      | nil => exact nf_empty
      | cons u l => exact ih u (by rw [hs]; simp)
    simp only [Tn.S]
    split
    · exact nf_join fun x hx => by obtain ⟨u, hu, rfl⟩ := List.mem_map.1 hx; exact ih u hu
    · split
      · rename_i h4 h5
        have hl2 : 2 ≤ s.length := by omega
        have hw : ∀ x ∈ ones (SL s), Nf x.1 := fun x hx => by obtain ⟨u, hu, rfl⟩ := List.mem_map.1 hx; exact ih u hu
        have hlen := rowS_len (k := 5) (l := ones (SL s)) fun x hx => (nf_within (.inr rfl) (hw x hx)).1
        rw [timesOf_ones, SL_len] at hlen
        refine .alt (by omega) (fun u hu => ?_) (fun u hu => ?_)
        · obtain ⟨x, hx, hux⟩ := rowS_mem hu
          exact ((nf_within (.inr rfl) (hw x hx)).2 u hux).2.1
        · obtain ⟨x, hx, hux⟩ := rowS_mem hu
          exact ((nf_within (.inr rfl) (hw x hx)).2 u hux).1
      · split
        · exact nf_rep mn mx lz hhead
        · split
          · rename_i h7
            subst h7
            refine .grp ?_ hhead
            have hn := h.1
            simp [nodeB, bareB] at hn ⊢
            exact ⟨⟨hn.1.1.1.2, hn.1.1.2⟩, hn.1.2⟩
          · have hk3 : k = 1 ∨ k = 2 ∨ k = 3 := by omega
            have hz : s.length = 0 := by omega
            rw [hz] at h
            exact .leaf hk3 h.1
theorem nf_SL : ∀ ts : List Tn, fineL ts = true → ∀ u ∈ SL ts, Nf u
  | [], _ => fun u hu => by simp [SL] at hu
  | t :: ts, h => fun u hu => by
    simp only [fineL, Bool.and_eq_true] at h
    simp only [SL, List.mem_cons] at hu
    rcases hu with rfl | hu
    · exact nf_S t h.1
    · exact nf_SL ts h.2 u hu
end
mutual
/-- is a tree, below a node of a kind, in simple form? -/
def Tn.simp : Tn → Int → Bool
  | .mk k R a s mn mx lz ix nm, ab => !((k == 6) && (decide (mn > 1) || decide (mx > 1) || mx == 0 || (mn == 1 && mx == 1))) && !((k == 4 && ab == 4) || (k == 5 && ab == 5) || (k == 1 && ab == 4)) && simpL s k
def simpL : List Tn → Int → Bool
  | [], _ => true
  | t :: ts, k => t.simp k && simpL ts k
end
theorem simpL_of {ts : List Tn} {k : Int} (h : ∀ t ∈ ts, t.simp k = true) : simpL ts k = true := by
  induction ts with
  | nil => rfl
  | cons t ts ih => simp only [simpL, Bool.and_eq_true]; exact ⟨h t (by simp), ih fun u hu => h u (by simp [hu])⟩
theorem Nf.simple {t : Tn} (h : Nf t) : ∀ ab, (t.kind = 4 → ab ≠ 4) → (t.kind = 5 → ab ≠ 5) → (t.kind = 1 → ab ≠ 4) → t.simp ab = true := by
  induction h with
  | @leaf k R a mn mx lz ix nm hk hn =>
    intro ab h4 h5 h1
    simp only [Tn.kind] at h4 h5 h1
    rcases hk with rfl | rfl | rfl <;> simp [Tn.simp, simpL, h1]
  | @cat s h2 h hs ih =>
    intro ab h4 h5 h1
    simp only [Tn.kind] at h4
    simp only [Tn.simp, simpL_of fun u hu => ih u hu 4 (fun e => absurd e (h u hu).2) (fun _ => by decide) (fun e => absurd e (h u hu).1)]
    simp [h4]
  | @alt s h2 h hs ih =>
    intro ab h4 h5 h1
    simp only [Tn.kind] at h5
    simp only [Tn.simp, simpL_of fun u hu => ih u hu 5 (fun _ => by decide) (fun e => absurd e (h u hu)) (fun _ => by decide)]
    simp [h5]
  | @loop mn mx lz y h hy ih =>
    intro ab h4 h5 h1
    have := ih 6 (fun _ => by decide) (fun _ => by decide) (fun _ => by decide)
    rcases h with ⟨rfl, rfl⟩ | ⟨rfl, rfl⟩ | ⟨rfl, rfl⟩ <;> simp [Tn.simp, simpL, this]
  | @grp ix nm y hn hy ih =>
    intro ab h4 h5 h1
    have := ih 7 (fun _ => by decide) (fun _ => by decide) (fun _ => by decide)
    simp [Tn.simp, simpL, this]
end Go.Proofs.Ytdidopgenhpakaa
