/- HELPERS: the groups of a tree and of its simple form. -/
import Derived.Test.YtdidopgenhpakaaSc
namespace Go.Proofs.Ytdidopgenhpakaa
open Go.RowKit
set_option linter.unusedVariables false
set_option linter.unusedSimpArgs false
abbrev Gk := Int × List UInt8
abbrev gkey (p : Int × ByteArray) : Gk := (p.1, p.2.toList)
def hasG (L : List (Int × ByteArray)) (ix : Int) (nm : ByteArray) : Bool := L.any fun p => p.1 == ix && p.2.toList == nm.toList
def addG (L : List (Int × ByteArray)) (ix : Int) (nm : ByteArray) : List (Int × ByteArray) := if hasG L ix nm then L else L ++ [(ix, nm)]
theorem hasG_iff (L : List (Int × ByteArray)) (ix : Int) (nm : ByteArray) : hasG L ix nm = true ↔ ∃ p ∈ L, gkey p = (ix, nm.toList) := by
  simp only [hasG, List.any_eq_true, Bool.and_eq_true, beq_iff_eq, gkey, Prod.mk.injEq]
theorem hasG_take (L : List (Int × ByteArray)) (ix : Int) (nm : ByteArray) (i : Nat) (hi : i < L.length) : hasG (L.take (i + 1)) ix nm = (hasG (L.take i) ix nm || (L[i].1 == ix && L[i].2.toList == nm.toList)) := by
  unfold hasG
  rw [List.take_succ_eq_append_getElem hi, List.any_append]; simp
mutual
/-- what is gathered of a tree's groups -/
def Tn.grp : Tn → List (Int × ByteArray) → List (Int × ByteArray)
  | .mk k _ _ s _ mx _ ix nm, L => if k = 6 ∧ mx = 0 then L else grpL s (if k = 7 then addG L ix nm else L)
def grpL : List Tn → List (Int × ByteArray) → List (Int × ByteArray)
  | [], L => L
  | t :: ts, L => grpL ts (t.grp L)
end
mutual
/-- a group that counts -/
def Tn.inG (q : Gk) : Tn → Prop
  | .mk k _ _ s _ mx _ ix nm => ¬ (k = 6 ∧ mx = 0) ∧ ((k = 7 ∧ (ix, nm.toList) = q) ∨ inGL q s)
def inGL (q : Gk) : List Tn → Prop
  | [] => False
  | t :: ts => t.inG q ∨ inGL q ts
end
theorem inGL_iff {q : Gk} {ts : List Tn} : inGL q ts ↔ ∃ u ∈ ts, u.inG q := by
  induction ts with
  | nil => simp [inGL]
  | cons t ts ih => simp [inGL, ih]
theorem addG_mem (L : List (Int × ByteArray)) (ix : Int) (nm : ByteArray) (q : Gk) : (∃ p ∈ addG L ix nm, gkey p = q) ↔ (∃ p ∈ L, gkey p = q) ∨ (ix, nm.toList) = q := by
  unfold addG
  split
  · rename_i h
    rw [hasG_iff] at h
    constructor
    · exact fun h => .inl h
    · rintro (h' | rfl)
      · exact h'
      · exact h
  · constructor
    · rintro ⟨p, hp, rfl⟩
      rw [List.mem_append] at hp
      rcases hp with hp | hp
      · exact .inl ⟨p, hp, rfl⟩
      · simp at hp; subst hp; exact .inr rfl
    · rintro (⟨p, hp, rfl⟩ | rfl)
      · exact ⟨p, by simp [hp], rfl⟩
      · exact ⟨(ix, nm), by simp, rfl⟩
theorem addG_nodup {L : List (Int × ByteArray)} (h : (L.map gkey).Nodup) (ix : Int) (nm : ByteArray) : ((addG L ix nm).map gkey).Nodup := by
  unfold addG
  split
  · exact h
  · rename_i hn
    rw [List.map_append, List.nodup_append]
    refine ⟨h, by simp, fun a ha b hb e => ?_⟩
    simp at hb
    subst e hb
    obtain ⟨p, hp, he⟩ := List.mem_map.1 ha
    exact hn ((hasG_iff L ix nm).2 ⟨p, hp, he⟩)
mutual
theorem grp_mem : ∀ (t : Tn) (L : List (Int × ByteArray)) (q : Gk), (∃ p ∈ t.grp L, gkey p = q) ↔ (∃ p ∈ L, gkey p = q) ∨ t.inG q
  | .mk k R a s mn mx lz ix nm, L, q => by
    simp only [Tn.grp, Tn.inG]
    by_cases h : k = 6 ∧ mx = 0
    · rw [if_pos h]; simp [h]
    · rw [if_neg h, grpL_mem s _ q]
      by_cases h7 : k = 7
      · rw [if_pos h7, addG_mem]
        subst h7
        simp [or_assoc]
      · rw [if_neg h7]
        simp only [h, not_false_eq_true, h7, false_and, false_or, true_and]
theorem grpL_mem : ∀ (ts : List Tn) (L : List (Int × ByteArray)) (q : Gk), (∃ p ∈ grpL ts L, gkey p = q) ↔ (∃ p ∈ L, gkey p = q) ∨ inGL q ts
  | [], L, q => by simp [grpL, inGL]
  | t :: ts, L, q => by simp only [grpL, inGL]; rw [grpL_mem ts _ q, grp_mem t L q, or_assoc]
end
mutual
theorem grp_nodup : ∀ (t : Tn) (L : List (Int × ByteArray)), (L.map gkey).Nodup → ((t.grp L).map gkey).Nodup
  | .mk k R a s mn mx lz ix nm, L, hL => by
    simp only [Tn.grp]
    split
    · exact hL
    · refine grpL_nodup s _ ?_
      split
      · exact addG_nodup hL ix nm
      · exact hL
theorem grpL_nodup : ∀ (ts : List Tn) (L : List (Int × ByteArray)), (L.map gkey).Nodup → ((grpL ts L).map gkey).Nodup
  | [], L, hL => hL
  | t :: ts, L, hL => grpL_nodup ts _ (grp_nodup t L hL)
end
mutual
theorem grp_len : ∀ (t : Tn) (L : List (Int × ByteArray)), (t.grp L).length ≤ L.length + t.nodes
  | .mk k R a s mn mx lz ix nm, L => by
    simp only [Tn.grp, Tn.nodes]
    split
    · omega
    · have := grpL_len s (if k = 7 then addG L ix nm else L)
      have h2 : (if k = 7 then addG L ix nm else L).length ≤ L.length + 1 := by
        split
        · unfold addG; split <;> simp
        · omega
      omega
theorem grpL_len : ∀ (ts : List Tn) (L : List (Int × ByteArray)), (grpL ts L).length ≤ L.length + nodesL ts
  | [], L => by simp [grpL]
  | t :: ts, L => by simp only [grpL, nodesL]; have := grpL_len ts (t.grp L); have := grp_len t L; omega
end
/-- in a row -/
theorem inG_zN {k : Int} (hk : k = 4 ∨ k = 5) {s : List Tn} {q : Gk} : (zN k s).inG q ↔ ∃ u ∈ s, u.inG q := by
  simp only [Tn.inG, inGL_iff]
  constructor
  · rintro ⟨_, ⟨h, _⟩ | h⟩
    · omega
    · exact h
  · exact fun h => ⟨by omega, .inr h⟩
theorem inG_within {k : Int} (hk : k = 4 ∨ k = 5) {t : Tn} {q : Gk} : (∃ u ∈ within k t, u.inG q) ↔ t.inG q := by
  unfold within
  split
  · rename_i h
    cases t with
    | mk k' R a s mn mx lz ix nm =>
      simp only [Tn.kind] at h
      subst h
      simp only [Tn.subs, Tn.inG, inGL_iff]
      constructor
      · exact fun h => ⟨by omega, .inr h⟩
      · rintro ⟨_, ⟨h, _⟩ | h⟩
        · omega
        · exact h
  · simp
theorem inG_row {k : Int} (hk : k = 4 ∨ k = 5) {l : List (Tn × Nat)} {q : Gk} : (rowT k l).inG q ↔ ∃ x ∈ l, 0 < x.2 ∧ x.1.inG q := by
  rw [inG_zN hk]
  constructor
  · rintro ⟨u, hu, hq⟩
    simp only [rowS, List.mem_flatMap, List.mem_flatten, List.mem_replicate] at hu
    obtain ⟨x, hx, y, ⟨h0, rfl⟩, hy⟩ := hu
    exact ⟨x, hx, by omega, (inG_within hk).1 ⟨u, hy, hq⟩⟩
  · rintro ⟨x, hx, h0, hq⟩
    obtain ⟨u, hu, hq'⟩ := (inG_within hk).2 hq
    refine ⟨u, ?_, hq'⟩
    simp only [rowS, List.mem_flatMap, List.mem_flatten, List.mem_replicate]
    exact ⟨x, hx, within k x.1, ⟨by omega, rfl⟩, hu⟩
theorem nf_one {t : Tn} (h : Nf t) (h1 : t.kind = 1) (q : Gk) : ¬ t.inG q := by
  cases h with
  | leaf hk hn => simp only [Tn.kind] at h1; simp [Tn.inG, inGL, h1]
  | cat h2 h hs => simp [Tn.kind] at h1
  | alt h2 h hs => simp [Tn.kind] at h1
  | loop h hy => simp [Tn.kind] at h1
  | grp hn hy => simp [Tn.kind] at h1
theorem not_empty (q : Gk) : ¬ emptyT.inG q := nf_one nf_empty rfl q
theorem inG_join {l : List (Tn × Nat)} (hl : ∀ x ∈ l, Nf x.1) {q : Gk} : (joinT l).inG q ↔ ∃ x ∈ l, 0 < x.2 ∧ x.1.inG q := by
  have hf : (∃ x ∈ l.filter keep, 0 < x.2 ∧ x.1.inG q) ↔ ∃ x ∈ l, 0 < x.2 ∧ x.1.inG q := by
    constructor
    · rintro ⟨x, hx, h⟩
      exact ⟨x, (List.mem_filter.1 hx).1, h⟩
    · rintro ⟨x, hx, h0, hq⟩
      refine ⟨x, List.mem_filter.2 ⟨hx, ?_⟩, h0, hq⟩
      simp only [keep, Bool.and_eq_true, decide_eq_true_eq, Bool.not_eq_true', beq_eq_false_iff_ne]
      exact ⟨h0, fun h1 => nf_one (hl x hx) h1 q hq⟩
  rw [← hf]
  have hp : ∀ x ∈ l.filter keep, 0 < x.2 := fun x hx => by
    have := (List.mem_filter.1 hx).2
    simp only [keep, Bool.and_eq_true, decide_eq_true_eq] at this
    exact this.1
  unfold joinT joinK
  split
  · rename_i h0
    constructor
    · exact fun h => absurd h (not_empty q)
    · rintro ⟨x, hx, h1, _⟩
      exfalso
      have : ∀ (l : List (Tn × Nat)), x ∈ l → x.2 ≤ timesOf l := by
        intro l
        induction l with
        | nil => intro h; cases h
        | cons y l ih =>
          intro h
          simp only [timesOf]
          rcases List.mem_cons.1 h with rfl | h
          · omega
          · have := ih h; omega
      have := this _ hx
      omega
  · split
    · rename_i h0 h1
      cases hfl : l.filter keep with
      | nil => rw [hfl] at h1; simp [timesOf] at h1
      | cons x l' =>
        have hl' : l' = [] := by
          cases l' with
          | nil => rfl
          | cons y l'' =>
            rw [hfl] at h1 hp
            simp only [timesOf] at h1
            have := hp x (by simp)
            have := hp y (by simp)
            omega
        subst hl'
        have := hp x (by rw [hfl]; simp)
        simp [this]
    · exact inG_row (.inl rfl)
theorem inG_loop {mn mx : Int} {lz : Bool} {y : Tn} {q : Gk} (h : mx ≠ 0) : (loopT mn mx lz y).inG q ↔ y.inG q := by
  simp only [Tn.inG, inGL]
  constructor
  · rintro ⟨_, ⟨h, _⟩ | h | h⟩
    · omega
    · exact h
    · exact h.elim
  · exact fun h' => ⟨fun hh => h hh.2, .inr (.inl h')⟩
theorem inG_opt {y : Tn} {lz : Bool} {q : Gk} (hy : Nf y) : ∀ n, (optT y lz n).inG q ↔ 0 < n ∧ y.inG q
  | 0 => by
    have e : optT y lz 0 = emptyT := rfl
    rw [e]
    exact ⟨fun h => absurd h (not_empty q), fun h => absurd h.1 (by omega)⟩
  | 1 => by
    have e : optT y lz 1 = loopT 0 1 lz y := rfl
    rw [e, inG_loop (by decide)]
    simp
  | n + 2 => by
    rw [optT_step, inG_loop (by decide), inG_join]
    · constructor
      · rintro ⟨x, hx, h0, hq⟩
        simp at hx
        rcases hx with rfl | rfl
        · exact ⟨by omega, hq⟩
        · exact ⟨by omega, ((inG_opt hy (n + 1)).1 hq).2⟩
      · rintro ⟨_, hq⟩
        exact ⟨(y, 1), by simp, by simp, hq⟩
    · intro x hx
      simp at hx
      rcases hx with rfl | rfl
      · exact hy
      · exact nf_opt lz hy (n + 1)
theorem inG_rep {y : Tn} {mn mx : Int} {lz : Bool} {q : Gk} (hy : Nf y) (h1 : 0 ≤ mn) (h3 : mx = -1 ∨ mn ≤ mx ∧ mx ≤ 1000) : (repT y mn mx lz).inG q ↔ mx ≠ 0 ∧ y.inG q := by
  unfold repT
  split
  · rename_i hm
    rw [inG_join]
    · constructor
      · rintro ⟨x, hx, h0, hq⟩
        simp at hx
        rcases hx with rfl | rfl
        · simp only at h0 hq; exact ⟨by omega, hq⟩
        · simp only at h0 hq
          have := (inG_opt hy _).1 hq
          exact ⟨by omega, this.2⟩
      · rintro ⟨h0, hq⟩
        by_cases hmn : 0 < mn
        · exact ⟨(y, mn.toNat), by simp, by simp only; omega, hq⟩
        · exact ⟨(optT y lz (mx - mn).toNat, 1), by simp, by simp, (inG_opt hy _).2 ⟨by omega, hq⟩⟩
    · intro x hx
      simp at hx
      rcases hx with rfl | rfl
      · exact hy
      · exact nf_opt lz hy _
  · rename_i hm
    have hm' : mx = -1 := by omega
    split
    · rw [inG_loop (by decide)]
      simp [hm']
    · rw [inG_join]
      · constructor
        · rintro ⟨x, hx, h0, hq⟩
          simp at hx
          rcases hx with rfl | rfl
          · exact ⟨by omega, hq⟩
          · exact ⟨by omega, (inG_loop (by decide)).1 hq⟩
        · rintro ⟨_, hq⟩
          exact ⟨(loopT 1 (-1) lz y, 1), by simp, by simp, (inG_loop (by decide)).2 hq⟩
      · intro x hx
        simp at hx
        rcases hx with rfl | rfl
        · exact hy
        · exact .loop (.inr (.inr ⟨rfl, rfl⟩)) hy
mutual
theorem S_inG : ∀ (t : Tn) (q : Gk), t.fine = true → (t.S.inG q ↔ t.inG q)
  | .mk k R a s mn mx lz ix nm, q, h => by
    simp only [Tn.fine, Bool.and_eq_true] at h
    have ih := SL_inG s q h.2
    have hnf := nf_SL s h.2
    have hfk := fine_kind h.1
    have hones : ∀ x ∈ ones (SL s), Nf x.1 := fun x hx => by obtain ⟨u, hu, rfl⟩ := List.mem_map.1 hx; exact hnf u hu
    have hon : (∃ x ∈ ones (SL s), 0 < x.2 ∧ x.1.inG q) ↔ inGL q s := by
      rw [← ih]
      constructor
      · rintro ⟨x, hx, _, hq⟩
        obtain ⟨u, hu, rfl⟩ := List.mem_map.1 hx
        exact inGL_iff.2 ⟨u, hu, hq⟩
      · intro hq
        obtain ⟨u, hu, hq⟩ := inGL_iff.1 hq
        exact ⟨(u, 1), List.mem_map.2 ⟨u, hu, rfl⟩, by simp, hq⟩
    have hhead : s.length = 1 → (((SL s).headD emptyT).inG q ↔ inGL q s) ∧ Nf ((SL s).headD emptyT) := fun hl => by
      rw [← ih]
      match s, hl with
      | [u], _ => exact ⟨by simp [SL, inGL], hnf _ (by simp [SL])⟩
    simp only [Tn.S]
    split
    · rename_i h4
      subst h4
      rw [inG_join hones, hon]
      simp [Tn.inG]
    · split
      · rename_i h4 h5
        subst h5
        rw [inG_row (.inr rfl), hon]
        simp [Tn.inG]
      · split
        · rename_i h6
          subst h6
          obtain ⟨hh, hN⟩ := hhead (by omega)
          rw [inG_rep hN (by omega) (by omega), hh]
          simp [Tn.inG]
        · split
          · rename_i h7
            subst h7
            obtain ⟨hh, hN⟩ := hhead (by omega)
            simp only [List.headD_eq_head?_getD] at hh
            simp [Tn.inG, inGL, hh]
          · rename_i h4 h5 h6 h7
            have hz : s.length = 0 := by
              rcases hfk with hh | hh | hh | hh
              · exact hh.2.1
              · exact absurd hh.1 (by omega)
              · exact absurd hh.1 h6
              · exact absurd hh.1 h7
            have hz := List.length_eq_zero_iff.1 hz
            subst hz
            simp [Tn.inG, inGL]
theorem SL_inG : ∀ (ts : List Tn) (q : Gk), fineL ts = true → (inGL q (SL ts) ↔ inGL q ts)
  | [], q, _ => by simp [SL]
  | t :: ts, q, h => by
    simp only [fineL, Bool.and_eq_true] at h
    simp only [SL, inGL]
    rw [S_inG t q h.1, SL_inG ts q h.2]
end
/-- the form's groups are the tree's -/
theorem groups_same {t : Tn} (h : t.fine = true) : (t.grp []).length = (t.S.grp []).length ∧ ∀ p ∈ t.grp [], hasG (t.S.grp []) p.1 p.2 = true := by
  have hm : ∀ q, q ∈ (t.grp []).map gkey ↔ q ∈ (t.S.grp []).map gkey := fun q => by
    have h1 := grp_mem t [] q
    have h2 := grp_mem t.S [] q
    have h3 := S_inG t q h
    simp only [List.mem_map]
    rw [h1, h2, h3]
  constructor
  · have hp := (List.perm_ext_iff_of_nodup (grp_nodup t [] (by simp)) (grp_nodup t.S [] (by simp))).2 hm
    have := hp.length_eq
    simpa using this
  · intro p hp
    rw [hasG_iff]
    have := (hm (gkey p)).1 (List.mem_map.2 ⟨p, hp, rfl⟩)
    obtain ⟨p', hp', he⟩ := List.mem_map.1 this
    exact ⟨p', hp', he⟩
end Go.Proofs.Ytdidopgenhpakaa
