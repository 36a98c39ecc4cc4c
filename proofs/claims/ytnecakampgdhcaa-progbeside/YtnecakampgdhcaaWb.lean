/- HELPERS: the walk through programs that stand side by side. -/
import Derived.Test.YtnecakampgdhcaaWa
import Derived.Test.YtnecakampgdhcaaJg
namespace Go.Proofs.Ytnecakampgdhcaa
open Go.RowKit Go.Lk
set_option linter.unusedVariables false
set_option linter.unusedSimpArgs false
def sh (off : Nat) : Tk → Tk
  | .go i p => .go (off + i) p
  | .un a o => .un a o
theorem ok_target {I : In} {n k : Int} (h : I.okB n k = true) : 0 ≤ I.x ∧ 0 ≤ I.y := ⟨(ok_x h).1, (ok_x h).2.2.1⟩
theorem ok_cap {I : In} {n k : Int} (h : I.okB n k = true) (h3 : I.op = 3) : 0 ≤ I.a ∧ I.a < k := by
  simp only [In.okB, Bool.and_eq_true, isArgB, h3] at h
  have := h.1.2
  simp [belowB] at this
  exact this
theorem nx_sh {tx : List Int} {I : In} {n : Int} {k : Int} (off which p : Nat) (caps pad : List Int) (h : I.okB n k = true) (hc : (caps.length : Int) = k) :
    nx tx (mvI off which I) p (caps ++ pad) = ((nx tx I p caps).1.map (sh off), (nx tx I p caps).2 ++ pad) := by
  obtain ⟨hx, hy⟩ := ok_target h
  have ex : (I.x + (off : Int)).toNat = off + I.x.toNat := by omega
  have ey : (I.y + (off : Int)).toNat = off + I.y.toNat := by omega
  rcases ok_op h with e | e | e | e | e | e | e
  · have f : hasXB I.op = true := by rw [e]; rfl
    unfold nx mvI
    simp only [e, f, if_true]
    split <;> simp [sh, ex, show hasXB 1 = true from rfl]
  · unfold nx mvI
    simp [e, sh, ex, ey, show hasXB 2 = true from rfl, show hasYB 2 = true from rfl]
  · obtain ⟨h1, h2⟩ := ok_cap h e
    have ha : I.a.toNat < caps.length := by omega
    unfold nx mvI
    simp [e, sh, ex, show hasXB 3 = true from rfl, show hasYB 3 = false from rfl, List.getElem?_append_left ha, List.set_append_left _ _ ha]
  · unfold nx mvI
    simp only [e]
    simp only [show (4 : Int) = 1 ↔ False by decide, show (4 : Int) = 2 ↔ False by decide, show (4 : Int) = 3 ↔ False by decide, show (4 : Int) = 5 ↔ False by decide, if_false, if_true, show hasXB 4 = true from rfl]
    split <;> simp [sh, ex]
  · unfold nx mvI
    simp [e]
  · unfold nx mvI
    simp [e]
  · unfold nx mvI
    simp [e, sh, ex, show hasXB 7 = true from rfl]
/-- what is asked behind a walk that found nothing, or something -/
def Gs (J : List In) (tx : List Int) (rest : List Tk) (mJ : Met) (lo hi : Nat) (cs pad : List Int) (which : Nat) (R : Option (Int × List Int)) : Option (Int × List Int) → Prop
  | none => ∀ mJ' : Met, (∀ i p, (i < lo ∨ hi ≤ i) → mJ' i p = mJ i p) → Ev J tx rest mJ' (cs ++ pad) R
  | some x => R = some ((which : Int), x.2 ++ pad)
section
variable {J l : List In} {tx : List Int} {off which c : Nat} {k : Int} {pad : List Int}
theorem sim (hJ : ∀ i (hi : i < l.length), J[off + i]? = some (mvI off which l[i])) (hl : ∀ I ∈ l, I.okB l.length k = true) (hk : k = c) {st : List Tk} {m : Met} {caps : List Int} {r : Option (Int × List Int)} (h : Ev l tx st m caps r) :
    ∀ (rest : List Tk) (mJ : Met) (R : Option (Int × List Int)), (∀ t ∈ st, t.ok l.length tx c) → caps.length = c → (∀ i p, i < l.length → mJ (off + i) p = m i p) →
      Gs J tx rest mJ off (off + l.length) (base st caps) pad which R r → Ev J tx (st.map (sh off) ++ rest) mJ (caps ++ pad) R := by
  induction h with
  | nil m caps =>
    intro rest mJ R _ _ _ hr
    exact hr mJ (fun _ _ _ => rfl)
  | un a o st m caps r h ih =>
    intro rest mJ R hst hc hm hr
    have ha : a < caps.length := by have : a < c := hst (.un a o) (List.mem_cons_self); omega
    refine Ev.un a o _ _ _ _ ?_
    rw [List.set_append_left _ _ ha]
    exact ih rest mJ R (fun t ht => hst t (List.mem_cons_of_mem _ ht)) (by simpa using hc) hm hr
  | old i p st m caps r hmt h ih =>
    intro rest mJ R hst hc hm hr
    obtain ⟨hi, hp⟩ : i < l.length ∧ p ≤ tx.length := hst (.go i p) (List.mem_cons_self)
    exact Ev.old (off + i) p _ _ _ _ (by rw [hm i p hi]; exact hmt) (ih rest mJ R (fun t ht => hst t (List.mem_cons_of_mem _ ht)) hc hm hr)
  | fit i p st m caps I hmf hI h5 =>
    intro rest mJ R hst hc hm hr
    obtain ⟨hi, hp⟩ : i < l.length ∧ p ≤ tx.length := hst (.go i p) (List.mem_cons_self)
    have hIe : l[i] = I := by rw [List.getElem?_eq_getElem hi] at hI; exact Option.some.inj hI
    have hg := hJ i hi
    rw [hIe] at hg
    have hr' : R = some ((which : Int), caps ++ pad) := hr
    subst hr'
    have := Ev.fit (l := J) (tx := tx) (off + i) p (st.map (sh off) ++ rest) mJ (caps ++ pad) (mvI off which I) (by rw [hm i p hi]; exact hmf) hg h5
    simpa [mvI, h5, sh] using this
  | step i p st m caps r I hmf hI h5 h ih =>
    intro rest mJ R hst hc hm hr
    obtain ⟨hi, hp⟩ : i < l.length ∧ p ≤ tx.length := hst (.go i p) (List.mem_cons_self)
    have hIe : l[i] = I := by rw [List.getElem?_eq_getElem hi] at hI; exact Option.some.inj hI
    have hok : I.okB l.length k = true := by rw [← hIe]; exact hl _ (List.getElem_mem hi)
    have hg := hJ i hi
    rw [hIe] at hg
    have hn := nx_sh (tx := tx) off which p caps pad hok (by omega)
    refine Ev.step (off + i) p _ _ _ _ (mvI off which I) (by rw [hm i p hi]; exact hmf) hg h5 ?_
    rw [hn]
    have := ih rest (mark mJ (off + i) p) R (fun t ht => (List.mem_append.1 ht).elim (nx_ok caps hok hp hk t) (fun h => hst t (List.mem_cons_of_mem _ h))) ((nx_len _ _ _ _).trans hc) (fun j q hj => by
      unfold mark
      by_cases e : j = i ∧ q = p
      · obtain ⟨rfl, rfl⟩ := e; simp
      · have e2 : ¬ (off + j = off + i ∧ q = p) := fun h => e ⟨by omega, h.2⟩
        rw [if_neg e, if_neg e2]; exact hm j q hj) ?_
    · rw [List.map_append, List.append_assoc] at this
      exact this
    · cases r with
      | some x => exact hr
      | none =>
        intro mJ' hmJ
        rw [base_nx]
        refine hr mJ' (fun j q hj => (hmJ j q hj).trans ?_)
        unfold mark
        rw [if_neg (fun h => by omega)]
end
theorem movedL_get (L : List Pg) : ∀ (m : Nat), m ≤ L.length → ∀ (k i : Nat) (hk : k < m) (hi : i < (L.getD k default).l.length), (movedL L m)[sumL L k + i]? = some (mvI (ahead L k) k (L.getD k default).l[i]) := by
  intro m
  induction m with
  | zero => intro _ k i hk; omega
  | succ m ih =>
    intro hm k i hk hi
    rw [movedL_succ]
    have hlen := movedL_len L m (by omega)
    have hlm : (movedL L m).length = sumL L m := by unfold ahead at hlen; omega
    by_cases e : k = m
    · subst e
      rw [List.getElem?_append_right (by omega), hlm, Nat.add_sub_cancel_left]
      rw [List.getElem?_map, List.getElem?_eq_getElem hi]
      rfl
    · have hs : sumL L k + i < sumL L m := by
        have h1 := sumL_succ L k (by omega)
        have h2 := ahead_mono L m (k + 1) (by omega) (by omega)
        unfold ahead at h2
        omega
      rw [List.getElem?_append_left (by omega)]
      exact ih (by omega) k i (by omega) hi
theorem joinI_block (L : List Pg) (k i : Nat) (hk : k < L.length) (hi : i < (L.getD k default).l.length) : (joinI L)[ahead L k + i]? = some (mvI (ahead L k) k (L.getD k default).l[i]) := by
  unfold joinI
  have h := movedL_get L L.length (Nat.le_refl _) k i hk hi
  rw [List.getElem?_append_right (by rw [altsL_len]; unfold ahead; omega), altsL_len]
  have e : ahead L k + i - (L.length - 1) = sumL L k + i := by unfold ahead; omega
  rw [e]
  exact h
theorem joinI_alt (L : List Pg) (k : Nat) (hk : k < L.length - 1) : (joinI L)[k]? = some (altI L k) := by
  unfold joinI
  rw [List.getElem?_append_left (by rw [altsL_len]; exact hk)]
  simp [altsL, hk]
/-- the first program that finds -/
def fr (res : Nat → Option (Int × List Int)) : Nat → Nat → Option (Nat × List Int)
  | 0, _ => none
  | c + 1, k => match res k with
    | some x => some (k, x.2)
    | none => fr res c (k + 1)
theorem ev_len {l : List In} {tx : List Int} {st : List Tk} {m : Met} {caps : List Int} {r : Option (Int × List Int)} (h : Ev l tx st m caps r) : ∀ x, r = some x → x.2.length = caps.length := by
  induction h with
  | nil => intro x hx; cases hx
  | un a o st m caps r h ih => intro x hx; rw [ih x hx]; simp
  | old i p st m caps r _ h ih => exact ih
  | fit i p st m caps I _ _ _ => intro x hx; cases hx; rfl
  | step i p st m caps r I _ _ _ h ih => intro x hx; rw [ih x hx]; exact nx_len _ _ _ _
theorem capsTo_le (L : List Pg) : ∀ (m k : Nat), k < m → (L.getD k default).k ≤ capsTo L m := by
  intro m
  induction m with
  | zero => intro k hk; omega
  | succ m ih =>
    intro k hk
    simp only [capsTo]
    by_cases e : k = m
    · subst e; exact Int.le_max_right _ _
    · exact Int.le_trans (ih k (by omega)) (Int.le_max_left _ _)
/-- captures of a program, with those of the row behind them -/
def wide (C : Nat) (cs : List Int) : List Int := cs ++ List.replicate (C - cs.length) (-1)
theorem wide_rep (C c : Nat) (h : c ≤ C) : wide C (List.replicate c (-1)) = List.replicate C (-1) := by
  unfold wide
  rw [List.length_replicate, List.replicate_append_replicate]
  congr 1
  omega
/-- what the row of programs finds from a place -/
theorem join_ev {L : List Pg} {tx : List Int} {q C : Nat} {res : Nat → Option (Int × List Int)} (hq : q ≤ tx.length) (hall : mayTo L L.length) (hC : (C : Int) = capsTo L L.length)
    (hres : ∀ k, k < L.length → Ev (L.getD k default).l tx [.go (L.getD k default).s.toNat q] (fun _ _ => false) (List.replicate (L.getD k default).k.toNat (-1)) (res k)) :
    ∀ (d k : Nat) (m : Met), k + d + 1 = L.length → (∀ i p, k ≤ i → i < L.length - 1 → m i p = false) → (∀ i p, ahead L k ≤ i → m i p = false) →
      Ev (joinI L) tx [.go (if k + 1 = L.length then (entry L k).toNat else k) q] m (List.replicate C (-1)) ((fr res (d + 1) k).map fun x => ((x.1 : Int), wide C x.2)) := by
  intro d
  induction d with
  | zero =>
    intro k m hkd hm1 hm2
    have hkL : k < L.length := by omega
    have hmay := may_ok (hall k hkL)
    have hcap := capsTo_le L L.length k hkL
    rw [if_pos (by omega)]
    have hs := sim (J := joinI L) (off := ahead L k) (which := k) (c := (L.getD k default).k.toNat) (pad := List.replicate (C - (L.getD k default).k.toNat) (-1)) (fun i hi => joinI_block L k i hkL hi) hmay.2.2.2.2.2 (by omega) (hres k hkL) [] m ((fr res 1 k).map fun x => ((x.1 : Int), wide C x.2)) (fun t ht => by
      obtain rfl := List.mem_singleton.1 ht
      exact ⟨by omega, hq⟩) (by simp) (fun i p _ => hm2 _ _ (by omega)) (by
      cases hr : res k with
      | none =>
        intro mJ' _
        simp only [fr, hr]
        exact Ev.nil _ _
      | some x =>
        have hl := ev_len (hres k hkL) x hr
        simp only [List.length_replicate] at hl
        show _ = _
        simp [fr, hr, wide, hl])
    have e1 : (entry L k).toNat = ahead L k + (L.getD k default).s.toNat := by unfold entry; omega
    have e2 : List.replicate (L.getD k default).k.toNat (-1 : Int) ++ List.replicate (C - (L.getD k default).k.toNat) (-1) = List.replicate C (-1) := by rw [List.replicate_append_replicate]; congr 1; omega
    rw [e2] at hs
    rw [e1]
    simpa [sh] using hs
  | succ d ih =>
    intro k m hkd hm1 hm2
    have hkL : k < L.length := by omega
    have hmay := may_ok (hall k hkL)
    have hcap := capsTo_le L L.length k hkL
    have hmay1 := may_ok (hall (k + 1) (by omega))
    rw [if_neg (by omega)]
    have e1 : (entry L k).toNat = ahead L k + (L.getD k default).s.toNat := by unfold entry; omega
    have e2 : List.replicate (L.getD k default).k.toNat (-1 : Int) ++ List.replicate (C - (L.getD k default).k.toNat) (-1) = List.replicate C (-1) := by rw [List.replicate_append_replicate]; congr 1; omega
    have hah : L.length - 1 ≤ ahead L k := by unfold ahead; omega
    refine Ev.step k q [] m _ _ (altI L k) (hm1 k q (Nat.le_refl _) (by omega)) (joinI_alt L k (by omega)) (by show (2 : Int) ≠ 5; decide) ?_
    have hnx : nx tx (altI L k) q (List.replicate C (-1)) = ([.go (entry L k).toNat q, .go (if k + 1 + 1 = L.length then (entry L (k + 1)).toNat else k + 1) q], List.replicate C (-1)) := by
      unfold nx altI
      simp only [show (2 : Int) = 1 ↔ False by decide, if_false, if_true]
      by_cases e : k + 2 = L.length
      · simp [e]
      · simp [e]
    rw [hnx]
    have hs := sim (J := joinI L) (off := ahead L k) (which := k) (c := (L.getD k default).k.toNat) (pad := List.replicate (C - (L.getD k default).k.toNat) (-1)) (fun i hi => joinI_block L k i hkL hi) hmay.2.2.2.2.2 (by omega) (hres k hkL) [.go (if k + 1 + 1 = L.length then (entry L (k + 1)).toNat else k + 1) q] (mark m k q) ((fr res (d + 1 + 1) k).map fun x => ((x.1 : Int), wide C x.2)) (fun t ht => by
      obtain rfl := List.mem_singleton.1 ht
      exact ⟨by omega, hq⟩) (by simp) (fun i p _ => by unfold mark; rw [if_neg (fun h => by omega)]; exact hm2 _ _ (by omega)) (by
      cases hr : res k with
      | none =>
        intro mJ' hmJ
        have hb : base [Tk.go (L.getD k default).s.toNat q] (List.replicate (L.getD k default).k.toNat (-1)) = List.replicate (L.getD k default).k.toNat (-1) := rfl
        rw [hb, e2]
        have hfr : fr res (d + 1 + 1) k = fr res (d + 1) (k + 1) := by simp [fr, hr]
        rw [hfr]
        have has := ahead_succ L k hkL
        refine ih (k + 1) mJ' (by omega) (fun i p h1 h2 => ?_) (fun i p h1 => ?_)
        · rw [hmJ i p (.inl (by omega))]
          unfold mark
          rw [if_neg (fun h => by omega)]
          exact hm1 i p (by omega) h2
        · rw [hmJ i p (.inr (by omega))]
          unfold mark
          rw [if_neg (fun h => by omega)]
          exact hm2 i p (by omega)
      | some x =>
        have hl := ev_len (hres k hkL) x hr
        simp only [List.length_replicate] at hl
        show _ = _
        simp [fr, hr, wide, hl])
    rw [e2] at hs
    rw [e1]
    simpa [sh] using hs
end Go.Proofs.Ytnecakampgdhcaa
