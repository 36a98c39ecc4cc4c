/- PROVED: the law LiteralSkips of layer 15 answers true for every program, text and place, and they read afterwards as they read before: of a program that may be, over a text of at most 1000 runes, where an anchored search finds something the program's row stands, and, if the row is the whole, something is found just where it stands; the row is no longer than the program; a search from a place on finds what the search finds that begins at the first place at which the row stands (whether, with which captures, by which pattern), and nothing where it stands at none.
   CONDITIONS: none but the form's own (each slice and string at most 2^47 - 4096 bytes). -/
import Derived.Test.YtiggbgmnibndoaaK06
import Derived.Test.YtiggbgmnibndoaaRows
/- HELPERS: every match begins with the row, in plain words. -/
namespace Go.Proofs.Ytiggbgmnibndoaa
open Go.RowKit Go.Lk Kmp
set_option linter.unusedVariables false
set_option linter.unusedSimpArgs false
theorem rowF_le (l : List In) : ∀ (k : Nat) (met : List Nat) (i : Nat), met.Nodup → (∀ j ∈ met, j < l.length) → (rowF l k met i).1.length + met.length ≤ l.length
  | 0, met, i, h1, h2 => by simp only [rowF, List.length_nil, Nat.zero_add]; exact nodup_le h1 h2
  | k + 1, met, i, h1, h2 => by
    have h0 := nodup_le h1 h2
    unfold rowF
    split
    · simpa using h0
    · rename_i hm
      split
      · simpa using h0
      · by_cases hi : i < l.length
        · have h3 : (i :: met).Nodup := List.nodup_cons.2 ⟨by simpa using hm, h1⟩
          have h4 : ∀ j ∈ i :: met, j < l.length := fun j hj => by
            rcases List.mem_cons.1 hj with rfl | hj
            · exact hi
            · exact h2 j hj
          have h5 := rowF_le l k (i :: met) (l.getD i default).x.toNat h3 h4
          simp only [List.length_cons] at h5
          split
          · simp only [List.length_cons]; omega
          · split
            · omega
            · simpa using h0
        · have hd : l.getD i default = default := by rw [List.getD_eq_getElem?_getD, List.getElem?_eq_none (by omega)]; rfl
          rw [hd]
          rw [if_neg (by decide), if_neg (by decide)]
          simpa using h0
theorem rowP_le (l : List In) (S : Nat) : (rowP l S).1.length ≤ l.length := by
  have := rowF_le l (l.length + 1) [] S List.nodup_nil (by simp)
  rw [List.length_nil, Nat.add_zero] at this
  exact this
theorem one_parts {I : In} (h : oneB I = true) : I.op = 1 ∧ ∃ r, I.R = [(r, r)] ∧ runeI I = r := by
  have h1 := one_op h
  simp only [oneB, Bool.and_eq_true, decide_eq_true_eq] at h
  refine ⟨h1, ?_⟩
  match hR : I.R, h.2.1 with
  | [(a, b)], _ =>
    have h3 := h.2.2
    rw [hR] at h3
    simp at h3
    subst h3
    exact ⟨a, rfl, by unfold runeI; rw [hR]; rfl⟩
theorem act_one {l : List In} {tx : List Int} {i j : Nat} (h : oneB (l.getD i default) = true) (hr : rightB (l.getD i default).R = true) : act l tx j i = if j < tx.length ∧ tx.getD j 0 = runeI (l.getD i default) then .rune (l.getD i default).x.toNat else .stop := by
  obtain ⟨h1, r, h2, h3⟩ := one_parts h
  have hin : ∀ x : Int, inB [(r, r)] x = decide (x = r) := fun x => by
    rw [Bool.eq_iff_iff]
    simp [inB]
    omega
  unfold act actI
  rw [h1, h3]
  rw [if_neg (by decide), if_neg (by decide), if_neg (by decide), if_neg (by decide), if_pos rfl]
  rw [h2] at hr ⊢
  unfold hsB
  rw [hr, hin]
  simp
theorem act_pass {l : List In} {tx : List Int} {i j : Nat} (h : (l.getD i default).op = 7 ∨ (l.getD i default).op = 3) : act l tx j i = .go (l.getD i default).x.toNat ∨ act l tx j i = .cap (l.getD i default).x.toNat (l.getD i default).a.toNat := by
  rcases h with h | h
  · left; unfold act actI; rw [h, if_neg (by decide), if_pos rfl]
  · right; unfold act actI; rw [h, if_neg (by decide), if_neg (by decide), if_pos rfl]
theorem act_five {l : List In} {tx : List Int} {i j : Nat} (h : (l.getD i default).op = 5) : act l tx j i = .fit (l.getD i default).a := by
  unfold act actI
  rw [h]
  rfl
theorem stands_nil {tx : List Int} {j : Nat} (h : j ≤ tx.length) : Stands [] tx j := ⟨by simpa using h, List.nil_prefix⟩
theorem stands_cons {r : Int} {row tx : List Int} {j : Nat} : Stands (r :: row) tx j ↔ (j < tx.length ∧ tx.getD j 0 = r) ∧ Stands row tx (j + 1) := by
  constructor
  · intro h
    have h1 := h.1
    simp only [List.length_cons] at h1
    have h2 := stands_at h (j := 0) (by simp)
    refine ⟨⟨by omega, by simpa using h2⟩, stands_of (by omega) fun k hk => ?_⟩
    have := stands_at h (j := k + 1) (by simp; omega)
    rw [show j + 1 + k = j + (k + 1) by omega, this]
    simp
  · rintro ⟨⟨h1, h2⟩, h3⟩
    have h4 := h3.1
    refine stands_of (by simp only [List.length_cons]; omega) fun k hk => ?_
    cases k with
    | zero => simpa using h2
    | succ k =>
      have := stands_at h3 (j := k) (by simp only [List.length_cons] at hk; omega)
      rw [show j + (k + 1) = j + 1 + k by omega, this]
      simp
/-- every match begins with the row -/
theorem reach_stands {l : List In} {tx : List Int} (hok : ∀ i, oneB (l.getD i default) = true → rightB (l.getD i default).R = true) : ∀ (k : Nat) (met : List Nat) (i j : Nat), j ≤ tx.length → Rch (act l tx) i j → Stands (rowF l k met i).1 tx j
  | 0, met, i, j, hj, _ => stands_nil hj
  | k + 1, met, i, j, hj, h => by
    unfold rowF
    split
    · exact stands_nil hj
    · split
      · exact stands_nil hj
      · split
        · rename_i h1
          have ha := act_one (tx := tx) (j := j) h1 (hok i h1)
          have hx : (j < tx.length ∧ tx.getD j 0 = runeI (l.getD i default)) ∧ Rch (act l tx) (l.getD i default).x.toNat (j + 1) := by
            by_cases hc : j < tx.length ∧ tx.getD j 0 = runeI (l.getD i default)
            · rw [if_pos hc] at ha
              refine ⟨hc, ?_⟩
              cases h with
              | fit a e => rw [ha] at e; cases e
              | altx x y e _ => rw [ha] at e; cases e
              | alty x y e _ => rw [ha] at e; cases e
              | go x e _ => rw [ha] at e; cases e
              | cap x a e _ => rw [ha] at e; cases e
              | rune x e h' => rw [ha] at e; cases e; exact h'
            · rw [if_neg hc] at ha
              exfalso
              cases h with
              | fit a e => rw [ha] at e; cases e
              | altx x y e _ => rw [ha] at e; cases e
              | alty x y e _ => rw [ha] at e; cases e
              | go x e _ => rw [ha] at e; cases e
              | cap x a e _ => rw [ha] at e; cases e
              | rune x e h' => rw [ha] at e; cases e
          exact stands_cons.2 ⟨hx.1, reach_stands hok k (i :: met) _ (j + 1) (by omega) hx.2⟩
        · split
          · rename_i h1
            have hx : Rch (act l tx) (l.getD i default).x.toNat j := by
              rcases act_pass (tx := tx) (j := j) h1 with ha | ha
              · cases h with
                | fit a e => rw [ha] at e; cases e
                | altx x y e _ => rw [ha] at e; cases e
                | alty x y e _ => rw [ha] at e; cases e
                | go x e h' => rw [ha] at e; cases e; exact h'
                | cap x a e _ => rw [ha] at e; cases e
                | rune x e h' => rw [ha] at e; cases e
              · cases h with
                | fit a e => rw [ha] at e; cases e
                | altx x y e _ => rw [ha] at e; cases e
                | alty x y e _ => rw [ha] at e; cases e
                | go x e h' => rw [ha] at e; cases e
                | cap x a e h' => rw [ha] at e; cases e; exact h'
                | rune x e h' => rw [ha] at e; cases e
            exact reach_stands hok k (i :: met) _ j hj hx
          · exact stands_nil hj
/-- where the row is the whole, it stands where something is found -/
theorem stands_reach {l : List In} {tx : List Int} (hok : ∀ i, oneB (l.getD i default) = true → rightB (l.getD i default).R = true) : ∀ (k : Nat) (met : List Nat) (i j : Nat), (rowF l k met i).2 = true → Stands (rowF l k met i).1 tx j → Rch (act l tx) i j
  | 0, met, i, j, h, _ => by simp [rowF] at h
  | k + 1, met, i, j, h, hs => by
    unfold rowF at h hs
    split at h
    · cases h
    · rename_i h0
      rw [if_neg h0] at hs
      split at h
      · rename_i h5
        exact .fit _ (act_five h5)
      · rename_i h5
        rw [if_neg h5] at hs
        split at h
        · rename_i h1
          rw [if_pos h1] at hs
          obtain ⟨hc, hs'⟩ := stands_cons.1 hs
          have ha := act_one (tx := tx) (j := j) h1 (hok i h1)
          rw [if_pos hc] at ha
          exact .rune _ ha (stands_reach hok k (i :: met) _ (j + 1) h hs')
        · rename_i h1
          rw [if_neg h1] at hs
          split at h
          · rename_i h7
            rw [if_pos h7] at hs
            have hr := stands_reach hok k (i :: met) _ j h hs
            rcases act_pass (tx := tx) (j := j) h7 with ha | ha
            · exact .go _ ha hr
            · exact .cap _ _ ha hr
          · cases h
/-- what the law asks, in plain words -/
structure Skp (l : List In) (tx : List Int) (S K a : Nat) (r : Int) : Prop where
  one : (lockRun (prOf l tx S K) tx.length a true).1.isSome = true → (r == (a : Int)) = true
  whole : (rowP l S).2 = true → (lockRun (prOf l tx S K) tx.length a true).1.isSome = (r == (a : Int))
  far : ∀ p : Nat, r = p → p ≤ tx.length ∧ (lockRun (prOf l tx S K) tx.length p false).1 = (lockRun (prOf l tx S K) tx.length a false).1
  none : r < 0 → (lockRun (prOf l tx S K) tx.length a false).1 = none
theorem least_nat {p : Nat → Prop} : ∀ (n : Nat), p n → ∃ m, p m ∧ m ≤ n ∧ ∀ k, k < m → ¬ p k := by
  intro n
  induction n using Nat.strongRecOn with
  | ind n ih =>
    intro hn
    by_cases h : ∃ m, m < n ∧ p m
    · obtain ⟨m, h1, h2⟩ := h
      obtain ⟨q, h3, h4, h5⟩ := ih m h1 h2
      exact ⟨q, h3, by omega, h5⟩
    · exact ⟨n, hn, Nat.le_refl _, fun k hk hp => h ⟨k, hk, hp⟩⟩
theorem skips {l : List In} {tx : List Int} {S K a : Nat} {r : Int} (hm : mayB l (S : Int) (K : Int) = true) (ha : a ≤ tx.length) (hr : NextIs (rowP l S).1 tx a r) : Skp l tx S K a r := by
  have hP := pr_ok (tx := tx) hm
  have hlen : ∀ i x, (prOf l tx S K).A tx.length i ≠ .rune x := fun i x => act_end l tx i x
  have hmo := may_ok hm
  have hok : ∀ i, oneB (l.getD i default) = true → rightB (l.getD i default).R = true := fun i h => by
    by_cases hi : i < l.length
    · rw [getD_in' hi] at h ⊢
      exact ok_R (hmo.2.2.2.2.2 _ (List.getElem_mem hi)) (one_op h)
    · rw [show l.getD i default = default by rw [List.getD_eq_getElem?_getD, List.getElem?_eq_none (by omega)]; rfl] at h
      exact absurd (one_op h) (by decide)
  have hA : ∀ b, b ≤ tx.length → Rch (act l tx) S b → Stands (rowP l S).1 tx b := fun b hb h => reach_stands hok _ [] S b hb h
  have hB : (rowP l S).2 = true → ∀ b, Stands (rowP l S).1 tx b → Rch (act l tx) S b := fun h b hs => stands_reach hok _ [] S b h hs
  have hanch : ∀ b, b ≤ tx.length → ((lockRun (prOf l tx S K) tx.length b true).1.isSome = true ↔ Rch (act l tx) S b) := fun b hb => by
    rw [lock_reach hP hlen hb]
    constructor
    · rintro ⟨b', h1, h2, h3 | h3, h4⟩
      · subst h3; exact h4
      · cases h3
    · intro h; exact ⟨b, Nat.le_refl _, hb, .inl rfl, h⟩
  have hst : (r == (a : Int)) = true ↔ Stands (rowP l S).1 tx a := by
    rw [beq_iff_eq]
    constructor
    · intro h
      rcases hr with ⟨h1 | h1, _⟩ | ⟨a', e, ha', ⟨h1, _⟩ | ⟨p, h1, h2, h3, h4⟩⟩
      · omega
      · omega
      · omega
      · have : p = a := by omega
        subst this
        exact h3
    · intro h
      exact hr.eq (.inr ⟨a, rfl, ha, .inr ⟨a, rfl, Nat.le_refl _, h, fun i h1 h2 => by omega⟩⟩)
  have hnone : ∀ b, b ≤ tx.length → (∀ k, b ≤ k → k ≤ tx.length → ¬ Rch (act l tx) S k) → (lockRun (prOf l tx S K) tx.length b false).1 = none := fun b hb h => by
    cases hf : (lockRun (prOf l tx S K) tx.length b false).1 with
    | none => rfl
    | some y =>
      have := (lock_reach hP hlen (a := b) (anch := false) hb).1 (by rw [hf]; rfl)
      obtain ⟨b', h1, h2, _, h4⟩ := this
      exact absurd h4 (h b' h1 h2)
  refine ⟨fun h => hst.2 (hA a ha ((hanch a ha).1 h)), fun hw => ?_, fun p hp => ?_, fun hneg => ?_⟩
  · rw [Bool.eq_iff_iff, hanch a ha, hst]
    exact ⟨fun h => hA a ha h, fun h => hB hw a h⟩
  · rcases hr with ⟨h1 | h1, _⟩ | ⟨a', e, ha', ⟨h1, _⟩ | ⟨p', h1, h2, h3, h4⟩⟩
    · omega
    · omega
    · omega
    · have e1 : p' = p := by omega
      have e2 : a' = a := by omega
      subst e1 e2
      have hpl : p' ≤ tx.length := by have := h3.1; omega
      refine ⟨hpl, ?_⟩
      by_cases hex : ∃ b, p' ≤ b ∧ b ≤ tx.length ∧ Rch (act l tx) S b
      · obtain ⟨b0, g1, g2, g3⟩ := hex
        obtain ⟨b, ⟨q1, q2, q3⟩, _, q5⟩ := least_nat (p := fun b => p' ≤ b ∧ b ≤ tx.length ∧ Rch (act l tx) S b) b0 ⟨g1, g2, g3⟩
        have hs := (hanch b q2).2 q3
        have hno : ∀ k, k < b → p' ≤ k → ¬ Rch (act l tx) S k := fun k hk hp' hr' => q5 k hk ⟨hp', by omega, hr'⟩
        have hno2 : ∀ k, a' ≤ k → k < b → ¬ Rch (act l tx) S k := fun k hk hkb hr' => by
          by_cases h : p' ≤ k
          · exact hno k hkb h hr'
          · exact h4 k hk (by omega) (hA k (by omega) hr')
        have toN : ∀ k, k ≤ tx.length → ¬ Rch (act l tx) S k → (lockRun (prOf l tx S K) tx.length k true).1 = Option.none := fun k hk h => by
          cases hf : (lockRun (prOf l tx S K) tx.length k true).1 with
          | none => rfl
          | some y => exact absurd ((hanch k hk).1 (by rw [hf]; rfl)) h
        rw [lock_least hP hlen q1 q2 (fun k h1 h2 => toN k (by omega) (hno k h2 h1)) hs, lock_least hP hlen (a := a') (by omega) q2 (fun k h1 h2 => toN k (by omega) (hno2 k h1 h2)) hs]
      · rw [hnone p' hpl (fun k h1 h2 h => hex ⟨k, h1, h2, h⟩), hnone a' ha (fun k h1 h2 h => by
          by_cases hk : p' ≤ k
          · exact hex ⟨k, hk, h2, h⟩
          · exact h4 k h1 (by omega) (hA k h2 h))]
  · refine hnone a ha fun k h1 h2 h => ?_
    rcases hr with ⟨g1 | g1, _⟩ | ⟨a', e, ha', ⟨g1, g2⟩ | ⟨p, g1, g2, g3, g4⟩⟩
    · omega
    · omega
    · exact g2 k (by omega) (hA k h2 h)
    · omega
end Go.Proofs.Ytiggbgmnibndoaa
/- HELPERS: the law LiteralSkips. -/
namespace Go.Proofs.Ytiggbgmnibndoaa
open Go.RowKit Go.Lk Kmp
set_option linter.unusedVariables false
set_option linter.unusedSimpArgs false
set_option maxRecDepth 100000 in
set_option maxHeartbeats 8000000 in
theorem skips6_out {w : World} {ad ta : Option Addr} {n c tn tc : Nat} {s k a : Int} {l : List In} (hP : PI w w.heap.size ad n l) (hno : mayB l s k = false ∨ a < 0 ∨ (tn : Int) < a ∨ 1000 < tn) :
    Calls Try.prog 6 #[pv ad n c s k, .slice ta tn tc, .int .i64 a] w fun e w' => e = .returned (.bool true) ∧ Below w.heap.size w w' := by
  have hb := Joins.below_alloc1 w (.cells #[.slice ad n c, .int .i64 s, .int .i64 k] 27)
  obtain ⟨U, hU⟩ : ∃ U, U = w.alloc (.cells #[.slice ad n c, .int .i64 s, .int .i64 k] 27) := ⟨_, rfl⟩
  rw [← hU] at hb
  have hX : U.heap[w.heap.size]? = some (.cells #[.slice ad n c, .int .i64 s, .int .i64 k] 27 (0, 0)) := by rw [hU]; exact heap_alloc_new w _
  obtain ⟨x, hx⟩ : ∃ x, x = w.heap.size := ⟨_, rfl⟩
  have HPU := hid (hP.kept hb hb.size)
  have HB := hid hb
  rw [← hx] at hX HB ⊢
  have hxl : x < U.heap.size := (Array.getElem?_eq_some_iff.1 hX).1
  have HX := hid hX
  have HA := hid (awake8 U)
  have HCK : Hid (∀ W, Below U.heap.size U W → Calls Try.prog 24 #[pv ad n c s k] W fun e w' => e = .returned (.int .i64 (if mayB l s k then 0 else 90)) ∧ Below W.heap.size W w') := fun W hW => rcheck9 (HPU.out.kept hW hW.size)
  clear hb hP hX
  go_enter Try.func6, Try.ntmps6
  go_upto_region 1 with fail
  rw [← hU, ← hx]
  clear hU hx
  go_upto_region 2 with (go_at_call 8; (with_reducible refine HA.out.mono ?_); rintro e w1 ⟨rfl, hb⟩; obtain ⟨c0, c1, c2⟩ := three_cells ((hb.block x hxl).trans HX.out); have HB1 := hid hb; clear hb HA)
  have HC := hid (HCK.out w1 HB1.out)
  cases hm : mayB l s k
  · rw [hm] at HC
    simp only [Bool.false_eq_true, if_false] at HC
    clear hm hno
    go_wp2_with (go_at_call 24; (with_reducible refine HC.out.mono ?_); rintro e w2 ⟨rfl, hb⟩; have HB2 := hid hb; clear hb)
    all_goals go_ret
    all_goals exact ⟨rfl, HB.out.trans (Joins.below_le (HB1.out.trans (Joins.below_le HB2.out HB1.out.size)) (by omega))⟩
  · rw [hm] at HC
    simp only [if_true] at HC
    by_cases h0 : a < 0
    · clear hm hno
      go_wp2_with (go_at_call 24; (with_reducible refine HC.out.mono ?_); rintro e w2 ⟨rfl, hb⟩; have HB2 := hid hb; clear hb)
      all_goals go_ret
      all_goals exact ⟨rfl, HB.out.trans (Joins.below_le (HB1.out.trans (Joins.below_le HB2.out HB1.out.size)) (by omega))⟩
    · by_cases h1 : (tn : Int) < a
      · clear hm hno
        go_wp2_with (go_at_call 24; (with_reducible refine HC.out.mono ?_); rintro e w2 ⟨rfl, hb⟩; have HB2 := hid hb; clear hb)
        all_goals go_ret
        all_goals exact ⟨rfl, HB.out.trans (Joins.below_le (HB1.out.trans (Joins.below_le HB2.out HB1.out.size)) (by omega))⟩
      · have h2 : 1000 < tn := by
          rcases hno with h | h | h | h
          · rw [hm] at h; cases h
          · omega
          · omega
          · exact h
        have h3 : (1000 : Int) < (tn : Int) := by omega
        have h4 : decide ((1000 : Int) < (tn : Int)) = true := by simp; omega
        clear hm hno
        go_wp2_with (go_at_call 24; (with_reducible refine HC.out.mono ?_); rintro e w2 ⟨rfl, hb⟩; have HB2 := hid hb; clear hb)
        all_goals go_ret
        all_goals exact ⟨rfl, HB.out.trans (Joins.below_le (HB1.out.trans (Joins.below_le HB2.out HB1.out.size)) (by omega))⟩
/-- a search by the document, rightly asked -/
theorem runv {w : World} {ad tad : Option Addr} {n c tn tc S K a : Nat} {anch : Bool} {l : List In} {tx : List Int} (hP : PI w w.heap.size ad n l) (hT : TextAt w.heap.size w tad tn tx) (hm : mayB l (S : Int) (K : Int) = true) (ht : tn ≤ 1000) (ha : a ≤ tn) :
    Calls Try.prog 25 #[pv ad n c (S : Int) (K : Int), .slice tad tn tc, .int .i64 (a : Int), .bool anch] w (FW (anR (lockRun (prOf l tx S K) tx.length a anch)) w) := by
  refine (run11 (c := c) (tc := tc) hP hT).mono fun e w' h => ?_
  have h2 := h.fw
  have he : errR l (S : Int) (K : Int) tx.length (a : Int) = 0 := by
    have := hT.1
    unfold errR
    rw [if_neg (by omega), if_neg (by rw [hm]; decide), if_neg (by omega)]
  unfold ans at h2
  rw [if_pos he] at h2
  exact h2
theorem next_there' (lit tx : List Int) : ∀ m a : Nat, tx.length + 1 ≤ a + m → (∀ i, a ≤ i → ¬ Stands lit tx i) ∨ ∃ p, a ≤ p ∧ Stands lit tx p ∧ ∀ i, a ≤ i → i < p → ¬ Stands lit tx i
  | 0, a, h => .inl fun i hi hs => by have := hs.1; omega
  | m + 1, a, h => by
    by_cases hs : Stands lit tx a
    · exact .inr ⟨a, Nat.le_refl _, hs, fun i h1 h2 => by omega⟩
    · rcases next_there' lit tx m (a + 1) (by omega) with h1 | ⟨p, h1, h2, h3⟩
      · exact .inl fun i hi => by
          by_cases e : i = a
          · subst e; exact hs
          · exact h1 i (by omega)
      · refine .inr ⟨p, by omega, h2, fun i hi hp => ?_⟩
        by_cases e : i = a
        · subst e; exact hs
        · exact h3 i (by omega) hp
theorem next_there (lit tx : List Int) (A : Nat) (h : A ≤ tx.length) : ∃ r, NextIs lit tx A r := by
  rcases next_there' lit tx (tx.length + 1) A (by omega) with h1 | ⟨p, h1, h2, h3⟩
  · exact ⟨-1, .inr ⟨A, rfl, by omega, .inl ⟨rfl, h1⟩⟩⟩
  · exact ⟨p, .inr ⟨A, rfl, by omega, .inr ⟨p, rfl, h1, h2, h3⟩⟩⟩
theorem runw {w : World} {ad tad : Option Addr} {n c tn tc S K a : Nat} {anch : Bool} {l : List In} {tx cl : List Int} {ok : Bool} {wh st : Int} (hP : PI w w.heap.size ad n l) (hT : TextAt w.heap.size w tad tn tx) (hm : mayB l (S : Int) (K : Int) = true) (ht : tn ≤ 1000) (ha : a ≤ tn) (h1 : ok = (lockRun (prOf l tx S K) tx.length a anch).1.isSome) (h2 : wh = whF (lockRun (prOf l tx S K) tx.length a anch).1) (h3 : st = (lockRun (prOf l tx S K) tx.length a anch).2) (h4 : cl = capsF (lockRun (prOf l tx S K) tx.length a anch).1) :
    Calls Try.prog 25 #[pv ad n c (S : Int) (K : Int), .slice tad tn tc, .int .i64 (a : Int), .bool anch] w fun e w' => ∃ a1 n1 c1, e = .returned (.tuple #[.agg #[.bool ok, .slice a1 n1 c1, .int .i64 wh, .int .i64 st], .int .i64 0]) ∧ OC w' w.heap.size 3 (.slice a1 n1 c1) n1 (I64 cl) ∧ Below w.heap.size w w' := by
  refine (runv hP hT hm ht ha).mono ?_
  rintro e w' ⟨a1, n1, c1, rfl, h5, h6, h7⟩
  subst h1 h2 h3 h4
  exact ⟨a1, n1, c1, rfl, OC.of h6, h7⟩
theorem sameOC2 {w : World} {N1 N2 n1 n2 c1 c2 : Nat} {a1 a2 : Option Addr} {l : List Int} (h1 : OC w N1 3 (.slice a1 n1 c1) n1 (I64 l)) (h2 : OC w N2 3 (.slice a2 n2 c2) n2 (I64 l)) (hn : l.length ≤ 1002) : Calls Try.prog 15 #[.slice a1 n1 c1, .slice a2 n2 c2] w fun e w' => e = .returned (.bool true) ∧ Below w.heap.size w w' := by
  have hl1 : l.length = n1 := by have := h1.1; simpa [I64] using this
  have hl2 : l.length = n2 := by have := h2.1; simpa [I64] using this
  obtain ⟨_, _, e1, t1⟩ := h1.text (by omega)
  obtain ⟨_, _, e2, t2⟩ := h2.text (by omega)
  simp only [Value.slice.injEq] at e1 e2
  obtain ⟨rfl, _, rfl⟩ := e1
  obtain ⟨rfl, _, rfl⟩ := e2
  refine (same14 l l _ _ w (txt_ints t1) (txt_ints t2) (by omega) (by omega)).mono ?_
  rintro e w' ⟨he, q, rfl⟩
  exact ⟨by rw [he]; simp, (Eqw.drewN w q).below _⟩
theorem OC.ne {w : World} {base e n g : Nat} {v : Value} {xs : List Value} {c : Array Value} {t : TypeId} {fr : Nat × Nat} (ho : OC w base e v n xs) (hg : w.heap[g]? = some (.cells c t fr)) (ht : t ≠ e) : v.ownBlock ≠ some g := by
  intro h
  rcases ho.2 with ⟨rfl, _⟩ | ⟨b, cap, cur, rfl, hb, hgg, rest⟩
  · simp [Value.ownBlock] at h
  · simp [Value.ownBlock] at h
    subst h
    rw [hgg] at hg
    simp at hg
    exact ht hg.2.1.symm
theorem four52 {w : World} {y : Nat} {u0 u1 u2 u3 : Value} (h : BX w y #[u0, u1, u2, u3] 52) (v0 v1 v2 v3 : Value) : BX ((((w.setCell ⟨y, 0, none⟩ v0).setCell ⟨y, 1, none⟩ v1).setCell ⟨y, 2, none⟩ v2).setCell ⟨y, 3, none⟩ v3) y #[v0, v1, v2, v3] 52 := by
  have h1 : BX (w.setCell ⟨y, 0, none⟩ v0) y #[v0, u1, u2, u3] 52 := Joins.block_setCell (i := 0) h v0
  have h2 : BX _ y #[v0, v1, u2, u3] 52 := Joins.block_setCell (i := 1) h1 v1
  have h3 : BX _ y #[v0, v1, v2, u3] 52 := Joins.block_setCell (i := 2) h2 v2
  exact Joins.block_setCell (i := 3) h3 v3
theorem four_other {w : World} {y b : Nat} (hb : b ≠ y) (v0 v1 v2 v3 : Value) : ((((w.setCell ⟨y, 0, none⟩ v0).setCell ⟨y, 1, none⟩ v1).setCell ⟨y, 2, none⟩ v2).setCell ⟨y, 3, none⟩ v3).heap[b]? = w.heap[b]? :=
  (Below.heap_setCell _ _ _ _ hb).trans ((Below.heap_setCell _ _ _ _ hb).trans ((Below.heap_setCell _ _ _ _ hb).trans (Below.heap_setCell _ _ _ _ hb)))
theorem cells52 {w : World} {y : Nat} {u0 u1 u2 u3 : Value} (h : BX w y #[u0, u1, u2, u3] 52) : w.cell? ⟨y, 0, none⟩ = some u0 ∧ w.cell? ⟨y, 1, none⟩ = some u1 ∧ w.cell? ⟨y, 2, none⟩ = some u2 ∧ w.cell? ⟨y, 3, none⟩ = some u3 :=
  ⟨Joins.cell_of_block h 0, Joins.cell_of_block h 1, Joins.cell_of_block h 2, Joins.cell_of_block h 3⟩
set_option maxRecDepth 100000 in
set_option maxHeartbeats 16000000 in
theorem skips6_in {w : World} {ad ta : Option Addr} {n c tn tc S K a : Nat} {l : List In} {tx : List Int} (hP : PI w w.heap.size ad n l) (hT : TextAt w.heap.size w ta tn tx) (hm : mayB l (S : Int) (K : Int) = true) (ht : tn ≤ 1000) (ha : a ≤ tn) :
    Calls Try.prog 6 #[pv ad n c (S : Int) (K : Int), .slice ta tn tc, .int .i64 (a : Int)] w fun e w' => e = .returned (.bool true) ∧ Below w.heap.size w w' := by
  have htl := hT.1
  have hln := hP.len
  have hmo := may_ok hm
  have hrow := rowP_le l S
  obtain ⟨r, hr⟩ := next_there (rowP l S).1 tx a (by omega)
  have hsk := skips hm (by omega) hr
  obtain ⟨rl, hrl⟩ : ∃ x, x = (rowP l S).1 := ⟨_, rfl⟩
  obtain ⟨rb, hrb⟩ : ∃ x, x = (rowP l S).2 := ⟨_, rfl⟩
  obtain ⟨m, hmm⟩ : ∃ x, x = rl.length := ⟨_, rfl⟩
  obtain ⟨sb, hsb⟩ : ∃ x, x = (r == (a : Int)) := ⟨_, rfl⟩
  obtain ⟨ok1, hok1⟩ : ∃ x, x = (lockRun (prOf l tx S K) tx.length a true).1.isSome := ⟨_, rfl⟩
  obtain ⟨wh1, hwh1⟩ : ∃ x, x = whF (lockRun (prOf l tx S K) tx.length a true).1 := ⟨_, rfl⟩
  obtain ⟨st1, hst1⟩ : ∃ x : Int, x = (lockRun (prOf l tx S K) tx.length a true).2 := ⟨_, rfl⟩
  obtain ⟨cl1, hcl1⟩ : ∃ x, x = capsF (lockRun (prOf l tx S K) tx.length a true).1 := ⟨_, rfl⟩
  obtain ⟨ok2, hok2⟩ : ∃ x, x = (lockRun (prOf l tx S K) tx.length a false).1.isSome := ⟨_, rfl⟩
  obtain ⟨wh2, hwh2⟩ : ∃ x, x = whF (lockRun (prOf l tx S K) tx.length a false).1 := ⟨_, rfl⟩
  obtain ⟨st2, hst2⟩ : ∃ x : Int, x = (lockRun (prOf l tx S K) tx.length a false).2 := ⟨_, rfl⟩
  obtain ⟨cl2, hcl2⟩ : ∃ x, x = capsF (lockRun (prOf l tx S K) tx.length a false).1 := ⟨_, rfl⟩
  have hcaps := (lockRun_steps (pr_ok (tx := tx) hm) tx.length a false).2.2
  have hcl2l : cl2.length ≤ 1002 := by
    rw [hcl2]
    cases hf : (lockRun (prOf l tx S K) tx.length a false).1 with
    | none => simp [capsF]
    | some y => have h := hcaps y hf; simp only [capsF]; rw [h]; show K ≤ 1002; omega
  have hmn : m ≤ n := by rw [hmm, hrl]; omega
  have HK1 : Hid (ok1 = true → sb = true) := fun h => by rw [hsb]; exact hsk.one (by rw [← hok1]; exact h)
  have HK2 : Hid (rb = true → ok1 = sb) := fun h => by rw [hok1, hsb]; exact hsk.whole (by rw [← hrb]; exact h)
  have HK4 : Hid (r < 0 → ok2 = false) := fun h => by rw [hok2, hsk.none h]; rfl
  have hn20 : n ≤ 20000 := by omega
  have HP : Hid (∀ W, Below w.heap.size w W → PI W W.heap.size ad n l) := fun W hW => hP.kept hW hW.size
  have HT : Hid (∀ W, Below w.heap.size w W → TextAt W.heap.size W ta tn tx) := fun W hW => (hT.below hW).mono hW.size
  have HR1 : Hid (∀ W, Below w.heap.size w W → Calls Try.prog 25 #[pv ad n c (S : Int) (K : Int), .slice ta tn tc, .int .i64 (a : Int), .bool true] W fun e w' => ∃ a1 n1 c1, e = .returned (.tuple #[.agg #[.bool ok1, .slice a1 n1 c1, .int .i64 wh1, .int .i64 st1], .int .i64 0]) ∧ OC w' W.heap.size 3 (.slice a1 n1 c1) n1 (I64 cl1) ∧ Below W.heap.size W w') := fun W hW => runw (HP.out W hW) (HT.out W hW) hm ht ha hok1 hwh1 hst1 hcl1
  have HR2 : Hid (∀ W, Below w.heap.size w W → Calls Try.prog 25 #[pv ad n c (S : Int) (K : Int), .slice ta tn tc, .int .i64 (a : Int), .bool false] W fun e w' => ∃ a1 n1 c1, e = .returned (.tuple #[.agg #[.bool ok2, .slice a1 n1 c1, .int .i64 wh2, .int .i64 st2], .int .i64 0]) ∧ OC w' W.heap.size 3 (.slice a1 n1 c1) n1 (I64 cl2) ∧ Below W.heap.size W w') := fun W hW => runw (HP.out W hW) (HT.out W hW) hm ht ha hok2 hwh2 hst2 hcl2
  have HR3 : Hid (0 ≤ r → ∃ st3, ∀ W, Below w.heap.size w W → Calls Try.prog 25 #[pv ad n c (S : Int) (K : Int), .slice ta tn tc, .int .i64 r, .bool false] W fun e w' => ∃ a1 n1 c1, e = .returned (.tuple #[.agg #[.bool ok2, .slice a1 n1 c1, .int .i64 wh2, .int .i64 st3], .int .i64 0]) ∧ OC w' W.heap.size 3 (.slice a1 n1 c1) n1 (I64 cl2) ∧ Below W.heap.size W w') := fun h0 => by
    obtain ⟨p, rfl⟩ := Int.eq_ofNat_of_zero_le h0
    obtain ⟨hp, he⟩ := hsk.far p rfl
    exact ⟨_, fun W hW => runw (HP.out W hW) (HT.out W hW) hm ht (by omega) (by rw [he]; exact hok2) (by rw [he]; exact hwh2) rfl (by rw [he]; exact hcl2)⟩
  have HPX : Hid (∀ W, Below w.heap.size w W → Calls Try.prog 11 #[pv ad n c (S : Int) (K : Int)] W fun e w' => ∃ v, e = .returned (.tuple #[v, .bool rb]) ∧ OC w' W.heap.size 3 v m (I64 rl) ∧ Below W.heap.size W w') := fun W hW => by
    have h := prefix11 (c := c) (s := (S : Int)) (k := (K : Int)) (HP.out W hW)
    have e : preP l (S : Int) (K : Int) = rowP l S := by unfold preP; rw [if_pos hm]; rfl
    rw [e, ← hrb, ← hrl, ← hmm] at h
    exact h
  have HNX : Hid (∀ W B f, FN W B f rl → Below w.heap.size w W → Calls Try.prog 22 #[.pointer (some ⟨f, 0, none⟩), .slice ta tn tc, .int .i64 (a : Int)] W fun e w' => e = .returned (.int .i64 r) ∧ w' = W) := fun W B f hf hW => (next22 hf (HT.out W hW)).mono fun e w' ⟨r', h1, h2, h3⟩ => ⟨by rw [h1, h2.eq (by rw [hrl]; exact hr)], h3⟩
  have HMM := hid hmm
  have hsb' := hsb.symm
  have q1 : ¬ (a : Int) < 0 := by omega
  have q2 : ¬ (tn : Int) < (a : Int) := by omega
  have q3 : ¬ (1000 : Int) < (tn : Int) := by omega
  have q4 : decide ((a : Int) < 0) = false := by simp
  have q5 : decide ((tn : Int) < (a : Int)) = false := by simp; omega
  have q6 : decide ((1000 : Int) < (tn : Int)) = false := by simp; omega
  have q7 : decide ((n : Int) < (m : Int)) = false := by simp; omega
  have q8 : ¬ (n : Int) < (m : Int) := by omega
  have hb := Joins.below_alloc1 w (.cells #[.slice ad n c, .int .i64 (S : Int), .int .i64 (K : Int)] 27)
  obtain ⟨U, hU⟩ : ∃ U, U = w.alloc (.cells #[.slice ad n c, .int .i64 (S : Int), .int .i64 (K : Int)] 27) := ⟨_, rfl⟩
  rw [← hU] at hb
  have hX : U.heap[w.heap.size]? = some (.cells #[.slice ad n c, .int .i64 (S : Int), .int .i64 (K : Int)] 27 (0, 0)) := by rw [hU]; exact heap_alloc_new w _
  obtain ⟨x, hx⟩ : ∃ x, x = w.heap.size := ⟨_, rfl⟩
  have HB := hid hb
  have BX0 : Hid (BX U x #[.slice ad n c, .int .i64 (S : Int), .int .i64 (K : Int)] 27) := by show BX _ _ _ _; rw [hx]; exact hX
  have HA := hid (awake8 U)
  have HCK : Hid (∀ W, Below w.heap.size w W → Calls Try.prog 24 #[pv ad n c (S : Int) (K : Int)] W fun e w' => e = .returned (.int .i64 0) ∧ Below W.heap.size W w') := fun W hW => by
    have h := rcheck9 (c := c) (s := (S : Int)) (k := (K : Int)) (HP.out W hW)
    rw [hm] at h
    simpa using h
  clear hP hT hm hr hsk hok1 hwh1 hst1 hcl1 hok2 hwh2 hst2 hcl2 hcaps hrow hrl hrb hmm hsb htl hln hmo hb hX
  go_enter Try.func6, Try.ntmps6
  go_upto_region 1 with fail
  rw [← hU, ← hx]
  clear hU hx
  go_upto_region 2 with (go_at_call 8; (with_reducible refine HA.out.mono ?_); rintro e w1 ⟨rfl, hb⟩; have HB1 := hid hb; clear hb HA)
  have HW1 : Hid (Below w.heap.size w w1) := HB.out.trans (Joins.below_le HB1.out HB.out.size)
  replace BX0 : Hid (BX w1 x #[.slice ad n c, .int .i64 (S : Int), .int .i64 (K : Int)] 27) := BX.kept BX0.out HB1.out
  obtain ⟨c0, c1, c2⟩ := three_cells BX0.out
  clear HB HB1
  go_upto_region 3 with (go_at_call 24; (with_reducible refine (HCK.out w1 HW1.out).mono ?_); rintro e w2 ⟨rfl, hb⟩; have HB2 := hid hb; clear hb c0 c1 c2)
  have HW2 : Hid (Below w.heap.size w w2) := HW1.out.trans (Joins.below_le HB2.out HW1.out.size)
  replace BX0 : Hid (BX w2 x #[.slice ad n c, .int .i64 (S : Int), .int .i64 (K : Int)] 27) := BX.kept BX0.out HB2.out
  obtain ⟨c0, c1, c2⟩ := three_cells BX0.out
  clear HB2 HW1 HCK
  go_upto_region 6 with (go_at_call 11; (with_reducible refine (HPX.out w2 HW2.out).mono ?_); rintro e w3 ⟨vr, rfl, hv, hb⟩; obtain ⟨ra, rc, e5, htx⟩ := OC.text hv (by omega); subst e5; have HV := hid hv; have HTX := hid htx; have HB3 := hid hb; clear hb c0 c1 c2 hv htx)
  have HW3 : Hid (Below w.heap.size w w3) := HW2.out.trans (Joins.below_le HB3.out HW2.out.size)
  replace BX0 : Hid (BX w3 x #[.slice ad n c, .int .i64 (S : Int), .int .i64 (K : Int)] 27) := BX.kept BX0.out HB3.out
  have HC := hid (new19_ok (c := rc) HTX.out (by omega))
  clear HB3 HW2 HPX
  go_upto_region 7 with (go_at_call 19; (with_reducible refine HC.out.mono ?_); rintro e w4 ⟨f, rfl, hf, hb⟩; have HF := hid hf; have HB4 := hid hb; clear hb hf HC)
  have HW4 : Hid (Below w.heap.size w w4) := HW3.out.trans (Joins.below_le HB4.out HW3.out.size)
  replace BX0 : Hid (BX w4 x #[.slice ad n c, .int .i64 (S : Int), .int .i64 (K : Int)] 27) := BX.kept BX0.out HB4.out
  obtain ⟨c0, c1, c2⟩ := three_cells BX0.out
  clear HB4 HW3 HTX HV
  go_upto_region 9 with fail
  go_upto_region 10 with (go_at_call 25; (with_reducible refine (HR1.out w4 HW4.out).mono ?_); rintro e w5 ⟨a1, n1, c1', rfl, hv, hb⟩; have HB5 := hid hb; clear hb hv c0 c1 c2)
  obtain ⟨V5, hV5⟩ : ∃ V5, V5 = w5.alloc (.cells #[.bool ok1, .slice a1 n1 c1', .int .i64 wh1, .int .i64 st1] 52) := ⟨_, rfl⟩
  obtain ⟨y1, hy1⟩ : ∃ y1, y1 = w5.heap.size := ⟨_, rfl⟩
  rw [← hV5, ← hy1]
  have hbb : Below w5.heap.size w5 V5 := by rw [hV5]; exact Joins.below_alloc1 w5 _
  have BY1 : Hid (BX V5 y1 #[.bool ok1, .slice a1 n1 c1', .int .i64 wh1, .int .i64 st1] 52) := by show BX _ _ _ _; rw [hV5, hy1]; exact BX.new w5 _ _
  have HB5' : Hid (Below w4.heap.size w4 V5) := HB5.out.trans (Joins.below_le hbb HB5.out.size)
  have HW5 : Hid (Below w.heap.size w V5) := HW4.out.trans (Joins.below_le HB5'.out HW4.out.size)
  replace BX0 : Hid (BX V5 x #[.slice ad n c, .int .i64 (S : Int), .int .i64 (K : Int)] 27) := BX.kept BX0.out HB5'.out
  replace HF : Hid (FN V5 w3.heap.size f rl) := HF.out.kept HB5'.out
  clear hV5 hy1 hbb HB5 HB5' HW4 HR1
  go_upto_region 11 with (go_at_call 22; (with_reducible refine (HNX.out V5 _ f HF.out HW5.out).mono ?_); rintro e w6 ⟨rfl, hw⟩; have hw' := hw.symm; clear hw; subst hw')
  obtain ⟨c0, c1, c2, c3⟩ := cells52 BY1.out
  go_cut [97] from 83 to 96 (fun v97 wx => v97 = .bool false ∧ wx = V5)
  case first =>
    have hk1 := HK1.out
    have hk2 := HK2.out
    have HSB := hid hsb'
    clear hsb'
    cases ok1 <;> cases sb <;> cases rb
    all_goals first | (exfalso; revert hk1; simp; done) | (exfalso; revert hk2; simp; done) | (clear hk1 hk2; go_wp2_with fail; go_meet; exact ⟨rfl, rfl⟩)
  case rest =>
    obtain ⟨rfl, hwc⟩ := hcut
    have hwc' := hwc.symm
    clear hwc
    subst hwc'
    clear c0 c1 c2 c3 HK1 HK2 hsb' BY1
    obtain ⟨c0, c1, c2⟩ := three_cells BX0.out
    go_upto_region 14 with (go_at_call 25; (with_reducible refine (HR2.out V5 HW5.out).mono ?_); rintro e w7 ⟨a2, n2, c2', rfl, hv, hb⟩; have HV2 := hid hv; have HB7 := hid hb; clear hb hv c0 c1 c2)
    obtain ⟨V7, hV7⟩ : ∃ V7, V7 = w7.alloc (.cells #[.bool ok2, .slice a2 n2 c2', .int .i64 wh2, .int .i64 st2] 52) := ⟨_, rfl⟩
    obtain ⟨y2, hy2⟩ : ∃ y2, y2 = w7.heap.size := ⟨_, rfl⟩
    rw [← hV7, ← hy2]
    have hbb : Below w7.heap.size w7 V7 := by rw [hV7]; exact Joins.below_alloc1 w7 _
    have BY2 : Hid (BX V7 y2 #[.bool ok2, .slice a2 n2 c2', .int .i64 wh2, .int .i64 st2] 52) := by show BX _ _ _ _; rw [hV7, hy2]; exact BX.new w7 _ _
    have HB7' : Hid (Below V5.heap.size V5 V7) := HB7.out.trans (Joins.below_le hbb HB7.out.size)
    have HW7 : Hid (Below w.heap.size w V7) := HW5.out.trans (Joins.below_le HB7'.out HW5.out.size)
    replace BX0 : Hid (BX V7 x #[.slice ad n c, .int .i64 (S : Int), .int .i64 (K : Int)] 27) := BX.kept BX0.out HB7'.out
    replace HF : Hid (FN V7 w3.heap.size f rl) := HF.out.kept HB7'.out
    replace HV2 : Hid (OC V7 V5.heap.size 3 (.slice a2 n2 c2') n2 (I64 cl2)) := HV2.out.below hbb
    have hy2w : w.heap.size ≤ y2 := by rw [hy2]; have h1 := HW5.out.size; have h2 := HB7.out.size; omega
    clear hV7 hy2 hbb HB7 HB7' HW5 HR2
    go_upto_region 15 with (go_at_call 22; (with_reducible refine (HNX.out V7 _ f HF.out HW7.out).mono ?_); rintro e w8 ⟨rfl, hw⟩; have hw' := hw.symm; clear hw; subst hw')
    obtain ⟨c0, c1, c2, c3⟩ := cells52 BY2.out
    obtain ⟨bn, hbn⟩ : ∃ bn, bn = decide (0 ≤ r) := ⟨_, rfl⟩
    have HBN := hid hbn
    go_upto_region 16 with fail
    obtain ⟨V8, hV8⟩ : ∃ V8, V8 = V7.alloc (.cells #[.bool ok2, .slice a2 n2 c2', .int .i64 wh2, .int .i64 st2] 52) := ⟨_, rfl⟩
    obtain ⟨y3, hy3⟩ : ∃ y3, y3 = V7.heap.size := ⟨_, rfl⟩
    rw [← hV8, ← hy3]
    have hbb : Below V7.heap.size V7 V8 := by rw [hV8]; exact Joins.below_alloc1 V7 _
    have BY3 : Hid (BX V8 y3 #[.bool ok2, .slice a2 n2 c2', .int .i64 wh2, .int .i64 st2] 52) := by show BX _ _ _ _; rw [hV8, hy3]; exact BX.new V7 _ _
    have hy23 : y2 ≠ y3 := by have h := BY2.out.lt; omega
    have hy3w : w.heap.size ≤ y3 := by rw [hy3]; exact HW7.out.size
    have HW8 : Hid (Below w.heap.size w V8) := HW7.out.trans (Joins.below_le hbb HW7.out.size)
    replace BX0 : Hid (BX V8 x #[.slice ad n c, .int .i64 (S : Int), .int .i64 (K : Int)] 27) := BX.kept BX0.out hbb
    replace BY2 : Hid (BX V8 y2 #[.bool ok2, .slice a2 n2 c2', .int .i64 wh2, .int .i64 st2] 52) := BX.kept BY2.out hbb
    replace HV2 : Hid (OC V8 V5.heap.size 3 (.slice a2 n2 c2') n2 (I64 cl2)) := HV2.out.below hbb
    have HY23 := hid hy23
    clear hV8 hy3 hbb HW7 c0 c1 c2 c3 HNX HF hy23
    go_upto_if 111 with fail
    rw [← hbn]
    clear hbn
    go_cut [] from 112 to 118 (fun wx => ∃ (a3 : Option Addr) (n3 c3' : Nat) (st3 : Int) (B3 : Nat), Hid (BX wx y3 #[.bool ok2, .slice a3 n3 c3', .int .i64 wh2, .int .i64 st3] 52) ∧ Hid (BX wx y2 #[.bool ok2, .slice a2 n2 c2', .int .i64 wh2, .int .i64 st2] 52) ∧ Hid (OC wx V5.heap.size 3 (.slice a2 n2 c2') n2 (I64 cl2)) ∧ Hid (OC wx B3 3 (.slice a3 n3 c3') n3 (I64 cl2)) ∧ Hid (Below w.heap.size w wx))
    case first =>
      by_cases h0 : 0 ≤ r
      · obtain rfl : bn = true := by rw [HBN.out]; simpa using h0
        obtain ⟨st3, hrun⟩ := HR3.out h0
        have HRUN := hid (hrun V8 HW8.out)
        obtain ⟨c0, c1, c2⟩ := three_cells BX0.out
        have HFIN : Hid (∀ w9 a3 n3 c3', OC w9 V8.heap.size 3 (.slice a3 n3 c3') n3 (I64 cl2) → Below V8.heap.size V8 w9 → BX w9 y3 #[.bool ok2, .slice a2 n2 c2', .int .i64 wh2, .int .i64 st2] 52 ∧ (BX ((((w9.setCell ⟨y3, 0, none⟩ (.bool ok2)).setCell ⟨y3, 1, none⟩ (.slice a3 n3 c3')).setCell ⟨y3, 2, none⟩ (.int .i64 wh2)).setCell ⟨y3, 3, none⟩ (.int .i64 st3)) y3 #[.bool ok2, .slice a3 n3 c3', .int .i64 wh2, .int .i64 st3] 52 ∧ BX ((((w9.setCell ⟨y3, 0, none⟩ (.bool ok2)).setCell ⟨y3, 1, none⟩ (.slice a3 n3 c3')).setCell ⟨y3, 2, none⟩ (.int .i64 wh2)).setCell ⟨y3, 3, none⟩ (.int .i64 st3)) y2 #[.bool ok2, .slice a2 n2 c2', .int .i64 wh2, .int .i64 st2] 52 ∧ OC ((((w9.setCell ⟨y3, 0, none⟩ (.bool ok2)).setCell ⟨y3, 1, none⟩ (.slice a3 n3 c3')).setCell ⟨y3, 2, none⟩ (.int .i64 wh2)).setCell ⟨y3, 3, none⟩ (.int .i64 st3)) V5.heap.size 3 (.slice a2 n2 c2') n2 (I64 cl2) ∧ OC ((((w9.setCell ⟨y3, 0, none⟩ (.bool ok2)).setCell ⟨y3, 1, none⟩ (.slice a3 n3 c3')).setCell ⟨y3, 2, none⟩ (.int .i64 wh2)).setCell ⟨y3, 3, none⟩ (.int .i64 st3)) V8.heap.size 3 (.slice a3 n3 c3') n3 (I64 cl2) ∧ Below w.heap.size w ((((w9.setCell ⟨y3, 0, none⟩ (.bool ok2)).setCell ⟨y3, 1, none⟩ (.slice a3 n3 c3')).setCell ⟨y3, 2, none⟩ (.int .i64 wh2)).setCell ⟨y3, 3, none⟩ (.int .i64 st3)))) := fun w9 a3 n3 c3' hoc hb9 => by
          have g3 := BX.kept BY3.out hb9
          have g2 := BX.kept BY2.out hb9
          have v2 := HV2.out.below hb9
          refine ⟨g3, four52 g3 _ _ _ _, (four_other HY23.out _ _ _ _).trans g2, v2.kept (fun b hb => four_other (fun e => OC.ne v2 g3 (by decide) (by rw [hb, e])) _ _ _ _), hoc.kept (fun b hb => four_other (fun e => OC.ne hoc g3 (by decide) (by rw [hb, e])) _ _ _ _), ?_⟩
          have h1 : Below w.heap.size w w9 := HW8.out.trans (Joins.below_le hb9 HW8.out.size)
          exact (((h1.setCell (p := ⟨y3, 0, none⟩) hy3w _).setCell (p := ⟨y3, 1, none⟩) hy3w _).setCell (p := ⟨y3, 2, none⟩) hy3w _).setCell (p := ⟨y3, 3, none⟩) hy3w _
        clear hrun h0
        go_wp2_with (go_at_call 25; (with_reducible refine HRUN.out.mono ?_); rintro e w9 ⟨a3, n3, c3', rfl, hv, hb⟩; obtain ⟨g3, hfin⟩ := HFIN.out w9 a3 n3 c3' hv hb; have HFX := hid hfin; obtain ⟨c0, c1, c2, c3⟩ := cells52 g3; have u0 := Joins.unfrozen_of_block g3 0; have u1 := Joins.unfrozen_of_block g3 1; have u2 := Joins.unfrozen_of_block g3 2; have u3 := Joins.unfrozen_of_block g3 3; clear hv hb hfin g3 HRUN)
        go_meet
        obtain ⟨f1, f2, f3, f4, f5⟩ := HFX.out
        exact ⟨a3, n3, c3', st3, _, f1, f2, f3, f4, f5⟩
      · obtain rfl : bn = false := by rw [HBN.out]; simpa using h0
        go_wp2_with fail
        go_meet
        exact ⟨a2, n2, c2', st2, _, BY3.out, BY2.out, HV2.out, HV2.out, HW8.out⟩
    case rest =>
      obtain ⟨a3, n3, c3', st3, B3, G3, G2, O2', O3', HWW⟩ := hcut
      have HC := hid (sameOC2 O2'.out O3'.out hcl2l)
      obtain ⟨c0, c1, c2, c3⟩ := cells52 G2.out
      obtain ⟨g0, g1, g2, g3⟩ := cells52 G3.out
      go_upto_region 19 with (go_at_call 15; (with_reducible refine HC.out.mono ?_); rintro e wz ⟨rfl, hb⟩; have HBZ := hid hb; clear hb HC)
      obtain ⟨c0, c1, c2, c3⟩ := cells52 (BX.kept G2.out HBZ.out)
      obtain ⟨g0, g1, g2, g3⟩ := cells52 (BX.kept G3.out HBZ.out)
      have d1 : (ok2 == ok2) = true := by simp
      have d2 : (wh2 == wh2) = true := by simp
      have HALL : Hid (Below w.heap.size w wz) := HWW.out.trans (Joins.below_le HBZ.out HWW.out.size)
      by_cases h0 : 0 ≤ r
      · have d3 : decide (0 ≤ r) = true := by simpa using h0
        go_wp2_with fail
        all_goals go_ret
        all_goals exact ⟨rfl, HALL.out⟩
      · have d3 : decide (0 ≤ r) = false := by simpa using h0
        obtain rfl := HK4.out (by omega)
        go_wp2_with fail
        all_goals go_ret
        all_goals exact ⟨rfl, HALL.out⟩
/-- the law, of any program, text and place -/
theorem skips6 {w : World} {ad ta : Option Addr} {n c tn tc : Nat} {s k a : Int} {l : List In} {tx : List Int} (hP : PI w w.heap.size ad n l) (hT : TextAt w.heap.size w ta tn tx) :
    Calls Try.prog 6 #[pv ad n c s k, .slice ta tn tc, .int .i64 a] w fun e w' => e = .returned (.bool true) ∧ Below w.heap.size w w' := by
  by_cases hno : mayB l s k = false ∨ a < 0 ∨ (tn : Int) < a ∨ 1000 < tn
  · exact skips6_out hP hno
  · have hm : mayB l s k = true := by
      cases h : mayB l s k
      · exact absurd (.inl h) hno
      · rfl
    have hmo := may_ok hm
    obtain ⟨S, rfl⟩ := Int.eq_ofNat_of_zero_le hmo.2.1
    obtain ⟨K, rfl⟩ := Int.eq_ofNat_of_zero_le (show 0 ≤ k by omega)
    obtain ⟨A, rfl⟩ := Int.eq_ofNat_of_zero_le (show 0 ≤ a from Int.not_lt.1 fun h => hno (.inr (.inl h)))
    exact skips6_in hP hT hm (Nat.le_of_not_lt fun h => hno (.inr (.inr (.inr h)))) (Nat.le_of_not_lt fun h => hno (.inr (.inr (.inl (by omega)))))
end Go.Proofs.Ytiggbgmnibndoaa
namespace Go.Proofs.Ytiggbgmnibndoaa
open Go.ChangeShapes Go.WideShapes Go.ChangeAt Go.RowKit
set_option linter.unusedVariables false
set_option linter.unusedSimpArgs false
set_option maxRecDepth 100000 in
theorem skipsLifted (os : Os) (started : os.Started) (H : Type) (enc : TypeId × Value → H) :
    ReturnsInHanded {} Try.checked os 6 .any (Rows.literalSkipsSpec.pre6 enc Try.prog Try.f6 Rows.literalSkipsRow.domain false) (Rows.literalSkipsSpec.post enc Try.prog Try.f6 false true false false) := by
  refine returnsInHanded_of_change_sized (C := Try.checked) ownB started (by kernel_rfl) Try.func6
    (ChangeSpec.witness6 (enc := enc) (C := Try.checked) false ⟨#[], #[.agg #[.slice none 0 0, .int .i64 0, .int .i64 0], .slice none 0 0, .int .i64 0], []⟩ 8 (by kernel_rfl) (by kernel_rfl) (by kernel_rfl) (by kernel_rfl)) ?_
  intro W base args ds gs before hval0 hW hcnd0 hsz0 hholds
  have hval : ∀ (j : Nat) t v, Try.f6.params[j]? = some t → args[j]? = some v → Value.okWide Try.prog W .any base t v := hval0
  have hW' := hW
  obtain ⟨p, q, hA0, hV, rfl, hfz, hnd⟩ := hW
  have hA : DataW.TrodAll enc Try.prog W 0 (fun _ => true) true Try.f6.params.toList args.toList ds p := hA0
  have hsz : ∀ n ∈ DataW.weightsEach Try.prog (Try.f6.params.toList ++ Rows.literalSkipsSpec.plain.varTypes Try.prog) (ds ++ gs), n ≤ reachBytes := fun n hn => by simpa using List.all_eq_true.1 hsz0 n hn
  rw [Try.params6] at hA hval hsz
  obtain ⟨v0, vs0, d0, ds0, p0, q0, hargs, rfl, rfl, h0, r0⟩ := trodAll_cons hA
  obtain ⟨v1, vs1, d1, ds1, p1, q1, rfl, rfl, rfl, h1, r1⟩ := trodAll_cons r0
  obtain ⟨v2, vs2, d2, ds2, p2, q2, rfl, rfl, rfl, h2, r2⟩ := trodAll_cons r1
  obtain ⟨rfl, rfl, rfl⟩ := trodAll_nil r2
  obtain rfl : args = #[v0, v1, v2] := by cases args; simp_all
  obtain ⟨rfl, rfl⟩ := trodVars_none hV
  have hlt0 : ∀ x ∈ p0, x.block < W.heap.size := fun x hx => by have := hW'.lt x (by simp [hx]); simpa using this
  have hlt1 : ∀ x ∈ p1, x.block < W.heap.size := fun x hx => by have := hW'.lt x (by simp [hx]); simpa using this
  obtain ⟨ad, n, c, s, k, l, rfl, _, _, hn, hP⟩ := prog_arg (hval 0 27 v0 rfl rfl) h0 (fun n hn => hsz n (DataW.weights_mem_each (j := 0) (by simp) (by simp) n hn))
  obtain ⟨tx, ta, tn, tc, rfl, hT⟩ := text_arg (hval 1 29 v1 rfl rfl) h1 (fun n hn => hsz n (DataW.weights_mem_each (j := 1) (by simp) (by simp) n hn))
  obtain ⟨a2, rfl, rfl, rfl, w2⟩ := open_int Try.underlying3 (hval 2 3 v2 rfl rfl) h2
  clear hA0 hval0
  refine (skips6 hP hT.tx).mono fun e W' ⟨he, hb⟩ => ?_
  subst he
  exact ⟨_, rfl, _, _, _, [], p0 ++ (p1 ++ ([] ++ [])), [], hW', trodAll_cons_mk (shut_bool Try.underlying4 _) trodAll_mk0, trodAll_cons_mk (Below.trod laidOut (by kernel_rfl) (of_decide_eq_true (by kernel_rfl)) h0 hb hlt0) (trodAll_cons_mk (Below.trod laidOut (by kernel_rfl) (of_decide_eq_true (by kernel_rfl)) h1 hb hlt1) (trodAll_cons_mk (shut_int Try.underlying3 w2) trodAll_mk0)), rfl, hb.frame _, fun h => by cases h⟩
theorem literalSkips_holds : Rows.LiteralSkipsSaid :=
  OpenClaim.holds_of_wide 6 Try.f6 rfl rfl rfl rfl rfl rfl rfl ⟨rfl, rfl, rfl, rfl, rfl⟩ rfl rfl rfl rfl rfl (by kernel_rfl) Try.func6 (by kernel_rfl)
    (of_decide_eq_true (by kernel_rfl)) (by unfold Func.isWrapper; first | (rw [if_pos (by decide +kernel)]; kernel_rfl) | (rw [if_neg (by decide +kernel)]; exact ⟨rfl, rfl⟩))
    (fun os started H enc _ => skipsLifted os started H enc)
end Go.Proofs.Ytiggbgmnibndoaa
