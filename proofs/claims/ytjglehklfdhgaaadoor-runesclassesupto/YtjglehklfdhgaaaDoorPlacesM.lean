/- HELPERS: places part bytes into two texts, as plain mathematics. -/
import Derived.Test.YtjglehklfdhgaaaDoorBackM
namespace Go.Proofs.YtjglehklfdhgaaaDoor
open Go.RowKit Go.Mx
set_option linter.unusedVariables false
set_option linter.unusedSimpArgs false
theorem okB_parts {a : Int} {t : List Int} (h : okB a t = true) : 1 ≤ sz a ∧ sz a ≤ (t.length : Int) + 1 ∧ (t.take ((sz a).toNat - 1)).all cont = true ∧ ls (sz a) ≤ val a t ∧ dom (val a t) = true := by
  simp only [okB, Bool.and_eq_true, decide_eq_true_eq] at h
  exact ⟨h.1.1.1.1, h.1.1.1.2, h.1.1.2, h.1.2, h.2⟩
theorem sz_cases {a : Int} (h0 : 0 ≤ a) (h1 : 1 ≤ sz a) : (sz a = 1 ∧ a < 128) ∨ (sz a = 2 ∧ 192 ≤ a ∧ a < 224) ∨ (sz a = 3 ∧ 224 ≤ a ∧ a < 240) ∨ (sz a = 4 ∧ 240 ≤ a ∧ a < 248) := by
  unfold sz at *
  split at h1
  · rename_i h; rw [if_pos h]; omega
  · rename_i h; rw [if_neg h]
    split at h1
    · omega
    · rename_i h2; rw [if_neg h2]
      split at h1
      · rename_i h3; rw [if_pos h3]; omega
      · rename_i h3; rw [if_neg h3]
        split at h1
        · rename_i h4; rw [if_pos h4]; omega
        · rename_i h4; rw [if_neg h4]
          split at h1
          · rename_i h5; rw [if_pos h5]; omega
          · omega
theorem cont_bd {b : Int} (h : cont b = true) : 128 ≤ b ∧ b < 192 := by simpa [cont] using h
theorem enc2 {r : Int} (h0 : 128 ≤ r) (h1 : r < 2048) : enc r = [192 + r / 64, 128 + r % 64] := by unfold enc; rw [if_neg (by omega), if_pos h1]
theorem enc3 {r : Int} (h0 : 2048 ≤ r) (h1 : r < 65536) : enc r = [224 + r / 4096, 128 + r / 64 % 64, 128 + r % 64] := by unfold enc; rw [if_neg (by omega), if_neg (by omega), if_pos h1]
theorem enc4 {r : Int} (h0 : 65536 ≤ r) : enc r = [240 + r / 262144, 128 + r / 4096 % 64, 128 + r / 64 % 64, 128 + r % 64] := by unfold enc; rw [if_neg (by omega), if_neg (by omega), if_neg (by omega)]
/-- what is read well is written as it stood -/
theorem enc_val (a : Int) (t : List Int) (h : okB a t = true) (h0 : 0 ≤ a) : enc (val a t) = (a :: t).take (sz a).toNat := by
  obtain ⟨p1, p2, p3, p4, p5⟩ := okB_parts h
  rcases sz_cases h0 p1 with ⟨hs, hr⟩ | ⟨hs, hr1, hr2⟩ | ⟨hs, hr1, hr2⟩ | ⟨hs, hr1, hr2⟩
  · have hv : val a t = a := by unfold val; rw [hs]; show a % 128 = a; omega
    rw [hv, hs]
    unfold enc; rw [if_pos hr]; rfl
  · rw [hs] at p2 p3 p4
    match t, p2 with
    | b :: t', _ =>
      have hv : val a (b :: t') = a % 32 * 64 + b % 64 := by unfold val; rw [hs]; rfl
      rw [hv] at p4 ⊢
      rw [ls2] at p4
      have hb := cont_bd (b := b) (by simpa using p3)
      rw [hs, enc2 p4 (by omega)]
      show [192 + (a % 32 * 64 + b % 64) / 64, 128 + (a % 32 * 64 + b % 64) % 64] = [a, b]
      rw [show 192 + (a % 32 * 64 + b % 64) / 64 = a by omega, show 128 + (a % 32 * 64 + b % 64) % 64 = b by omega]
    | [], p2 => simp at p2
  · rw [hs] at p2 p3 p4
    match t, p2 with
    | b :: c :: t', _ =>
      have hv : val a (b :: c :: t') = (a % 16 * 64 + b % 64) * 64 + c % 64 := by unfold val; rw [hs]; rfl
      rw [hv] at p4 ⊢
      rw [ls3] at p4
      have hbc : cont b = true ∧ cont c = true := by simpa using p3
      have hb := cont_bd hbc.1
      have hc := cont_bd hbc.2
      rw [hs, enc3 p4 (by omega)]
      show [224 + ((a % 16 * 64 + b % 64) * 64 + c % 64) / 4096, 128 + ((a % 16 * 64 + b % 64) * 64 + c % 64) / 64 % 64, 128 + ((a % 16 * 64 + b % 64) * 64 + c % 64) % 64] = [a, b, c]
      rw [show 224 + ((a % 16 * 64 + b % 64) * 64 + c % 64) / 4096 = a by omega, show 128 + ((a % 16 * 64 + b % 64) * 64 + c % 64) / 64 % 64 = b by omega, show 128 + ((a % 16 * 64 + b % 64) * 64 + c % 64) % 64 = c by omega]
    | [], p2 => simp at p2
    | [_], p2 => simp at p2
  · rw [hs] at p2 p3 p4
    match t, p2 with
    | b :: c :: d :: t', _ =>
      have hv : val a (b :: c :: d :: t') = ((a % 8 * 64 + b % 64) * 64 + c % 64) * 64 + d % 64 := by unfold val; rw [hs]; rfl
      rw [hv] at p4 ⊢
      rw [ls4] at p4
      have hbc : cont b = true ∧ cont c = true ∧ cont d = true := by simpa using p3
      have hb := cont_bd hbc.1
      have hc := cont_bd hbc.2.1
      have hd := cont_bd hbc.2.2
      rw [hs, enc4 p4]
      show [240 + (((a % 8 * 64 + b % 64) * 64 + c % 64) * 64 + d % 64) / 262144, 128 + (((a % 8 * 64 + b % 64) * 64 + c % 64) * 64 + d % 64) / 4096 % 64, 128 + (((a % 8 * 64 + b % 64) * 64 + c % 64) * 64 + d % 64) / 64 % 64, 128 + (((a % 8 * 64 + b % 64) * 64 + c % 64) * 64 + d % 64) % 64] = [a, b, c, d]
      rw [show 240 + (((a % 8 * 64 + b % 64) * 64 + c % 64) * 64 + d % 64) / 262144 = a by omega, show 128 + (((a % 8 * 64 + b % 64) * 64 + c % 64) * 64 + d % 64) / 4096 % 64 = b by omega, show 128 + (((a % 8 * 64 + b % 64) * 64 + c % 64) * 64 + d % 64) / 64 % 64 = c by omega, show 128 + (((a % 8 * 64 + b % 64) * 64 + c % 64) * 64 + d % 64) % 64 = d by omega]
    | [], p2 => simp at p2
    | [_], p2 => simp at p2
    | [_, _], p2 => simp at p2
theorem dec_as (l : List Int) (hne : l ≠ []) (hL : ByteL l) (h : 1 < (dec l).2 ∨ ¬ (dec l).1 = 65533) : enc (dec l).1 = l.take (dec l).2.toNat := by
  cases l with
  | nil => exact absurd rfl hne
  | cons a t =>
    show enc (decAt a t).1 = (a :: t).take (decAt a t).2.toNat
    have h' : 1 < (decAt a t).2 ∨ ¬ (decAt a t).1 = 65533 := h
    unfold decAt at *
    by_cases ho : okB a t = true
    · rw [if_pos ho]
      exact enc_val a t ho hL.head.1
    · rw [if_neg ho] at h'
      simp at h'
theorem dec_take (l : List Int) (m : Nat) (hne : l ≠ []) (hm : (dec l).2.toNat ≤ m) : dec (l.take m) = dec l := by
  have hb := dec_bd l hne
  cases l with
  | nil => exact absurd rfl hne
  | cons a t =>
    obtain ⟨m, rfl⟩ : ∃ k, m = k + 1 := ⟨m - 1, by omega⟩
    show decAt a (t.take m) = decAt a t
    have hm' : (decAt a t).2.toNat ≤ m + 1 := hm
    by_cases ho : okB a t = true
    · have hd : decAt a t = (val a t, sz a) := by unfold decAt; rw [if_pos ho]
      rw [hd] at hm' ⊢
      obtain ⟨p1, p2, p3, p4, p5⟩ := okB_parts ho
      simp only at hm'
      have ht : (t.take m).take ((sz a).toNat - 1) = t.take ((sz a).toNat - 1) := by rw [List.take_take]; congr 1; omega
      have hv : val a (t.take m) = val a t := by unfold val; rw [ht]
      have ho' : okB a (t.take m) = true := by
        unfold okB
        rw [hv, ht]
        simp only [Bool.and_eq_true, decide_eq_true_eq]
        refine ⟨⟨⟨⟨p1, ?_⟩, p3⟩, p4⟩, p5⟩
        rw [List.length_take]; omega
      unfold decAt; rw [if_pos ho', hv]
    · have hd : decAt a t = (65533, 1) := by unfold decAt; rw [if_neg ho]
      rw [hd]
      have ho' : ¬ okB a (t.take m) = true := by
        intro ho'
        obtain ⟨p1, p2, p3, p4, p5⟩ := okB_parts ho'
        rw [List.length_take] at p2
        have ht : (t.take m).take ((sz a).toNat - 1) = t.take ((sz a).toNat - 1) := by rw [List.take_take]; congr 1; omega
        have hv : val a (t.take m) = val a t := by unfold val; rw [ht]
        rw [hv] at p4 p5
        rw [ht] at p3
        apply ho
        unfold okB
        simp only [Bool.and_eq_true, decide_eq_true_eq]
        exact ⟨⟨⟨⟨p1, by omega⟩, p3⟩, p4⟩, p5⟩
      unfold decAt; rw [if_neg ho']
/-- how many bytes the rune at the head has -/
def sd (l : List Int) : Nat := (dec l).2.toNat
theorem sd_bd (l : List Int) (h : l ≠ []) : 1 ≤ sd l ∧ sd l ≤ 4 ∧ sd l ≤ l.length ∧ dom (dec l).1 = true ∧ ((sd l : Nat) : Int) = (dec l).2 := by
  have := dec_bd l h
  unfold sd
  exact ⟨by omega, by omega, by omega, this.2.2.2, by omega⟩
/-- where the place k lies -/
def plK : Nat → List Int → Nat
  | 0, _ => 0
  | _ + 1, [] => 0
  | k + 1, a :: t => sd (a :: t) + plK k ((a :: t).drop (sd (a :: t)))
theorem cutF_cons (n p : Nat) (a : Int) (t : List Int) : cutF (n + 1) p (a :: t) = ((dec (a :: t)).1, p) :: cutF n (p + sd (a :: t)) ((a :: t).drop (sd (a :: t))) := rfl
theorem drop_len_lt (a : Int) (t : List Int) (n : Nat) (h : (a :: t).length ≤ n + 1) : ((a :: t).drop (sd (a :: t))).length ≤ n := by
  have := sd_bd (a :: t) (by simp)
  rw [List.length_drop]; omega
theorem plK_facts : ∀ (n p : Nat) (l : List Int), l.length ≤ n → ∀ k, k ≤ (cutF n p l).length →
    (placesOf (cutF n p l) ++ [((p + l.length : Nat) : Int)])[k]? = some ((p + plK k l : Nat) : Int) ∧ (k < (cutF n p l).length → plK k l < l.length ∧ (runesOf (cutF n p l))[k]? = some (dec (l.drop (plK k l))).1 ∧ plK (k + 1) l = plK k l + sd (l.drop (plK k l))) := by
  intro n
  induction n with
  | zero =>
    intro p l hl k hk
    have : l = [] := List.eq_nil_of_length_eq_zero (by omega)
    subst this
    have hk0 : k = 0 := by simp [cutF] at hk; omega
    subst hk0
    exact ⟨by simp [cutF, placesOf, plK], fun h => by simp [cutF] at h⟩
  | succ n ih =>
    intro p l hl k hk
    cases l with
    | nil =>
      have hk0 : k = 0 := by simp [cutF] at hk; omega
      subst hk0
      exact ⟨by simp [cutF, placesOf, plK], fun h => by simp [cutF] at h⟩
    | cons a t =>
      have hb := sd_bd (a :: t) (by simp)
      rw [cutF_cons] at hk ⊢
      cases k with
      | zero =>
        refine ⟨by simp [placesOf, plK], fun _ => ⟨by simp [plK], by simp [runesOf, plK], ?_⟩⟩
        show sd (a :: t) + plK 0 _ = 0 + sd (a :: t)
        simp [plK]
      | succ k =>
        have h := ih (p + sd (a :: t)) ((a :: t).drop (sd (a :: t))) (drop_len_lt a t n hl) k (by simpa using hk)
        have hlen : p + sd (a :: t) + ((a :: t).drop (sd (a :: t))).length = p + (a :: t).length := by rw [List.length_drop]; omega
        rw [hlen] at h
        have hp : plK (k + 1) (a :: t) = sd (a :: t) + plK k ((a :: t).drop (sd (a :: t))) := rfl
        refine ⟨?_, fun hlt => ?_⟩
        · rw [hp, ← Nat.add_assoc, ← h.1]
          simp [placesOf]
        · obtain ⟨h1, h2, h3⟩ := h.2 (by simpa using hlt)
          have hdd : (a :: t).drop (plK (k + 1) (a :: t)) = ((a :: t).drop (sd (a :: t))).drop (plK k ((a :: t).drop (sd (a :: t)))) := by rw [hp, List.drop_drop]
          refine ⟨?_, ?_, ?_⟩
          · rw [hp]; rw [List.length_drop] at h1; omega
          · rw [hdd, ← h2]; simp [runesOf]
          · rw [hdd]
            show sd (a :: t) + plK (k + 1) ((a :: t).drop (sd (a :: t))) = _
            rw [h3, hp]; omega
theorem cutF_runes (n p q : Nat) (l : List Int) : runesOf (cutF n p l) = runesOf (cutF n q l) := by
  induction n generalizing p q l with
  | zero => rfl
  | succ n ih =>
    cases l with
    | nil => rfl
    | cons a t => rw [cutF_cons, cutF_cons]; simp only [runesOf, List.map_cons]; congr 1; exact ih _ _ _
/-- the runes ahead of a place, and those behind it -/
theorem cut_parts : ∀ (n p : Nat) (l : List Int), l.length ≤ n → ∀ k, k ≤ (cutF n p l).length →
    runesOf (cutF n p (l.take (plK k l))) = (runesOf (cutF n p l)).take k ∧ runesOf (cutF n p (l.drop (plK k l))) = (runesOf (cutF n p l)).drop k := by
  intro n
  induction n with
  | zero =>
    intro p l hl k hk
    have hk0 : k = 0 := by simp [cutF] at hk; omega
    subst hk0
    exact ⟨rfl, rfl⟩
  | succ n ih =>
    intro p l hl k hk
    cases l with
    | nil =>
      have hk0 : k = 0 := by simp [cutF] at hk; omega
      subst hk0
      exact ⟨rfl, rfl⟩
    | cons a t =>
      have hb := sd_bd (a :: t) (by simp)
      cases k with
      | zero => exact ⟨by simp [plK, cutF, runesOf], by simp [plK]⟩
      | succ k =>
        rw [cutF_cons] at hk
        have hdl := drop_len_lt a t n hl
        have h := ih (p + sd (a :: t)) ((a :: t).drop (sd (a :: t))) hdl k (by simpa using hk)
        have hp : plK (k + 1) (a :: t) = sd (a :: t) + plK k ((a :: t).drop (sd (a :: t))) := rfl
        rw [hp]
        generalize plK k ((a :: t).drop (sd (a :: t))) = m at *
        refine ⟨?_, ?_⟩
        · have hdt := dec_take (a :: t) (sd (a :: t) + m) (by simp) (by show sd (a :: t) ≤ _; omega)
          have hsd : sd ((a :: t).take (sd (a :: t) + m)) = sd (a :: t) := by unfold sd at *; rw [hdt]
          have htk : ∃ u, (a :: t).take (sd (a :: t) + m) = a :: u := by
            obtain ⟨s', hs'⟩ : ∃ s', sd (a :: t) + m = s' + 1 := ⟨sd (a :: t) + m - 1, by omega⟩
            exact ⟨t.take s', by rw [hs', List.take_succ_cons]⟩
          obtain ⟨u, hu⟩ := htk
          have hdr : (a :: u).drop (sd (a :: t)) = ((a :: t).drop (sd (a :: t))).take m := by rw [← hu, List.drop_take]; congr 1; omega
          rw [hu] at hdt hsd ⊢
          rw [cutF_cons, cutF_cons, hsd, hdt, hdr]
          simp only [runesOf, List.map_cons, List.take_succ_cons]
          congr 1
          exact h.1
        · rw [← List.drop_drop]
          rw [cutF_cons n p a t]
          simp only [runesOf, List.map_cons, List.drop_succ_cons]
          have e : cutF (n + 1) p (((a :: t).drop (sd (a :: t))).drop m) = cutF n p (((a :: t).drop (sd (a :: t))).drop m) := cutF_more _ _ _ _ (by rw [List.length_drop]; omega) (by rw [List.length_drop]; omega)
          rw [e]
          have := h.2
          rw [cutF_runes n _ p] at this
          exact this
end Go.Proofs.YtjglehklfdhgaaaDoor
