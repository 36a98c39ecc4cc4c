/- HELPERS: what is written is read again, as plain mathematics. -/
import Derived.Test.YtjglehklfdhgaaaDoorEncode
import Derived.Laws.BytesArg
namespace Go.Proofs.YtjglehklfdhgaaaDoor
open Go.RowKit Go.Mx
set_option linter.unusedVariables false
set_option linter.unusedSimpArgs false
theorem dec_ok (a : Int) (t : List Int) (s v : Int) (hs : sz a = s) (h1 : 1 ≤ s) (h2 : s ≤ (t.length : Int) + 1) (hc : (t.take (s.toNat - 1)).all cont = true) (hv : acc (a % mk s) (t.take (s.toNat - 1)) = v) (hl : ls s ≤ v) (hd : dom v = true) : dec (a :: t) = (v, s) := by
  subst hs
  have h := dec_end a t h1 h2 hc
  have hv' : val a t = v := hv
  rw [hv', if_pos ⟨hl, hd⟩] at h
  exact h
theorem sz2 {a : Int} (h0 : 192 ≤ a) (h1 : a < 224) : sz a = 2 := by unfold sz; rw [if_neg (by omega), if_neg (by omega), if_pos h1]
theorem sz3 {a : Int} (h0 : 224 ≤ a) (h1 : a < 240) : sz a = 3 := by unfold sz; rw [if_neg (by omega), if_neg (by omega), if_neg (by omega), if_pos h1]
theorem sz4 {a : Int} (h0 : 240 ≤ a) (h1 : a < 248) : sz a = 4 := by unfold sz; rw [if_neg (by omega), if_neg (by omega), if_neg (by omega), if_neg (by omega), if_pos h1]
theorem sz1 {a : Int} (h1 : a < 128) : sz a = 1 := by unfold sz; rw [if_pos h1]
theorem ls2 : ls 2 = 128 := by decide
theorem ls3 : ls 3 = 2048 := by decide
theorem ls4 : ls 4 = 65536 := by decide
theorem acc1 (a b : Int) : acc a [b] = a * 64 + b % 64 := rfl
theorem acc2 (a b c : Int) : acc a [b, c] = (a * 64 + b % 64) * 64 + c % 64 := rfl
theorem acc3 (a b c d : Int) : acc a [b, c, d] = ((a * 64 + b % 64) * 64 + c % 64) * 64 + d % 64 := rfl
theorem mk2 : mk 2 = 32 := by decide
theorem mk3 : mk 3 = 16 := by decide
theorem mk4 : mk 4 = 8 := by decide
theorem dec_two (a b : Int) (t : List Int) (r : Int) (hs : sz a = 2) (hb : cont b = true) (hv : a % 32 * 64 + b % 64 = r) (hl : 128 ≤ r) (hd : dom r = true) : dec (a :: b :: t) = (r, 2) :=
  dec_ok a (b :: t) 2 r hs (by decide) (by simp only [List.length_cons]; omega) (by simp [hb]) (by rw [mk2]; exact hv) (by rw [ls2]; exact hl) hd
theorem dec_three (a b c : Int) (t : List Int) (r : Int) (hs : sz a = 3) (hb : cont b = true) (hc : cont c = true) (hv : (a % 16 * 64 + b % 64) * 64 + c % 64 = r) (hl : 2048 ≤ r) (hd : dom r = true) : dec (a :: b :: c :: t) = (r, 3) :=
  dec_ok a (b :: c :: t) 3 r hs (by decide) (by simp only [List.length_cons]; omega) (by simp [hb, hc]) (by rw [mk3]; exact hv) (by rw [ls3]; exact hl) hd
theorem dec_four (a b c d : Int) (t : List Int) (r : Int) (hs : sz a = 4) (hb : cont b = true) (hc : cont c = true) (he : cont d = true) (hv : ((a % 8 * 64 + b % 64) * 64 + c % 64) * 64 + d % 64 = r) (hl : 65536 ≤ r) (hd : dom r = true) : dec (a :: b :: c :: d :: t) = (r, 4) :=
  dec_ok a (b :: c :: d :: t) 4 r hs (by decide) (by simp only [List.length_cons]; omega) (by simp [hb, hc, he]) (by rw [mk4]; exact hv) (by rw [ls4]; exact hl) hd
theorem cont_of {b : Int} (h0 : 128 ≤ b) (h1 : b < 192) : cont b = true := by simp [cont]; omega
theorem dec_enc (r : Int) (t : List Int) (hd : dom r = true) : dec (enc r ++ t) = (r, ((enc r).length : Int)) := by
  obtain ⟨h0, h1⟩ := dom_bd hd
  by_cases g1 : r < 128
  · have he : enc r = [r] := by unfold enc; rw [if_pos g1]
    rw [he]
    have h := dec_ok r t 1 r (sz1 g1) (by decide) (by omega) rfl (by show r % 128 = r; omega) (by show (0 : Int) ≤ r; omega) hd
    simpa using h
  · by_cases g2 : r < 2048
    · have he : enc r = [192 + r / 64, 128 + r % 64] := by unfold enc; rw [if_neg g1, if_pos g2]
      rw [he]
      have h := dec_two (192 + r / 64) (128 + r % 64) t r (sz2 (by omega) (by omega)) (cont_of (by omega) (by omega)) (by omega) (by omega) hd
      simpa using h
    · by_cases g3 : r < 65536
      · have he : enc r = [224 + r / 4096, 128 + r / 64 % 64, 128 + r % 64] := by unfold enc; rw [if_neg g1, if_neg g2, if_pos g3]
        rw [he]
        have h := dec_three (224 + r / 4096) (128 + r / 64 % 64) (128 + r % 64) t r (sz3 (by omega) (by omega)) (cont_of (by omega) (by omega)) (cont_of (by omega) (by omega)) (by omega) (by omega) hd
        simpa using h
      · have he : enc r = [240 + r / 262144, 128 + r / 4096 % 64, 128 + r / 64 % 64, 128 + r % 64] := by unfold enc; rw [if_neg g1, if_neg g2, if_neg g3]
        rw [he]
        have h := dec_four (240 + r / 262144) (128 + r / 4096 % 64) (128 + r / 64 % 64) (128 + r % 64) t r (sz4 (by omega) (by omega)) (cont_of (by omega) (by omega)) (cont_of (by omega) (by omega)) (cont_of (by omega) (by omega)) (by omega) (by omega) hd
        simpa using h
theorem enc_bytes (r : Int) (h0 : 0 ≤ r) (h1 : r < 1114112) : ∀ x ∈ enc r, 0 ≤ x ∧ x < 256 := by
  intro x hx
  unfold enc at hx
  split at hx
  · simp at hx; omega
  · split at hx
    · simp at hx; omega
    · split at hx
      · simp at hx; omega
      · simp at hx; omega
theorem encL_bytes (l : List Int) (h : l.all dom = true) : ByteL (encL l) := by
  intro k
  by_cases hk : k < (encL l).length
  · have hm : (encL l).getD k 0 ∈ encL l := by
      have e : (encL l).getD k 0 = (encL l)[k] := by simp [hk]
      rw [e]; exact List.getElem_mem hk
    simp only [encL, List.mem_flatMap] at hm
    obtain ⟨r, hr, hx⟩ := hm
    have hd := dom_bd ((List.all_eq_true.1 h) r hr)
    exact enc_bytes r hd.1 hd.2 _ hx
  · have : (encL l)[k]? = none := List.getElem?_eq_none (by omega)
    simp [List.getD_eq_getElem?_getD, this]
def placesFrom : Nat → List Int → List (Int × Nat)
  | _, [] => []
  | p, r :: t => (r, p) :: placesFrom (p + (enc r).length) t
theorem encL_cons (r : Int) (t : List Int) : encL (r :: t) = enc r ++ encL t := by simp [encL]
theorem encL_append (a b : List Int) : encL (a ++ b) = encL a ++ encL b := by simp [encL]
theorem cutF_enc (l : List Int) : ∀ (n p : Nat), l.all dom = true → (encL l).length ≤ n → cutF n p (encL l) = placesFrom p l := by
  induction l with
  | nil => intro n p _ _; cases n <;> rfl
  | cons r t ih =>
    intro n p ha hn
    have hd : dom r = true := by simpa using (List.all_eq_true.1 ha) r (by simp)
    have hat : t.all dom = true := by rw [List.all_cons, Bool.and_eq_true] at ha; exact ha.2
    rw [encL_cons] at hn ⊢
    have hdec := dec_enc r (encL t) hd
    have hl := enc_len r
    rw [List.length_append] at hn
    cases n with
    | zero => omega
    | succ n =>
      cases hE : enc r with
      | nil => rw [hE] at hl; simp at hl
      | cons a u =>
        rw [hE] at hdec hn hl
        simp only [List.cons_append] at hdec ⊢
        rw [cutF, hdec]
        simp only [Int.toNat_natCast]
        have hdr : (a :: (u ++ encL t)).drop (a :: u).length = encL t := by
          rw [← List.cons_append, List.drop_left]
        rw [hdr, ih n _ hat (by simp only [List.length_cons] at hn; omega)]
        simp only [placesFrom, hE]
theorem cut_enc (l : List Int) (h : l.all dom = true) : cut (encL l) = placesFrom 0 l := cutF_enc l _ 0 h (Nat.le_refl _)
theorem pf_len (l : List Int) : ∀ p, (placesFrom p l).length = l.length := by
  induction l with
  | nil => intro p; rfl
  | cons r t ih => intro p; simp [placesFrom, ih]
theorem pf_runes (l : List Int) : ∀ p, runesOf (placesFrom p l) = l := by
  induction l with
  | nil => intro p; rfl
  | cons r t ih => intro p; simp [placesFrom, runesOf] at *; exact ih _
theorem pf_places (l : List Int) : ∀ p i, i < l.length → (placesOf (placesFrom p l))[i]? = some ((p + (encL (l.take i)).length : Nat) : Int) := by
  induction l with
  | nil => intro p i h; simp at h
  | cons r t ih =>
    intro p i h
    cases i with
    | zero => simp [placesFrom, placesOf, encL]
    | succ i =>
      have := ih (p + (enc r).length) i (by simpa using h)
      simp only [placesFrom, placesOf, List.map_cons, List.getElem?_cons_succ] at *
      rw [this, List.take_succ_cons, encL_cons, List.length_append, Nat.add_assoc]
/-- the places that Cut tells of what Encode made -/
theorem places_at (l : List Int) (h : l.all dom = true) (n : Nat) (hn : n = (encL l).length) (i : Nat) (hi : i ≤ l.length) : (placesOf (cut (encL l)) ++ [(n : Int)])[i]? = some (((encL (l.take i)).length : Nat) : Int) := by
  rw [cut_enc l h]
  have hl : (placesOf (placesFrom 0 l)).length = l.length := by rw [placesOf, List.length_map, pf_len]
  by_cases hlt : i < l.length
  · rw [List.getElem?_append_left (by omega), pf_places l 0 i hlt, Nat.zero_add]
  · obtain rfl : i = l.length := by omega
    rw [List.getElem?_append_right (by omega), hl, Nat.sub_self, List.take_length, hn]
    rfl
theorem drop_enc (l : List Int) (i : Nat) (hi : i < l.length) : (encL l).drop (encL (l.take i)).length = enc (l.getD i 0) ++ encL (l.drop (i + 1)) := by
  have h : encL l = encL (l.take i) ++ encL (l.drop i) := by rw [← encL_append, List.take_append_drop]
  rw [h, List.drop_left, getD_drop' l i hi, encL_cons]
theorem len_step (l : List Int) (i : Nat) (hi : i < l.length) : (encL (l.take (i + 1))).length = (encL (l.take i)).length + (enc (l.getD i 0)).length := by
  rw [take_snocI l i hi, encL_append, List.length_append]; simp [encL]
theorem len_le (l : List Int) (i : Nat) : (encL (l.take i)).length ≤ (encL l).length := by
  have h : encL l = encL (l.take i) ++ encL (l.drop i) := by rw [← encL_append, List.take_append_drop]
  rw [h, List.length_append]; omega
end Go.Proofs.YtjglehklfdhgaaaDoor
