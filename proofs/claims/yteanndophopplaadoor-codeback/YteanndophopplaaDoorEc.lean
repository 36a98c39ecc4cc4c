/- HELPERS: what is spoilt is no program. -/
import Derived.Test.YteanndophopplaaDoorEb
namespace Go.Proofs.YteanndophopplaaDoor
open Go.RowKit
set_option linter.unusedVariables false
set_option linter.unusedSimpArgs false
theorem xor_cancel {a b p : Nat} (h : a ^^^ p = b ^^^ p) : a = b := by
  have := congrArg (· ^^^ p) h
  simpa [Nat.xor_assoc] using this
theorem crcBit_inj {a b : Nat} (ha : a < 4294967296) (hb : b < 4294967296) (h : crcBit a = crcBit b) : a = b := by
  have key : ∀ {x y : Nat}, x < 4294967296 → y < 4294967296 → x / 2 = y / 2 ^^^ 3988292384 → False := by
    intro x y hx hy e
    have e2 : x / 2 ^^^ y / 2 = 3988292384 := by rw [e, Nat.xor_comm (y / 2), Nat.xor_assoc, Nat.xor_self, Nat.xor_zero]
    have := Nat.xor_lt_two_pow (n := 31) (show x / 2 < 2 ^ 31 by omega) (show y / 2 < 2 ^ 31 by omega)
    rw [e2] at this
    simp at this
  unfold crcBit at h
  split at h <;> split at h
  · have := xor_cancel h; omega
  · exact (key hb ha h.symm).elim
  · exact (key ha hb h).elim
  · omega
theorem crcBits_inj (k : Nat) {a b : Nat} (ha : a < 4294967296) (hb : b < 4294967296) (h : crcBits k a = crcBits k b) : a = b := by
  induction k with
  | zero => exact h
  | succ k ih => exact ih (crcBit_inj (crcBits_lt k ha) (crcBits_lt k hb) h)
theorem crcByte_inj {a b x y : Nat} (ha : a < 4294967296) (hb : b < 4294967296) (hx : x < 256) (hy : y < 256) (h : crcByte a x = crcByte b y) : a ^^^ x = b ^^^ y :=
  crcBits_inj 8 (Nat.xor_lt_two_pow (n := 32) ha (by omega)) (Nat.xor_lt_two_pow (n := 32) hb (by omega)) h
theorem crcFold_inj : ∀ (l : List Nat) {a b : Nat}, a < 4294967296 → b < 4294967296 → (∀ x ∈ l, x < 256) → l.foldl crcByte a = l.foldl crcByte b → a = b := by
  intro l
  induction l with
  | nil => intro a b _ _ _ h; exact h
  | cons x l ih =>
    intro a b ha hb hl h
    have hx := hl x (by simp)
    exact xor_cancel (crcByte_inj ha hb hx hx (ih (crcByte_lt ha hx) (crcByte_lt hb hx) (fun y hy => hl y (by simp [hy])) h))
theorem crcRow_turned {l u : List Nat} {x y : Nat} (hl : ∀ z ∈ l, z < 256) (hu : ∀ z ∈ u, z < 256) (hx : x < 256) (hy : y < 256) (h : crcRow (l ++ x :: u) = crcRow (l ++ y :: u)) : x = y := by
  unfold crcRow at h
  rw [List.foldl_append, List.foldl_append, List.foldl_cons, List.foldl_cons] at h
  have hq : l.foldl crcByte 4294967295 < 4294967296 := crcRow_lt l hl
  have e := crcByte_inj hq hq hx hy (crcFold_inj u (crcByte_lt hq hx) (crcByte_lt hq hy) hu h)
  have := congrArg (l.foldl crcByte 4294967295 ^^^ ·) e
  simpa [← Nat.xor_assoc] using this
theorem sum4_inj {a b : Nat} (ha : a < 4294967296) (hb : b < 4294967296) (h : sum4 a = sum4 b) : a = b := by
  simp [sum4] at h
  omega
theorem crcSum_lt {l : List Nat} (hl : ∀ z ∈ l, z < 256) : crcSum l < 4294967296 := Nat.xor_lt_two_pow (n := 32) (crcRow_lt l hl) (by decide)
theorem core_lt {J : List In} {s k : Int} (h : mayB J s k = true) : ∀ x ∈ coreB J s k, x < 256 := by
  obtain ⟨_, _, _, _, _, h6⟩ := may_fit h
  intro x hx
  simp only [coreB, bodyB, List.mem_append, List.mem_flatMap] at hx
  rcases hx with hx | hx | hx | hx | ⟨I, hI, hx⟩
  · simp at hx; omega
  · exact put7_lt _ x hx
  · exact put7_lt _ x hx
  · exact put7_lt _ x hx
  · rcases List.mem_cons.1 hx with rfl | hx
    · have hf := h6 I hI
      cases hf <;> simp
    · obtain ⟨n, _, hn⟩ := List.mem_flatMap.1 hx
      exact put7_lt _ x hn
theorem full_lt {J : List In} {s k : Int} (h : mayB J s k = true) : ∀ x ∈ fullB J s k, x < 256 := by
  intro x hx
  rcases List.mem_append.1 hx with hx | hx
  · exact core_lt h x hx
  · simp [sum4] at hx; omega
/-- no program's bytes are the beginning of another one's -/
theorem full_prefix {J J' : List In} {s k s' k' : Int} {v : List Nat} (h : mayB J s k = true) (h' : mayB J' s' k' = true) (e : fullB J s k = fullB J' s' k' ++ v) : v = [] := by
  have e1 : bodyB J s k ++ sum4 (crcSum (coreB J s k)) = bodyB J' s' k' ++ (sum4 (crcSum (coreB J' s' k')) ++ v) := by
    have := congrArg (List.drop 4) e
    simpa [fullB, coreB, List.append_assoc] using this
  have a := body_full (f := 5) (by omega) (L := 5000) (M := 20000) (by omega) (by omega) h (sum4 (crcSum (coreB J s k)))
  have b := body_full (f := 5) (by omega) (L := 5000) (M := 20000) (by omega) (by omega) h' (sum4 (crcSum (coreB J' s' k')) ++ v)
  rw [← e1, a] at b
  simp at b
  have := congrArg List.length b.2
  simp [sum4] at this
  exact this
theorem spoilt_turn {f : Nat} (hf : 3 ≤ f) {L M : Nat} (hL : 5000 ≤ L) (hM : 20000 ≤ M) {J : List In} {s k : Int} (h : mayB J s k = true) {i x : Nat} (hi : i < (fullB J s k).length) (hx : x < 256) (hne : (fullB J s k)[i] ≠ x) : loadP (byteC f hf) L M ((fullB J s k).set i x) = none := by
  cases hl : loadP (byteC f hf) L M ((fullB J s k).set i x) with
  | none => rfl
  | some p =>
    obtain ⟨J', s', k'⟩ := p
    obtain ⟨h', e⟩ := (loadP_iff hf hL hM _ J' s' k').1 hl
    exfalso
    have hlen := congrArg List.length e
    have c4 : ∀ J s k, (fullB J s k).length = (coreB J s k).length + 4 := fun J s k => by simp [fullB, sum4]
    rw [List.length_set, c4, c4] at hlen
    have hlen2 : (coreB J s k).length = (coreB J' s' k').length := by omega
    by_cases hc : i < (coreB J s k).length
    · unfold fullB at e
      rw [List.set_append_left _ _ hc] at e
      obtain ⟨e1, e2⟩ := List.append_inj e (by simp [hlen2])
      have e3 := sum4_inj (crcSum_lt (core_lt h)) (crcSum_lt (core_lt h')) e2
      have e4 : crcRow (coreB J s k) = crcRow (coreB J' s' k') := xor_cancel e3
      have hcl := core_lt h
      have hg : (fullB J s k)[i] = (coreB J s k)[i] := by simp only [fullB]; rw [List.getElem_append_left hc]
      rw [hg] at hne
      rw [← e1] at e4
      have p1 : coreB J s k = (coreB J s k).take i ++ (coreB J s k)[i] :: (coreB J s k).drop (i + 1) := by
        rw [← List.drop_eq_getElem_cons hc, List.take_append_drop]
      have p2 : (coreB J s k).set i x = (coreB J s k).take i ++ x :: (coreB J s k).drop (i + 1) := List.set_eq_take_append_cons_drop .. ▸ (by rw [if_pos hc])
      rw [p2] at e4
      generalize hz : (coreB J s k)[i] = z at *
      have hzl : z < 256 := by rw [← hz]; exact hcl _ (List.getElem_mem hc)
      have q1 : ∀ y ∈ (coreB J s k).take i, y < 256 := fun y hy => hcl y (List.mem_of_mem_take hy)
      have q2 : ∀ y ∈ (coreB J s k).drop (i + 1), y < 256 := fun y hy => hcl y (List.mem_of_mem_drop hy)
      generalize (coreB J s k).take i = A at *
      generalize (coreB J s k).drop (i + 1) = B at *
      rw [p1] at e4
      exact hne (crcRow_turned q1 q2 hzl hx e4)
    · unfold fullB at e
      rw [List.set_append_right _ _ (by omega)] at e
      obtain ⟨e1, e2⟩ := List.append_inj e hlen2
      rw [← e1] at e2
      have hg : (fullB J s k)[i] = (sum4 (crcSum (coreB J s k)))[i - (coreB J s k).length]'(by rw [c4] at hi; simp [sum4]; omega) := by
        simp only [fullB]; rw [List.getElem_append_right (by omega)]
      rw [hg] at hne
      have := congrArg (fun l => l[i - (coreB J s k).length]?) e2
      rw [List.getElem?_set_self (by rw [c4] at hi; simp [sum4]; omega), List.getElem?_eq_getElem (by rw [c4] at hi; simp [sum4]; omega)] at this
      exact hne (Option.some.inj this).symm
theorem spoilt_cut {f : Nat} (hf : 3 ≤ f) {L M : Nat} (hL : 5000 ≤ L) (hM : 20000 ≤ M) {J : List In} {s k : Int} (h : mayB J s k = true) {c : Nat} (hc : c < (fullB J s k).length) : loadP (byteC f hf) L M ((fullB J s k).take c) = none := by
  cases hl : loadP (byteC f hf) L M ((fullB J s k).take c) with
  | none => rfl
  | some p =>
    obtain ⟨J', s', k'⟩ := p
    obtain ⟨h', e⟩ := (loadP_iff hf hL hM _ J' s' k').1 hl
    have := full_prefix (v := (fullB J s k).drop c) h h' (by rw [← e, List.take_append_drop])
    have := congrArg List.length this
    simp at this
    omega
theorem spoilt_more {f : Nat} (hf : 3 ≤ f) {L M : Nat} (hL : 5000 ≤ L) (hM : 20000 ≤ M) {J : List In} {s k : Int} (h : mayB J s k = true) {v : List Nat} (hv : v ≠ []) : loadP (byteC f hf) L M (fullB J s k ++ v) = none := by
  cases hl : loadP (byteC f hf) L M (fullB J s k ++ v) with
  | none => rfl
  | some p =>
    obtain ⟨J', s', k'⟩ := p
    obtain ⟨h', e⟩ := (loadP_iff hf hL hM _ J' s' k').1 hl
    exact (hv (full_prefix h' h e.symm)).elim
end Go.Proofs.YteanndophopplaaDoor
