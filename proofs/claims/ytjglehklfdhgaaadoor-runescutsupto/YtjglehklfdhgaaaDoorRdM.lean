/- HELPERS: the document's Decode: plain mathematics. -/
import Derived.Test.YtjglehklfdhgaaaDoorCutC
import Derived.Test.YtjglehklfdhgaaaDoorEnW
namespace Go.Proofs.YtjglehklfdhgaaaDoor
open Go.RowKit Go.Mx
set_option linter.unusedVariables false
set_option linter.unusedSimpArgs false
theorem u8_ofNat_inj {a b : Int} (h0 : 0 ≤ a ∧ a < 256) (h1 : 0 ≤ b ∧ b < 256) (h : UInt8.ofNat a.toNat = UInt8.ofNat b.toNat) : a = b := by
  have := congrArg UInt8.toNat h
  simp at this
  omega
theorem str_inj : ∀ (x y : List Int), ByteL x → ByteL y → strOfNums x = strOfNums y → x = y := by
  intro x y hx hy h
  have h1 : x.map (fun n => UInt8.ofNat n.toNat) = y.map (fun n => UInt8.ofNat n.toNat) := by
    rw [← strOfNums_data, ← strOfNums_data, h]
  clear h
  induction x generalizing y with
  | nil => cases y with
    | nil => rfl
    | cons b u => simp at h1
  | cons a t ih => cases y with
    | nil => simp at h1
    | cons b u =>
      simp only [List.map_cons, List.cons.injEq] at h1
      rw [u8_ofNat_inj hx.head hy.head h1.1, ih u hx.tail hy.tail h1.2]
/-- the number that the first n bytes make -/
def refv (l : List Int) (n : Nat) : Int :=
  if n = 1 then l.getD 0 0 else if n = 2 then l.getD 0 0 % 32 * 64 + l.getD 1 0 % 64 else if n = 3 then l.getD 0 0 % 16 * 4096 + l.getD 1 0 % 64 * 64 + l.getD 2 0 % 64
  else l.getD 0 0 % 8 * 262144 + l.getD 1 0 % 64 * 4096 + l.getD 2 0 % 64 * 64 + l.getD 3 0 % 64
def hit (l : List Int) (n : Nat) : Prop := dom (refv l n) = true ∧ enc (refv l n) = l.take n
theorem dec_hit {l : List Int} {n : Nat} (h1 : n ≤ l.length) (h : hit l n) : dec l = (refv l n, (n : Int)) := by
  have e : l = enc (refv l n) ++ l.drop n := by rw [h.2, List.take_append_drop]
  have hl : (enc (refv l n)).length = n := by rw [h.2, List.length_take]; omega
  have := dec_enc (refv l n) (l.drop n) h.1
  rw [← e, hl] at this
  exact this
theorem refv_val (a : Int) (t : List Int) (h0 : 0 ≤ a) (h : okB a t = true) : refv (a :: t) (sz a).toNat = val a t := by
  obtain ⟨h1, h2, h3, h4, h5⟩ := okB_parts h
  clear h3 h4 h5
  rcases sz_cases h0 h1 with ⟨hs, hb⟩ | ⟨hs, hb, hc⟩ | ⟨hs, hb, hc⟩ | ⟨hs, hb, hc⟩
  · unfold val refv
    rw [hs]
    simp [acc, mk]
    omega
  · unfold val refv
    rw [hs] at h2 ⊢
    cases t with
    | nil => simp at h2
    | cons b t => simp [acc, mk]
  · unfold val refv
    rw [hs] at h2 ⊢
    cases t with
    | nil => simp at h2
    | cons b t => cases t with
      | nil => simp at h2
      | cons c t => simp [acc, mk]; omega
  · unfold val refv
    rw [hs] at h2 ⊢
    cases t with
    | nil => simp at h2
    | cons b t => cases t with
      | nil => simp at h2
      | cons c t => cases t with
        | nil => simp at h2
        | cons d t => simp [acc, mk]; omega
theorem dec_none {l : List Int} (hne : l ≠ []) (hL : ByteL l) (h : ∀ n, 1 ≤ n → n ≤ 4 → n ≤ l.length → ¬ hit l n) : dec l = (65533, 1) := by
  cases l with
  | nil => exact absurd rfl hne
  | cons a t =>
    show decAt a t = _
    unfold decAt
    by_cases hk : okB a t = true
    · exfalso
      obtain ⟨h1, h2, h3, h4, h5⟩ := okB_parts hk
      have hs := sz_le a
      have hr := refv_val a t hL.head.1 hk
      refine h (sz a).toNat (by omega) (by omega) (by simp; omega) ⟨by rw [hr]; exact h5, ?_⟩
      rw [hr]
      exact enc_val a t hk hL.head.1
    · rw [if_neg hk]
theorem refv_bd (l : List Int) (hL : ByteL l) (n : Nat) : 0 ≤ refv l n ∧ refv l n < 2097152 := by
  have h0 := hL 0
  have h1 := hL 1
  have h2 := hL 2
  have h3 := hL 3
  unfold refv
  repeat' split
  all_goals omega
theorem ByteL.take {l : List Int} (h : ByteL l) (n : Nat) : ByteL (l.take n) := fun k => by
  by_cases hk : k < n
  · have := h k
    simpa [List.getD_eq_getElem?_getD, List.getElem?_take, hk] using this
  · simp [List.getD_eq_getElem?_getD, List.getElem?_take, hk]
theorem enc_byteL (r : Int) (hd : dom r = true) : ByteL (enc r) := by
  have := encL_bytes [r] (by simp [hd])
  simpa [encL] using this
end Go.Proofs.YtjglehklfdhgaaaDoor
