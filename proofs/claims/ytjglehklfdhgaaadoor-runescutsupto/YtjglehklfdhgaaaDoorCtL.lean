/- HELPERS: what the walk of RunesCuts uses. -/
import Derived.Test.YtjglehklfdhgaaaDoorLt
namespace Go.Proofs.YtjglehklfdhgaaaDoor
open Go.RowKit Go.Mx
set_option linter.unusedVariables false
set_option linter.unusedSimpArgs false
/-- two rows that Cut answers for l, laid between B and H -/
structure Two (B H : Nat) (va vb : Value) (ma mb : Nat) (l : List Int) (w : World) : Prop where
  oa : w.ownsRow B 3 1 va ma (I64 (runesOf (cut l)))
  ob : w.ownsRow B 3 1 vb mb (I64 (placesOf (cut l) ++ [(l.length : Int)]))
  ha : ∀ b, va.ownBlock = some b → b < H
  hb : ∀ b, vb.ownBlock = some b → b < H
  dj : ∀ b, va.ownBlock = some b → vb.ownBlock ≠ some b
  la : ma = (cut l).length
  lb : mb = (cut l).length + 1
  le : (cut l).length ≤ l.length
theorem Two.kept {B H : Nat} {va vb : Value} {ma mb : Nat} {l : List Int} {w w' : World} (h : Two B H va vb ma mb l w) (hk : ∀ b, b < w.heap.size → B ≤ b → w'.heap[b]? = w.heap[b]?) : Two B H va vb ma mb l w' :=
  ⟨own_kept h.oa (fun b hb' => hk b (h.oa.lt b hb').2 (h.oa.lt b hb').1), own_kept h.ob (fun b hb' => hk b (h.ob.lt b hb').2 (h.ob.lt b hb').1), h.ha, h.hb, h.dj, h.la, h.lb, h.le⟩
theorem Two.next {B H : Nat} {va vb : Value} {ma mb : Nat} {l : List Int} {w w' : World} (h : Two B H va vb ma mb l w) (hb : Below w.heap.size w w') : Two B H va vb ma mb l w' := h.kept (fun b hb' _ => hb.block b hb')
theorem Two.intsA {B H : Nat} {va vb : Value} {ma mb : Nat} {l : List Int} {w : World} (h : Two B H va vb ma mb l w) : IntsC w va (runesOf (cut l)) := ints_own (by rw [h.la]; simp [runesOf]) h.oa
theorem Two.intsB {B H : Nat} {va vb : Value} {ma mb : Nat} {l : List Int} {w : World} (h : Two B H va vb ma mb l w) : IntsC w vb (placesOf (cut l) ++ [(l.length : Int)]) := ints_own (by rw [h.lb]; simp [placesOf]) h.ob
/-- the document's answers -/
structure Doc (B : Nat) (va vb : Value) (l : List Int) (w : World) : Prop where
  oa : w.ownsRow B 3 1 va (cut l).length (I64 (runesOf (cut l)))
  ob : w.ownsRow B 3 1 vb ((cut l).length + 1) (I64 (placesOf (cut l) ++ [(l.length : Int)]))
theorem Doc.next {B : Nat} {va vb : Value} {l : List Int} {w w' : World} (h : Doc B va vb l w) (hb : Below w.heap.size w w') : Doc B va vb l w' :=
  ⟨own_kept h.oa (fun b hb' => hb.block b (h.oa.lt b hb').2), own_kept h.ob (fun b hb' => hb.block b (h.ob.lt b hb').2)⟩
theorem Doc.intsA {B : Nat} {va vb : Value} {l : List Int} {w : World} (h : Doc B va vb l w) : IntsC w va (runesOf (cut l)) := ints_own (by simp [runesOf]) h.oa
theorem Doc.intsB {B : Nat} {va vb : Value} {l : List Int} {w : World} (h : Doc B va vb l w) : IntsC w vb (placesOf (cut l) ++ [(l.length : Int)]) := ints_own (by simp [placesOf]) h.ob
theorem cut_two (l : List Int) (ad : Option Addr) (n cap : Nat) (w : World) (hn : n = l.length) (hlen : n ≤ 100000000) (hT : Tabs w) (h2 : 2 ≤ w.heap.size) (hl : BytesAt w.heap.size w (.slice ad n cap) l) (hL : ByteL l) :
    Calls Tryd.prog 13 #[.slice ad n cap] w fun e w' => ∃ ada ma capa adb mb capb, e = .returned (.tuple #[.slice ada ma capa, .slice adb mb capb]) ∧ Two w.heap.size w'.heap.size (.slice ada ma capa) (.slice adb mb capb) ma mb l w' ∧ Below w.heap.size w w' := by
  refine (cut13 l ad n cap w hn (by omega) hT h2 hl hL).mono fun e w' h => ?_
  obtain ⟨g2, hg2, he, o1, o2, hb⟩ := h
  rw [hn] at o2
  refine ⟨_, _, _, _, _, _, he, ⟨o1, by rw [hn]; exact o2, fun b hb' => (o1.lt b hb').2, fun b hb' => (o2.lt b (by simpa [Value.ownBlock] using hb')).2, fun b h1 h2 => ?_, rfl, rfl, cutF_len l _ _⟩, hb⟩
  simp only [Value.ownBlock, Option.some.injEq] at h1 h2
  omega
theorem doc_two (l : List Int) (ad : Option Addr) (n cap : Nat) (w : World) (hn : n = l.length) (hlen : n ≤ 100000000) (hl : BytesAt w.heap.size w (.slice ad n cap) l) (hL : ByteL l) :
    Calls Tryd.prog 16 #[.slice ad n cap] w fun e w' => ∃ va vb, e = .returned (.tuple #[va, vb]) ∧ Doc w.heap.size va vb l w' ∧ Below w.heap.size w w' := by
  refine (rcut16 l ad n cap w hn hlen hl hL).mono fun e w' h => ?_
  obtain ⟨v1, v2, he, o1, o2, hb⟩ := h
  exact ⟨v1, v2, he, ⟨o1, o2⟩, hb⟩
theorem dec12 (l : List Int) (ad : Option Addr) (n cap : Nat) (w : World) (hn : n = l.length) (hlen : n ≤ 100000000) (hT : Tabs w) (hl : BytesAt w.heap.size w (.slice ad n cap) l) (hL : ByteL l) :
    Calls Tryd.prog 12 #[.slice ad n cap] w fun e w' => e = .returned (.tuple #[.int .i64 (dec l).1, .int .i64 (dec l).2]) ∧ Below w.heap.size w w' := by
  obtain ⟨ad', cap', he, h1, h3, h | ⟨b, off, rfl, hbN, h0⟩⟩ := hl
  · have hl0 : l = [] := List.eq_nil_of_length_eq_zero h
    subst hl0
    subst hn
    exact (decode_none ad cap w).mono fun e w' h => ⟨h.1, by rw [h.2]; exact Below.refl _ _⟩
  · simp only [Value.slice.injEq] at he
    obtain ⟨rfl, -, rfl⟩ := he
    by_cases hz : l = []
    · subst hz
      subst hn
      exact (decode_none _ cap w).mono fun e w' h => ⟨h.1, by rw [h.2]; exact Below.refl _ _⟩
    · exact (decode_any l hz b off cap n w hn (by omega) (by omega) h3 hT h0 hL).mono fun e w' h => ⟨h.1, by obtain ⟨q, rfl⟩ := h.2; exact below_drewN (Below.refl _ _) q⟩
theorem rdec_none (ad : Option Addr) (cap : Nat) (w : World) : Calls Tryd.prog 15 #[.slice ad 0 cap] w fun e w' => e = .returned (.tuple #[.int .i64 0, .int .i64 0]) ∧ w' = w := by
  go_enter Tryd.func15, Tryd.ntmps15
  go_wp2
  all_goals go_ret2
  all_goals exact ⟨rfl, rfl⟩
theorem rdec15 (l : List Int) (ad : Option Addr) (n cap : Nat) (w : World) (hn : n = l.length) (hlen : n ≤ 100000000) (hl : BytesAt w.heap.size w (.slice ad n cap) l) (hL : ByteL l) :
    Calls Tryd.prog 15 #[.slice ad n cap] w fun e w' => e = .returned (.tuple #[.int .i64 (dec l).1, .int .i64 (dec l).2]) ∧ Below w.heap.size w w' := by
  obtain ⟨ad', cap', he, h1, h3, h | ⟨b, off, rfl, hbN, h0⟩⟩ := hl
  · have hl0 : l = [] := List.eq_nil_of_length_eq_zero h
    subst hl0
    subst hn
    exact (rdec_none ad cap w).mono fun e w' h => ⟨h.1, by rw [h.2]; exact Below.refl _ _⟩
  · simp only [Value.slice.injEq] at he
    obtain ⟨rfl, -, rfl⟩ := he
    by_cases hz : l = []
    · subst hz
      subst hn
      exact (rdec_none _ cap w).mono fun e w' h => ⟨h.1, by rw [h.2]; exact Below.refl _ _⟩
    · have hlp : 0 < l.length := List.length_pos_iff.2 hz
      exact rdec_any l hz b off cap n w hn (by omega) (by omega) (by omega) h3 h0 hL hbN
def alt {α : Type} (a b : Nat → α) (j : Nat) : α := if j % 2 = 0 then a (j / 2) else b (j / 2)
/-- ownInts of four pairs of rows -/
theorem own_eight (base : Nat) (lo hi : Nat → Nat) (va vb : Nat → Value) (la lb : Nat → Nat) (w : World) (hO : ∀ p, p < 4 → (∃ X, w.ownsRow base 3 1 (va p) (la p) X) ∧ ∃ X, w.ownsRow base 3 1 (vb p) (lb p) X)
    (hlo : ∀ p, p < 4 → ∀ b, (va p).ownBlock = some b ∨ (vb p).ownBlock = some b → base ≤ b ∧ lo p ≤ b ∧ b < hi p ∧ b < w.heap.size) (hsep : ∀ p q, p < q → q < 4 → hi p ≤ lo q) (dj : ∀ p, p < 4 → ∀ b, (va p).ownBlock = some b → (vb p).ownBlock ≠ some b) (hbw : base ≤ w.heap.size)
    (hl : ∀ p, p < 4 → la p ≤ 100000000 ∧ lb p ≤ 100000000) :
    Calls Tryd.prog 18 #[.slice (some ⟨w.heap.size, 0, none⟩) 8 8] (w.alloc (.cells #[va 0, vb 0, va 1, vb 1, va 2, vb 2, va 3, vb 3] 29)) fun e w' => e = .returned (.bool true) ∧ Below base (w.alloc (.cells #[va 0, vb 0, va 1, vb 1, va 2, vb 2, va 3, vb 3] 29)) w' := by
  have hsz : (w.alloc (.cells #[va 0, vb 0, va 1, vb 1, va 2, vb 2, va 3, vb 3] 29)).heap.size = w.heap.size + 1 := by simp
  have alo : ∀ j, j < 8 → ∀ b, (alt va vb j).ownBlock = some b → base ≤ b ∧ lo (j / 2) ≤ b ∧ b < hi (j / 2) ∧ b < w.heap.size := by
    intro j hj b hb
    unfold alt at hb
    split at hb
    · exact hlo _ (by omega) b (.inl hb)
    · exact hlo _ (by omega) b (.inr hb)
  have R : Rws 3 29 base w.heap.size 8 (alt va vb) (alt la lb) mk64 (w.alloc (.cells #[va 0, vb 0, va 1, vb 1, va 2, vb 2, va 3, vb 3] 29)) := by
    refine ⟨by omega, by omega, ?_, ?_, fun j hj b hb' => by have := alo j hj b hb'; omega, fun j => rfl⟩
    · intro i j hi' hj hij b hbi hbj
      have h1 := alo i hi' b hbi
      have h2 := alo j hj b hbj
      rcases Nat.lt_trichotomy (i / 2) (j / 2) with h | h | h
      · have := hsep _ _ h (by omega); omega
      · unfold alt at hbi hbj
        by_cases hi2 : i % 2 = 0
        · rw [if_pos hi2] at hbi
          rw [if_neg (by omega)] at hbj
          rw [h] at hbi
          exact dj _ (by omega) b hbi hbj
        · rw [if_neg hi2] at hbi
          rw [if_pos (by omega)] at hbj
          rw [h] at hbi
          exact dj _ (by omega) b hbj hbi
      · have := hsep _ _ h (by omega); omega
    · intro j hj e
      have := (alo j hj _ e).2.2.2
      omega
  refine own18 base w.heap.size 8 (alt va vb) (alt la lb) _ (by omega) R ?_ ?_ ?_
  · intro j hj
    unfold alt
    by_cases h : j % 2 = 0
    · rw [if_pos h, if_pos h]
      obtain ⟨X, hX⟩ := (hO (j / 2) (by omega)).1
      exact ⟨X, hX.alloc _⟩
    · rw [if_neg h, if_neg h]
      obtain ⟨X, hX⟩ := (hO (j / 2) (by omega)).2
      exact ⟨X, hX.alloc _⟩
  · intro j hj
    rw [World.cell?_alloc_at _ _ _ _ rfl]
    have : j = 0 ∨ j = 1 ∨ j = 2 ∨ j = 3 ∨ j = 4 ∨ j = 5 ∨ j = 6 ∨ j = 7 := by omega
    rcases this with rfl | rfl | rfl | rfl | rfl | rfl | rfl | rfl <;> rfl
  · intro j hj
    unfold alt
    have := hl (j / 2) (by omega)
    split
    · exact this.1
    · exact this.2
end Go.Proofs.YtjglehklfdhgaaaDoor
