/- HELPERS: a region that draws its order: what only reads is taken first, in an order that is given, where the rest keeps what it reads, but for the last operation, which waits for all. -/
import Derived.Test.YteanndophopplaaDoorXh
namespace Go.Proofs.YteanndophopplaaDoor
open Go Go.RowKit
set_option linter.unusedVariables false
section
variable {P : Program} {ops : Array Oper} {Q : Exit → Act → World → Prop} {md : Region.Mode} {S : World → Prop} {L : Nat}
def lexK (md : Region.Mode) (ops : Array Oper) (L : Nat) : List Nat → Array Bool → Bool
  | [], _ => true
  | k :: ks, listed => (Region.ready md ops listed).contains k && Region.free md ops listed k && Region.waitsFor md ops L k && lexK md ops L ks (listed.setIfInBounds k true)
def marksK : List Nat → Array Bool → Array Bool
  | [], listed => listed
  | k :: ks, listed => marksK ks (listed.setIfInBounds k true)
def seqK (md : Region.Mode) (ops : Array Oper) : List Nat → Array Bool → Bool
  | [], listed => (Region.ready md ops listed).isEmpty
  | k :: ks, listed => decide (Region.ready md ops listed = [k]) && seqK md ops ks (listed.setIfInBounds k true)
def opsAt (ops : Array Oper) : List Nat → List Oper
  | [] => []
  | k :: ks => match ops[k]? with | some o => o :: opsAt ops ks | none => opsAt ops ks
def opsNo (ops : Array Oper) : List Nat → List (Nat × Oper)
  | [] => []
  | k :: ks => match ops[k]? with | some o => (k, o) :: opsNo ops ks | none => opsNo ops ks
theorem wpAnyX_lexK {g : Nat} {w : World} (hsel : Region.noSelect ops = true) (hS : S w) :
    ∀ (ks : List Nat) (listed : Array Bool) (a : Act), lexK md ops L ks listed = true →
    wpLex P ops Q S (fun a' => wpAnyX P md ops Q S L g (marksK ks listed) a' w) (opsAt ops ks) a → wpAnyX P md ops Q S L (ks.length + g) listed a w
  | [], listed, a, _, h => by simpa [marksK, opsAt, wpLex] using h
  | k :: ks, listed, a, hB, h => by
    simp only [lexK, Bool.and_eq_true] at hB
    obtain ⟨⟨⟨hr, hf⟩, hL⟩, hB'⟩ := hB
    have hr' : k ∈ Region.ready md ops listed := by simpa using hr
    obtain ⟨_, o, h0, _⟩ := mem_ready.1 hr'
    simp only [opsAt, h0] at h
    obtain ⟨v, hy, hQ, hK⟩ := h
    rw [show (k :: ks).length + g = (ks.length + g) + 1 by simp only [List.length_cons]; omega]
    exact wpAnyX_first h0 (Region.noSelect_spec hsel) hQ hL (ks.length + g) listed a w (Region.free_spec h0 hf) hr' hy hS
      (wpAnyX_lexK hsel hS ks _ _ hB' hK)
/-- the tail: one operation behind the other -/
def wpTailK (P : Program) (ops : Array Oper) (Q : Exit → Act → World → Prop) (S : World → Prop) (L : Nat) : List (Nat × Oper) → Act → World → Prop
  | [], a, w => Q .normal a w
  | (k, o) :: l, a, w => ∀ K : Act → World → Prop, Hid (∀ a' w', (k ≠ L → S w') → wpTailK P ops Q S L l a' w' → K a' w') → if Region.wanted o (yielded ops a.tmps) = true then Oper.wp P o a w K Q else K (a.put o.dst undef) w
theorem tailK_cons {o : Oper} {l : List (Nat × Oper)} {k : Nat} {a : Act} {w : World} (h : ∀ K : Act → World → Prop, Hid (∀ a' w', (k ≠ L → S w') → wpTailK P ops Q S L l a' w' → K a' w') → if Region.wanted o (yielded ops a.tmps) = true then Oper.wp P o a w K Q else K (a.put o.dst undef) w) : wpTailK P ops Q S L ((k, o) :: l) a w := h
theorem tailK_nil {a : Act} {w : World} (h : Q .normal a w) : wpTailK P ops Q S L [] a w := h
theorem wpAnyX_of_tailK : ∀ (js : List Nat) (listed : Array Bool) (a : Act) (w : World),
    seqK md ops js listed = true → wpTailK P ops Q S L (opsNo ops js) a w → wpAnyX P md ops Q S L js.length listed a w
  | [], _, _, _, hB, h => ⟨by simpa [seqK] using hB, h⟩
  | k :: js, listed, a, w, hB, h => by
    simp only [seqK, Bool.and_eq_true, decide_eq_true_eq] at hB
    have hr : k ∈ Region.ready md ops listed := by rw [hB.1]; simp
    obtain ⟨_, o, h0, _⟩ := mem_ready.1 hr
    simp only [opsNo, h0] at h
    refine ⟨fun h1 => absurd (hB.1.symm.trans h1) (by simp), fun j hj => ?_⟩
    rw [hB.1] at hj
    have : j = k := by simpa using hj
    subst this
    have h1 := h (fun a' w' => (j ≠ L → S w') ∧ wpAnyX P md ops Q S L js.length (listed.setIfInBounds j true) a' w') ((fun a' w' h1 h2 => ⟨h1, wpAnyX_of_tailK js _ a' w' hB.2 h2⟩))
    unfold wpOp
    simp only [h0]
    split
    · rename_i hw; rw [if_pos hw] at h1; exact .inl h1
    · rename_i hw; rw [if_neg hw] at h1; exact h1
theorem wp_region_lexK {id : Nat} {a : Act} {w : World} (ks js : List Nat) (L : Nat) (S : World → Prop) (hm : P.follows .mixedOrders = true) (hsel : Region.noSelect ops = true) (hn : ks.length + js.length = ops.size) (hB : lexK .any ops L ks (Array.replicate ops.size false) = true)
    (hT : seqK .any ops js (marksK ks (Array.replicate ops.size false)) = true) (hS : S w.drew)
    (h : wpLex P ops Q S (fun a' => wpTailK P ops Q S L (opsNo ops js) a' w.drew) (opsAt ops ks) a) : (Code.region id ops true).wp P Q a w := by
  have hlex : ∀ (l' : List Oper) (a : Act), wpLex P ops Q S (fun a' => wpTailK P ops Q S L (opsNo ops js) a' w.drew) l' a → wpLex P ops Q S (fun a' => wpAnyX P .any ops Q S L js.length (marksK ks (Array.replicate ops.size false)) a' w.drew) l' a := by
    intro l'
    induction l' with
    | nil => intro a h; exact wpAnyX_of_tailK (md := .any) js _ a w.drew hT h
    | cons o l' ih => rintro a ⟨v, h1, h2, h3⟩; exact ⟨v, h1, h2, ih _ h3⟩
  have H := wpAnyX_lexK (md := .any) (L := L) (Q := Q) (g := js.length) (P := P) (w := w.drew) hsel hS ks (Array.replicate ops.size false) a hB (hlex _ _ h)
  rw [hn] at H
  exact wp_region_any hm (by simpa using wpAny_of_X _ _ _ _ H)
end
end Go.Proofs.YteanndophopplaaDoor
