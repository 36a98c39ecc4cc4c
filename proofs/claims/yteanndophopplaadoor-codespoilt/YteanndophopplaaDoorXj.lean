/- HELPERS: a region that draws its order, where all of the rest keeps what is read. -/
import Derived.Test.YteanndophopplaaDoorXi
namespace Go.Proofs.YteanndophopplaaDoor
open Go Go.RowKit
set_option linter.unusedVariables false
section
variable {P : Program} {ops : Array Oper} {Q : Exit → Act → World → Prop} {md : Region.Mode} {S : World → Prop} {L : Nat}
theorem wpAnyX_far {i : Nat} {oi : Oper} {v : Value} (hi : ops[i]? = some oi) (hsel : ∀ (j : Nat) (o : Oper) cs b, ops[j]? = some o → o.op ≠ .select cs b)
    (hQ : ∀ c a w, Q (.panic c) (a.put oi.dst v) w → Q (.panic c) a w) (hL : ops.size ≤ L) :
    ∀ (fuel : Nat) (listed : Array Bool) (a : Act) (w : World),
      (∀ j oj, ops[j]? = some oj → j ≠ i → listed.getD j true = false → (∀ e ∈ oj.after, Region.binds md e = true → e.on ≠ i) → oi.apart ops oj = true) →
      i ∈ Region.ready md ops listed → YieldsIf P ops S oi v a → S w →
      wpAnyX P md ops Q S L fuel (listed.setIfInBounds i true) (a.put oi.dst v) w → wpAnyX P md ops Q S L (fuel + 1) listed a w := by
  intro fuel
  induction fuel with
  | zero =>
    intro listed a w _ hr hy hS H
    refine ⟨fun h => (by rw [h] at hr; cases hr), fun j hj => ?_⟩
    by_cases hji : j = i
    · subst hji; exact hy.wpOp hi hS ⟨fun _ => hS, H⟩
    · have := ready_mono hj hji
      rw [H.1] at this
      cases this
  | succ fuel ih =>
    intro listed a w hfree hr hy hS H
    refine ⟨fun h => (by rw [h] at hr; cases hr), fun j hj => ?_⟩
    by_cases hji : j = i
    · subst hji; exact hy.wpOp hi hS ⟨fun _ => hS, H⟩
    · have h1 := H.2 j (ready_mono hj hji)
      obtain ⟨hjun, oj, hoj, hall⟩ := mem_ready.1 hj
      have hnot : ∀ e ∈ oj.after, Region.binds md e = true → e.on ≠ i := fun e he hb heq => by
        have h1 := hall e he hb
        have h0 := (mem_ready.1 hr).1
        rw [heq] at h1
        rcases Nat.lt_or_ge i listed.size with h' | h'
        · simp [h'] at h0 h1; rw [h0] at h1; cases h1
        · simp [Array.getElem?_eq_none h'] at h1
      have hjL : j ≠ L := fun e => by
        have := (Array.getElem?_eq_some_iff.1 hoj).1
        omega
      have h2 := wpOp_putIf hoj (hfree j oj hoj hji hjun hnot) (fun cs b => hsel i oi cs b hi) (fun cs b => hsel j oj cs b hoj) hQ hy h1
      have hfree' : ∀ k ok, ops[k]? = some ok → k ≠ i → (listed.setIfInBounds j true).getD k true = false →
          (∀ e ∈ ok.after, Region.binds md e = true → e.on ≠ i) → oi.apart ops ok = true := fun k ok hk hki hun hno => by
        refine hfree k ok hk hki ?_ hno
        by_cases hjk : j = k
        · subst hjk; exact hjun
        · rw [getD_set_ne true hjk] at hun; exact hun
      refine wpOp_mono (fun a' w' h3 => ⟨fun _ => h3.2.1 hjL, ih (listed.setIfInBounds j true) a' w' hfree' (ready_mono hr (Ne.symm hji)) h3.1 (h3.2.1 hjL) ?_⟩) h2
      rw [Array.setIfInBounds_comm _ _ hji]
      exact h3.2.2
def lexF (md : Region.Mode) (ops : Array Oper) : List Nat → Array Bool → Bool
  | [], _ => true
  | k :: ks, listed => (Region.ready md ops listed).contains k && Region.free md ops listed k && lexF md ops ks (listed.setIfInBounds k true)
theorem wpAnyX_lexF {g : Nat} {w : World} (hsel : Region.noSelect ops = true) (hS : S w) (hL : ops.size ≤ L) :
    ∀ (ks : List Nat) (listed : Array Bool) (a : Act), lexF md ops ks listed = true →
    wpLex P ops Q S (fun a' => wpAnyX P md ops Q S L g (marksK ks listed) a' w) (opsAt ops ks) a → wpAnyX P md ops Q S L (ks.length + g) listed a w
  | [], listed, a, _, h => by simpa [marksK, opsAt, wpLex] using h
  | k :: ks, listed, a, hB, h => by
    simp only [lexF, Bool.and_eq_true] at hB
    obtain ⟨⟨hr, hf⟩, hB'⟩ := hB
    have hr' : k ∈ Region.ready md ops listed := by simpa using hr
    obtain ⟨_, o, h0, _⟩ := mem_ready.1 hr'
    simp only [opsAt, h0] at h
    obtain ⟨v, hy, hQ, hK⟩ := h
    rw [show (k :: ks).length + g = (ks.length + g) + 1 by simp only [List.length_cons]; omega]
    exact wpAnyX_far h0 (Region.noSelect_spec hsel) hQ hL (ks.length + g) listed a w (Region.free_spec h0 hf) hr' hy hS
      (wpAnyX_lexF hsel hS hL ks _ _ hB' hK)
theorem wp_region_lexF {id : Nat} {a : Act} {w : World} (ks js : List Nat) (S : World → Prop) (hm : P.follows .mixedOrders = true) (hsel : Region.noSelect ops = true) (hn : ks.length + js.length = ops.size) (hB : lexF .any ops ks (Array.replicate ops.size false) = true)
    (hT : seqK .any ops js (marksK ks (Array.replicate ops.size false)) = true) (hS : S w.drew)
    (h : wpLex P ops Q S (fun a' => wpTailK P ops Q S ops.size (opsNo ops js) a' w.drew) (opsAt ops ks) a) : (Code.region id ops true).wp P Q a w := by
  have hlex : ∀ (l' : List Oper) (a : Act), wpLex P ops Q S (fun a' => wpTailK P ops Q S ops.size (opsNo ops js) a' w.drew) l' a → wpLex P ops Q S (fun a' => wpAnyX P .any ops Q S ops.size js.length (marksK ks (Array.replicate ops.size false)) a' w.drew) l' a := by
    intro l'
    induction l' with
    | nil => intro a h; exact wpAnyX_of_tailK (md := .any) js _ a w.drew hT h
    | cons o l' ih => rintro a ⟨v, h1, h2, h3⟩; exact ⟨v, h1, h2, ih _ h3⟩
  have H := wpAnyX_lexF (md := .any) (L := ops.size) (Q := Q) (g := js.length) (P := P) (w := w.drew) hsel hS (Nat.le_refl _) ks (Array.replicate ops.size false) a hB (hlex _ _ h)
  rw [hn] at H
  exact wp_region_any hm (by simpa using wpAny_of_X _ _ _ _ H)
end
end Go.Proofs.YteanndophopplaaDoor
