/- HELPERS: plain mathematics of classes: which runes mergeL, partsOf, negFrom and allFold have; one list for one set of runes. -/
import Derived.Test.YtjglehklfdhgaaaDoorHas
namespace Go.Proofs.YtjglehklfdhgaaaDoor
open Go.Shelf Go.RowKit Go.Lib Go.Sort Go.Mx
set_option linter.unusedVariables false
set_option linter.unusedSimpArgs false
/-- a range that lies within the domain -/
def goodG (g : Int × Int) : Prop := g.1 ≤ g.2 ∧ (0 ≤ g.1 ∧ g.2 ≤ 55295 ∨ 57344 ≤ g.1 ∧ g.2 ≤ 1114111)
def inG (g : Int × Int) (r : Int) : Bool := decide (g.1 ≤ r) && decide (r ≤ g.2)
theorem hasB_nil (r : Int) : hasB [] r = false := rfl
theorem hasB_cons (g : Int × Int) (t : List (Int × Int)) (r : Int) : hasB (g :: t) r = (inG g r || hasB t r) := rfl
theorem hasB_append (A B : List (Int × Int)) (r : Int) : hasB (A ++ B) r = (hasB A r || hasB B r) := by unfold hasB; rw [List.any_append]
theorem hasB_perm {A B : List (Int × Int)} (h : A.Perm B) (r : Int) : hasB A r = hasB B r := by unfold hasB; exact h.any_eq
theorem hasB_true {L : List (Int × Int)} {r : Int} : hasB L r = true ↔ ∃ g ∈ L, g.1 ≤ r ∧ r ≤ g.2 := by
  unfold hasB; rw [List.any_eq_true]; simp
/-- merge, from a range on -/
def mrun : Int × Int → List (Int × Int) → List (Int × Int)
  | c, [] => [c]
  | c, g :: t => if g.1 ≤ c.2 + 1 then mrun (c.1, max c.2 g.2) t else c :: mrun g t
theorem last_snoc (O : List (Int × Int)) (c : Int × Int) : lastOf (O ++ [c]) = c := by
  unfold lastOf
  simp [List.getD]
theorem mstep_snoc (O : List (Int × Int)) (c g : Int × Int) : mstep (O ++ [c]) g = if g.1 ≤ c.2 + 1 then O ++ [(c.1, max c.2 g.2)] else O ++ [c] ++ [g] := by
  unfold mstep
  rw [if_neg (by simp), last_snoc]
  split
  · simp
  · rfl
theorem foldl_mrun (t : List (Int × Int)) : ∀ (O : List (Int × Int)) (c : Int × Int), t.foldl mstep (O ++ [c]) = O ++ mrun c t := by
  induction t with
  | nil => intro O c; rfl
  | cons g t ih =>
    intro O c
    rw [List.foldl_cons, mstep_snoc, mrun]
    split
    · rw [ih]
    · rw [ih]; simp
theorem mergeL_cons (g : Int × Int) (t : List (Int × Int)) : mergeL (g :: t) = mrun g t := by
  unfold mergeL
  rw [List.foldl_cons]
  have : mstep [] g = [] ++ [g] := by unfold mstep; simp
  rw [this, foldl_mrun]
  rfl
theorem mrun_has (r : Int) (t : List (Int × Int)) : ∀ c : Int × Int, c.1 ≤ c.2 → (c :: t).Pairwise (fun x y => x.1 ≤ y.1) → (∀ g ∈ t, g.1 ≤ g.2) → hasB (mrun c t) r = hasB (c :: t) r := by
  induction t with
  | nil => intro c _ _ _; rfl
  | cons g t ih =>
    intro c hc hp hg
    rw [mrun]
    obtain ⟨hp1, hp2⟩ := List.pairwise_cons.1 hp
    obtain ⟨hp3, hp4⟩ := List.pairwise_cons.1 hp2
    have hcg := hp1 g (by simp)
    have hgg := hg g (by simp)
    split
    · rename_i hj
      rw [ih (c.1, max c.2 g.2) (by simp only; omega) (List.pairwise_cons.2 ⟨fun x hx => hp1 x (by simp [hx]), hp4⟩) (fun x hx => hg x (by simp [hx]))]
      rw [hasB_cons, hasB_cons, hasB_cons, ← Bool.or_assoc]
      congr 1
      unfold inG
      rw [Bool.eq_iff_iff]
      simp only [Bool.or_eq_true, Bool.and_eq_true, decide_eq_true_eq]
      omega
    · rw [hasB_cons, hasB_cons, ih g hgg hp2 (fun x hx => hg x (by simp [hx]))]
theorem good_ok {ls : Int} {g : Int × Int} (h : goodG g) (hl : ls ≤ g.1) : okG ls g = true := by
  obtain ⟨h1, h2⟩ := h
  simp only [okG, dom, gapB, Bool.and_eq_true, Bool.not_eq_true', decide_eq_true_eq, decide_eq_false_iff_not]
  omega
theorem ok_good {ls : Int} {g : Int × Int} (h : okG ls g = true) : goodG g ∧ ls ≤ g.1 := by
  simp only [okG, dom, gapB, Bool.and_eq_true, Bool.not_eq_true', decide_eq_true_eq, decide_eq_false_iff_not] at h
  unfold goodG
  omega
theorem mrun_right (t : List (Int × Int)) : ∀ (ls : Int) (c : Int × Int), ls ≤ c.1 → goodG c → (c :: t).Pairwise (fun x y => x.1 ≤ y.1) → (∀ g ∈ t, goodG g) → rightFrom ls (mrun c t) = true := by
  induction t with
  | nil => intro ls c hl hc _ _; simp only [mrun, rightFrom, good_ok hc hl, Bool.and_self]
  | cons g t ih =>
    intro ls c hl hc hp hg
    rw [mrun]
    obtain ⟨hp1, hp2⟩ := List.pairwise_cons.1 hp
    obtain ⟨hp3, hp4⟩ := List.pairwise_cons.1 hp2
    have hcg := hp1 g (by simp)
    have hgg := hg g (by simp)
    split
    · rename_i hj
      refine ih ls (c.1, max c.2 g.2) hl ?_ (List.pairwise_cons.2 ⟨fun x hx => hp1 x (by simp [hx]), hp4⟩) (fun x hx => hg x (by simp [hx]))
      unfold goodG at hc hgg ⊢
      simp only
      omega
    · rename_i hj
      rw [rightFrom, good_ok hc hl, Bool.true_and]
      exact ih _ g (by omega) hgg hp2 (fun x hx => hg x (by simp [hx]))
theorem merge_has (D : List (Int × Int)) (r : Int) (hp : D.Pairwise (fun x y => x.1 ≤ y.1)) (hg : ∀ g ∈ D, goodG g) : hasB (mergeL D) r = hasB D r := by
  cases D with
  | nil => rfl
  | cons c t => rw [mergeL_cons]; exact mrun_has r t c (hg c (by simp)).1 hp (fun g h => (hg g (by simp [h])).1)
theorem merge_right (D : List (Int × Int)) (hp : D.Pairwise (fun x y => x.1 ≤ y.1)) (hg : ∀ g ∈ D, goodG g) : rightFrom 0 (mergeL D) = true := by
  cases D with
  | nil => rfl
  | cons c t =>
    rw [mergeL_cons]
    refine mrun_right t 0 c ?_ (hg c (by simp)) hp (fun g h => hg g (by simp [h]))
    have := hg c (by simp)
    unfold goodG at this
    omega
/-- below the least there is nothing -/
theorem right_below (L : List (Int × Int)) : ∀ (ls r : Int), rightFrom ls L = true → r < ls → hasB L r = false := by
  induction L with
  | nil => intro ls r _ _; rfl
  | cons g t ih =>
    intro ls r h hr
    rw [rightFrom, Bool.and_eq_true] at h
    obtain ⟨hg, hl⟩ := ok_good h.1
    rw [hasB_cons, ih _ r h.2 (by have := hg.1; omega), Bool.or_false]
    unfold inG
    rw [Bool.and_eq_false_iff]
    left
    simp only [decide_eq_false_iff_not]
    omega
/-- ONE LIST FOR ONE SET OF RUNES -/
theorem right_one (A : List (Int × Int)) : ∀ (B : List (Int × Int)) (ls ls' : Int), rightFrom ls A = true → rightFrom ls' B = true → (∀ r, hasB A r = hasB B r) → A = B := by
  induction A with
  | nil =>
    intro B ls ls' _ hB h
    cases B with
    | nil => rfl
    | cons b t =>
      rw [rightFrom, Bool.and_eq_true] at hB
      obtain ⟨⟨hb, _⟩, _⟩ := ok_good hB.1
      have := h b.1
      rw [hasB_nil, hasB_cons] at this
      simp [inG, hb] at this
  | cons a s ih =>
    intro B ls ls' hA hB h
    cases B with
    | nil =>
      rw [rightFrom, Bool.and_eq_true] at hA
      obtain ⟨⟨ha, _⟩, _⟩ := ok_good hA.1
      have := h a.1
      rw [hasB_nil, hasB_cons] at this
      simp [inG, ha] at this
    | cons b t =>
      rw [rightFrom, Bool.and_eq_true] at hA hB
      obtain ⟨⟨ha, _⟩, _⟩ := ok_good hA.1
      obtain ⟨⟨hb, _⟩, _⟩ := ok_good hB.1
      have lowA : ∀ r, r < a.2 + 2 → hasB s r = false := fun r hr => right_below s _ r hA.2 hr
      have lowB : ∀ r, r < b.2 + 2 → hasB t r = false := fun r hr => right_below t _ r hB.2 hr
      have hh : ∀ r, (inG a r || hasB s r) = (inG b r || hasB t r) := fun r => by have := h r; rwa [hasB_cons, hasB_cons] at this
      have e1 : a.1 = b.1 := by
        rcases Int.lt_trichotomy a.1 b.1 with hlt | he | hgt
        · have := hh a.1
          rw [lowA _ (by omega), lowB _ (by omega)] at this
          simp [inG, ha] at this
          omega
        · exact he
        · have := hh b.1
          rw [lowA _ (by omega), lowB _ (by omega)] at this
          simp [inG, hb] at this
          omega
      have e2 : a.2 = b.2 := by
        rcases Int.lt_trichotomy a.2 b.2 with hlt | he | hgt
        · have := hh (a.2 + 1)
          have x1 : inG a (a.2 + 1) = false := by simp only [inG, Bool.and_eq_false_iff, decide_eq_false_iff_not]; omega
          have x2 : inG b (a.2 + 1) = true := by simp only [inG, Bool.and_eq_true, decide_eq_true_eq]; omega
          rw [lowA _ (by omega), lowB _ (by omega), x1, x2] at this
          simp at this
        · exact he
        · have := hh (b.2 + 1)
          have x1 : inG b (b.2 + 1) = false := by simp only [inG, Bool.and_eq_false_iff, decide_eq_false_iff_not]; omega
          have x2 : inG a (b.2 + 1) = true := by simp only [inG, Bool.and_eq_true, decide_eq_true_eq]; omega
          rw [lowA _ (by omega), lowB _ (by omega), x1, x2] at this
          simp at this
      have eab : a = b := Prod.ext e1 e2
      subst eab
      rw [ih t _ _ hA.2 hB.2 (fun r => by
        by_cases hr : r < a.2 + 2
        · rw [lowA r hr, lowB r hr]
        · have := hh r
          have hi : inG a r = false := by
            unfold inG
            rw [Bool.and_eq_false_iff]
            right
            simp only [decide_eq_false_iff_not]
            omega
          rwa [hi, Bool.false_or, Bool.false_or] at this)]
/-- what a range has of the domain, by its parts -/
theorem parts_has (g : Int × Int) (r : Int) (h : okR g = true) : hasB (partsOf g) r = (dom r && inG g r) := by
  simp only [okR, decide_eq_true_eq] at h
  unfold partsOf
  rw [hasB_append]
  by_cases h1 : g.1 < 55296 <;> by_cases h2 : 57343 < g.2
  all_goals
    first | rw [if_pos h1] | rw [if_neg h1]
    first | rw [if_pos h2] | rw [if_neg h2]
    simp only [hasB_cons, hasB_nil, inG, dom, Bool.or_false]
    rw [Bool.eq_iff_iff]
    simp only [Bool.or_eq_true, Bool.and_eq_true, decide_eq_true_eq, Bool.false_eq_true, or_false, false_or, false_iff, iff_false]
    omega
theorem parts_good (g : Int × Int) (h : okR g = true) : ∀ x ∈ partsOf g, goodG x := by
  simp only [okR, decide_eq_true_eq] at h
  intro x hx
  unfold partsOf at hx
  rcases List.mem_append.1 hx with hx | hx
  · split at hx
    · simp at hx; subst hx; unfold goodG; simp only; omega
    · simp at hx
  · split at hx
    · simp at hx; subst hx; unfold goodG; simp only; omega
    · simp at hx
theorem allParts_has (L : List (Int × Int)) (r : Int) (h : L.all okR = true) : hasB (allParts L) r = (dom r && hasB L r) := by
  induction L with
  | nil => simp [allParts, hasB_nil]
  | cons g t ih =>
    rw [List.all_cons, Bool.and_eq_true] at h
    have e : allParts (g :: t) = partsOf g ++ allParts t := by simp [allParts]
    rw [e, hasB_append, parts_has g r h.1, ih h.2, hasB_cons, Bool.and_or_distrib_left]
theorem allParts_good (L : List (Int × Int)) (h : L.all okR = true) : ∀ x ∈ allParts L, goodG x := by
  intro x hx
  unfold allParts at hx
  obtain ⟨g, hg, hx⟩ := List.mem_flatMap.1 hx
  exact parts_good g (List.all_eq_true.1 h g hg) x hx
/-- what gather gives, in plain words -/
theorem gather_means (L D : List (Int × Int)) (h : L.all okR = true) (hp : D.Perm (allParts L)) (hs : D.Pairwise (fun x y => x.1 ≤ y.1)) : rightFrom 0 (mergeL D) = true ∧ ∀ r, hasB (mergeL D) r = (dom r && hasB L r) := by
  have hg : ∀ g ∈ D, goodG g := fun g hgD => allParts_good L h g (hp.mem_iff.1 hgD)
  exact ⟨merge_right D hs hg, fun r => by rw [merge_has D r hs hg, hasB_perm hp, allParts_has L r h]⟩
theorem good_okR {g : Int × Int} (h : goodG g) : okR g = true := by unfold goodG at h; simp only [okR, decide_eq_true_eq]; omega
theorem right_good (L : List (Int × Int)) : ∀ ls, rightFrom ls L = true → ∀ g ∈ L, goodG g := by
  induction L with
  | nil => intro ls _ g hg; simp at hg
  | cons a t ih =>
    intro ls h g hg
    rw [rightFrom, Bool.and_eq_true] at h
    rcases List.mem_cons.1 hg with rfl | hg
    · exact (ok_good h.1).1
    · exact ih _ h.2 g hg
theorem right_okR {L : List (Int × Int)} {ls : Int} (h : rightFrom ls L = true) : L.all okR = true := List.all_eq_true.2 fun g hg => good_okR (right_good L ls h g hg)
theorem right_dom {L : List (Int × Int)} {ls : Int} (h : rightFrom ls L = true) (r : Int) (hr : hasB L r = true) : dom r = true := by
  obtain ⟨g, hg, h1, h2⟩ := hasB_true.1 hr
  have := right_good L ls h g hg
  unfold goodG at this
  simp only [dom, decide_eq_true_eq]
  omega
/-- what lies between -/
theorem neg_has (r : Int) (L : List (Int × Int)) : ∀ (ls x : Int), rightFrom ls L = true → x ≤ ls → hasB (negFrom x L) r = (decide (x ≤ r) && decide (r ≤ 1114111) && !hasB L r) := by
  induction L with
  | nil =>
    intro ls x _ _
    simp only [negFrom]
    split
    · simp [hasB_cons, hasB_nil, inG]
    · rw [hasB_nil]
      symm
      simp only [Bool.and_eq_false_iff, decide_eq_false_iff_not]
      omega
  | cons g t ih =>
    intro ls x h hx
    rw [rightFrom, Bool.and_eq_true] at h
    obtain ⟨hg, hl⟩ := ok_good h.1
    have hg1 := hg.1
    have hg2 : g.2 ≤ 1114111 := by unfold goodG at hg; omega
    have hlow : r < g.2 + 2 → hasB t r = false := right_below t _ r h.2
    simp only [negFrom]
    rw [hasB_append, ih (g.2 + 2) (g.2 + 1) h.2 (by omega), hasB_cons]
    by_cases hr : r < g.2 + 2
    · rw [hlow hr]
      split
      · rw [Bool.eq_iff_iff]
        simp only [hasB_cons, hasB_nil, inG, Bool.or_false, Bool.or_eq_true, Bool.and_eq_true, decide_eq_true_eq, Bool.not_eq_true', Bool.and_eq_false_iff, decide_eq_false_iff_not, Bool.not_false, and_true]
        omega
      · rw [Bool.eq_iff_iff]
        simp only [hasB_cons, hasB_nil, inG, Bool.or_false, Bool.false_or, Bool.or_eq_true, Bool.and_eq_true, decide_eq_true_eq, Bool.not_eq_true', Bool.and_eq_false_iff, decide_eq_false_iff_not, Bool.not_false, and_true]
        omega
    · have hi : inG g r = false := by simp only [inG, Bool.and_eq_false_iff, decide_eq_false_iff_not]; omega
      have h1 : hasB (if x < g.1 then [(x, g.1 - 1)] else []) r = false := by
        split
        · simp only [hasB_cons, hasB_nil, inG, Bool.or_false, Bool.and_eq_false_iff, decide_eq_false_iff_not]; omega
        · rfl
      have h2 : decide (g.2 + 1 ≤ r) = true := by simp; omega
      have h3 : decide (x ≤ r) = true := by simp; omega
      rw [hi, h1, h2, h3, Bool.false_or, Bool.false_or]
theorem neg_okR (L : List (Int × Int)) : ∀ (ls x : Int), rightFrom ls L = true → 0 ≤ x → (negFrom x L).all okR = true := by
  induction L with
  | nil =>
    intro ls x _ hx
    simp only [negFrom]
    split
    · simp [okR]; omega
    · rfl
  | cons g t ih =>
    intro ls x h hx
    rw [rightFrom, Bool.and_eq_true] at h
    obtain ⟨hg, hl⟩ := ok_good h.1
    have hg1 : 0 ≤ g.1 ∧ g.1 ≤ g.2 ∧ g.2 ≤ 1114111 := by unfold goodG at hg; omega
    simp only [negFrom]
    rw [List.all_append, ih _ _ h.2 (by omega), Bool.and_true]
    split
    · simp [okR]; omega
    · rfl
/-- the other case -/
def otherI (r : Int) : Int := if 97 ≤ r ∧ r ≤ 122 then r - 32 else if 65 ≤ r ∧ r ≤ 90 then r + 32 else r
theorem moved_has (g : Int × Int) (a b st r : Int) : hasB (movedOf g a b st) r = (decide (a + st ≤ r ∧ r ≤ b + st) && inG g (r - st)) := by
  unfold movedOf
  rw [Bool.eq_iff_iff]
  split
  · simp only [hasB_nil, inG, Bool.and_eq_true, decide_eq_true_eq, Bool.false_eq_true, false_iff]; omega
  · simp only [hasB_cons, hasB_nil, inG, Bool.or_false, Bool.and_eq_true, decide_eq_true_eq]; omega
theorem foldOf_has (g : Int × Int) (r : Int) : hasB (foldOf g) r = (decide (otherI r ≠ r) && inG g (otherI r)) := by
  unfold foldOf
  rw [hasB_append, moved_has, moved_has]
  unfold otherI inG
  rw [Bool.eq_iff_iff]
  simp only [Bool.or_eq_true, Bool.and_eq_true, decide_eq_true_eq]
  split
  · omega
  · split <;> omega
theorem allFold_has (L : List (Int × Int)) (r : Int) : hasB (allFold L) r = (decide (otherI r ≠ r) && hasB L (otherI r)) := by
  induction L with
  | nil => simp [allFold, hasB_nil]
  | cons g t ih =>
    have e : allFold (g :: t) = foldOf g ++ allFold t := by simp [allFold]
    rw [e, hasB_append, ih, foldOf_has, hasB_cons, Bool.and_or_distrib_left]
theorem moved_okR (g : Int × Int) (a b st : Int) (h0 : 0 ≤ a + st) (h1 : b + st ≤ 1114111) : (movedOf g a b st).all okR = true := by
  unfold movedOf
  split
  · rfl
  · simp [okR]; omega
theorem allFold_okR (L : List (Int × Int)) : (allFold L).all okR = true := by
  induction L with
  | nil => rfl
  | cons g t ih =>
    have e : allFold (g :: t) = foldOf g ++ allFold t := by simp [allFold]
    rw [e, List.all_append, ih, Bool.and_true]
    unfold foldOf
    rw [List.all_append, moved_okR _ _ _ _ (by omega) (by omega), moved_okR _ _ _ _ (by omega) (by omega)]
    rfl
/-- few ranges of a class have letters -/
theorem allFold_few (L : List (Int × Int)) : ∀ ls, rightFrom ls L = true → 0 ≤ ls → (allFold L).length ≤ (91 - ls).toNat + (123 - ls).toNat := by
  induction L with
  | nil => intro ls _ _; simp [allFold]
  | cons g t ih =>
    intro ls h hl0
    rw [rightFrom, Bool.and_eq_true] at h
    obtain ⟨hg, hl⟩ := ok_good h.1
    have hg1 := hg.1
    have e : allFold (g :: t) = foldOf g ++ allFold t := by simp [allFold]
    have h2 := ih _ h.2 (by omega)
    rw [e, List.length_append]
    unfold foldOf movedOf
    rw [List.length_append]
    split <;> split <;> simp <;> omega
theorem allFold_short (L : List (Int × Int)) (h : rightB L = true) : (allFold L).length ≤ 214 := by
  have hr : rightFrom 0 L = true := by unfold rightB at h; rw [Bool.and_eq_true] at h; exact h.2
  have := allFold_few L 0 hr (by omega)
  simpa using this
/-- a range of a class has one part -/
theorem parts_one {g : Int × Int} (h : goodG g) : (partsOf g).length ≤ 1 := by
  unfold goodG at h
  unfold partsOf
  split <;> split <;> simp
  omega
theorem allParts_one (L : List (Int × Int)) (h : ∀ g ∈ L, goodG g) : (allParts L).length ≤ L.length := by
  induction L with
  | nil => simp [allParts]
  | cons g t ih =>
    have e : allParts (g :: t) = partsOf g ++ allParts t := by simp [allParts]
    have h1 := parts_one (h g (by simp))
    have h2 := ih (fun x hx => h x (by simp [hx]))
    rw [e, List.length_append, List.length_cons]
    omega
end Go.Proofs.YtjglehklfdhgaaaDoor
