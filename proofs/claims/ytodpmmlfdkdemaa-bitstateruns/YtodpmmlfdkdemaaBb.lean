/- HELPERS: what lock step finds is what depth first finds. -/
import Derived.Test.YtodpmmlfdkdemaaBa
namespace Go.Proofs.Ytodpmmlfdkdemaa
set_option linter.unusedVariables false
set_option linter.unusedSimpArgs false
/-- threads at a place -/
def ats (j : Nat) (T : List Th) : List (Nat × Nat × List Int) := T.map fun t => (t.1, j, t.2)
theorem ats_append (j : Nat) (T U : List Th) : ats j (T ++ U) = ats j T ++ ats j U := by simp [ats]
/-- a visit of a place against depth first from the same threads: what was met ahead of the place is m0 -/
inductive Qv (A : Nat → Nat → Ac) (n a len j : Nat) (m0 : List Pt) (s : Vst) (m : List Pt) : Fd → Prop
  | far (R : List Pt) (y : Int × List Int) : Da A m0 (ats (j + 1) s.next) R (some y) → Qv A n a len j m0 s m (some y)
  | here (R : List Pt) (y : Int × List Int) : Da A m0 (ats (j + 1) s.next) R none → s.over = true → s.found = some y → Qv A n a len j m0 s m (some y)
  | on (R : List Pt) : Da A m0 (ats (j + 1) s.next) R none → s.over = false → (∀ i, (i, j) ∈ m ↔ i ∈ s.met) → EqP (j + 1) m R → OkP n a len m → Qv A n a len j m0 s m none
/-- to go on: nothing, where something is found -/
def Dc (A : Nat → Nat → Ac) (m : List Pt) (r : Fd) (i j : Nat) (c : List Int) (m' : List Pt) (r' : Fd) : Prop := (∃ y, r = some y ∧ m' = m ∧ r' = r) ∨ (r = none ∧ Df A m i j c m' r')
theorem EqP.here {k : Nat} {m R : List Pt} (h : EqP k m R) {i j : Nat} (hj : j < k) : EqP k (m ++ [(i, j)]) R := by
  intro q hq x
  rw [← h q hq x]
  simp only [List.mem_append, List.mem_singleton, Prod.mk.injEq]
  constructor
  · rintro (h | ⟨_, rfl⟩)
    · exact h
    · omega
  · exact .inl
theorem mark_iff {m : List Pt} {s : Vst} {i j : Nat} (h : ∀ i, (i, j) ∈ m ↔ i ∈ s.met) : ∀ x, (x, j) ∈ m ++ [(i, j)] ↔ x ∈ (s.mark i).met := by
  intro x
  simp only [List.mem_append, List.mem_singleton, Prod.mk.injEq, and_true, Vst.mark, h x]
theorem vis_q {P : Pr} (hP : P.Ok) {a len j : Nat} (hlen : ∀ i x, P.A len i ≠ .rune x) (ha : a ≤ j) (hj : j ≤ len) {m0 : List Pt} : ∀ (f i : Nat) (c : List Int) (s : Vst) (m : List Pt) (r : Fd), i < P.n → c.length = P.K → P.n < f + s.met.length → Inv P.n P.K s → Qv P.A P.n a len j m0 s m r →
    ∃ m' r', Dc P.A m r i j c m' r' ∧ Qv P.A P.n a len j m0 (vis (P.A j) j f i c s) m' r' := by
  intro f
  induction f with
  | zero =>
    intro i c s m r hi hc hf hv hq
    have := hv.small
    omega
  | succ f ih =>
    intro i c s m r hi hc hf hv hq
    cases hq with
    | far R y hd =>
      obtain ⟨x, hx⟩ := (vis_grow (A := P.A j) (j := j) (f + 1) i c s).next
      refine ⟨m, some y, .inl ⟨y, rfl, rfl, rfl⟩, .far R y ?_⟩
      rw [hx, ats_append]
      exact da_hit hd rfl _
    | here R y hd ho hfd =>
      refine ⟨m, some y, .inl ⟨y, rfl, rfl, rfl⟩, ?_⟩
      rw [vis_over ho]
      exact .here R y hd ho hfd
    | on R hd ho hm he hok =>
      by_cases him : i ∈ s.met
      · refine ⟨m, none, .inr ⟨rfl, .old _ _ _ _ ((hm i).2 him)⟩, ?_⟩
        have : vis (P.A j) j (f + 1) i c s = s := by
          unfold vis
          rw [if_pos (by simp [him])]
        rw [this]
        exact .on R hd ho hm he hok
      · have hnm : (i, j) ∉ m := fun h => him ((hm i).1 h)
        have hv1 := hv.mark hi him
        have hok1 := hok.add hnm hi ha hj
        have hq1 : Qv P.A P.n a len j m0 (s.mark i) (m ++ [(i, j)]) none := .on R hd ho (mark_iff hm) (he.here (Nat.lt_succ_self j)) hok1
        have hf1 : P.n < f + (s.mark i).met.length := by simp [Vst.mark]; omega
        have hx := hP.ok j i hi
        unfold vis
        rw [if_neg (by simp [ho, him])]
        cases e : P.A j i with
        | fit b =>
          refine ⟨m ++ [(i, j)], some (b, c), .inr ⟨rfl, .fit _ _ _ _ b hnm e⟩, ?_⟩
          exact .here R (b, c) hd rfl rfl
        | stop => exact ⟨m ++ [(i, j)], none, .inr ⟨rfl, .stop _ _ _ _ hnm e⟩, hq1⟩
        | go x =>
          rw [e] at hx
          obtain ⟨m', r', hdc, hq'⟩ := ih x c _ _ _ hx hc hf1 hv1 hq1
          rcases hdc with ⟨y, h, _⟩ | ⟨_, hdf⟩
          · cases h
          · exact ⟨m', r', .inr ⟨rfl, .go _ _ _ _ x _ _ hnm e hdf⟩, hq'⟩
        | cap x b =>
          rw [e] at hx
          obtain ⟨m', r', hdc, hq'⟩ := ih x (c.set b (j : Int)) _ _ _ hx (by simpa using hc) hf1 hv1 hq1
          rcases hdc with ⟨y, h, _⟩ | ⟨_, hdf⟩
          · cases h
          · exact ⟨m', r', .inr ⟨rfl, .cap _ _ _ _ x b _ _ hnm e hdf⟩, hq'⟩
        | rune x =>
          rw [e] at hx
          have hne : j ≠ len := fun h => hlen i x (h ▸ e)
          obtain ⟨m', r', hdf⟩ := df_total hP hlen (P.n * (len - a + 1)) _ hok1 (by omega) x (j + 1) c hx (by omega) (by omega) hc
          obtain ⟨R', hR, hE⟩ := df_cong hdf (Nat.le_refl _) (he.here (i := i) (Nat.lt_succ_self j))
          refine ⟨m', r', .inr ⟨rfl, .rune _ _ _ _ x _ _ hnm e hdf⟩, ?_⟩
          have hone : Da P.A R (ats (j + 1) [(x, c)]) R' r' := by
            cases r' with
            | some y => exact .hit _ _ _ _ _ _ _ hR
            | none => exact .miss _ _ _ _ _ _ _ _ hR (.nil _)
          have hall : Da P.A m0 (ats (j + 1) (s.next ++ [(x, c)])) R' r' := by
            rw [ats_append]
            exact da_miss hd rfl hone
          cases r' with
          | some y => exact .far R' y hall
          | none =>
            refine .on R' hall ho (fun k => ?_) hE (df_ok hP hlen hdf hx (by omega) (by omega) hc hok1).1
            rw [df_keep hdf (k, j) (Nat.lt_succ_self j)]
            exact mark_iff hm k
        | alt x y =>
          rw [e] at hx
          obtain ⟨m1, r1, hdc, hq2⟩ := ih x c _ _ _ hx.1 hc hf1 hv1 hq1
          rcases hdc with ⟨z, h, _⟩ | ⟨_, hdf⟩
          · cases h
          · obtain ⟨g, hg⟩ := (vis_grow (A := P.A j) (j := j) f x c (s.mark i)).met
            obtain ⟨m2, r2, hdc2, hq3⟩ := ih y c _ m1 r1 hx.2 hc (by rw [hg, List.length_append]; omega) (vis_inv (hP.ok j) f x c _ hx.1 hc hv1) hq2
            rcases hdc2 with ⟨z, rfl, rfl, rfl⟩ | ⟨rfl, hdf2⟩
            · exact ⟨_, _, .inr ⟨rfl, .altx _ _ _ _ x y _ _ hnm e hdf⟩, hq3⟩
            · exact ⟨_, _, .inr ⟨rfl, .alty _ _ _ _ x y _ _ _ hnm e hdf hdf2⟩, hq3⟩
/-- to go on with threads -/
def Dd (A : Nat → Nat → Ac) (m : List Pt) (r : Fd) (T : List (Nat × Nat × List Int)) (m' : List Pt) (r' : Fd) : Prop := (∃ y, r = some y ∧ m' = m ∧ r' = r) ∨ (r = none ∧ Da A m T m' r')
theorem vall_q {P : Pr} (hP : P.Ok) {a len j f : Nat} (hlen : ∀ i x, P.A len i ≠ .rune x) (ha : a ≤ j) (hj : j ≤ len) {m0 : List Pt} (hf : P.n < f) : ∀ (T : List Th) (s : Vst) (m : List Pt) (r : Fd), (∀ t ∈ T, t.1 < P.n ∧ t.2.length = P.K) → Inv P.n P.K s → Qv P.A P.n a len j m0 s m r →
    ∃ m' r', Dd P.A m r (ats j T) m' r' ∧ Qv P.A P.n a len j m0 (vall (P.A j) j f T s) m' r' := by
  intro T
  induction T with
  | nil =>
    intro s m r _ hv hq
    refine ⟨m, r, ?_, hq⟩
    cases r with
    | some y => exact .inl ⟨y, rfl, rfl, rfl⟩
    | none => exact .inr ⟨rfl, .nil _⟩
  | cons t T ih =>
    intro s m r hT hv hq
    have ht := hT t List.mem_cons_self
    obtain ⟨m1, r1, hd1, hq1⟩ := vis_q hP hlen ha hj f t.1 t.2 s m r ht.1 ht.2 (by omega) hv hq
    obtain ⟨m2, r2, hd2, hq2⟩ := ih _ m1 r1 (fun u hu => hT u (List.mem_cons_of_mem _ hu)) (vis_inv (hP.ok j) f t.1 t.2 s ht.1 ht.2 hv) hq1
    rw [vall_cons]
    refine ⟨m2, r2, ?_, hq2⟩
    rcases hd1 with ⟨y, rfl, rfl, rfl⟩ | ⟨rfl, hdf⟩
    · rcases hd2 with ⟨z, h1, h2, h3⟩ | ⟨h, _⟩
      · exact .inl ⟨z, h1, h2, h3⟩
      · cases h
    · refine .inr ⟨rfl, ?_⟩
      rcases hd2 with ⟨y, rfl, rfl, rfl⟩ | ⟨rfl, hda⟩
      · exact .hit _ _ _ _ _ _ _ hdf
      · exact .miss _ _ _ _ _ _ _ _ hdf hda
/-- the beginnings of so many places -/
def bgs (P : Pr) (a : Nat) (anch : Bool) (fd : Fd) : Nat → Nat → List (Nat × Nat × List Int)
  | 0, _ => []
  | m + 1, j => (if bgB a anch j fd = true then [(P.S, j, List.replicate P.K (-1))] else []) ++ bgs P a anch fd m (j + 1)
theorem bgs_some (P : Pr) (a : Nat) (anch : Bool) (y : Int × List Int) : ∀ (m j : Nat), a < j → bgs P a anch (some y) m j = []
  | 0, _, _ => rfl
  | m + 1, j, h => by
    have hn : ¬ bgB a anch j (some y) = true := by simp [bgB]; omega
    simp only [bgs]
    rw [if_neg hn, bgs_some P a anch y m (j + 1) (by omega)]
    rfl
theorem bgs_from (P : Pr) (a : Nat) (anch : Bool) (fd : Fd) : ∀ (m j : Nat), ∀ t ∈ bgs P a anch fd m j, t.1 = P.S ∧ j ≤ t.2.1 ∧ t.2.1 < j + m ∧ t.2.2 = List.replicate P.K (-1)
  | 0, _ => by simp [bgs]
  | m + 1, j => by
    intro t ht
    simp only [bgs] at ht
    rcases List.mem_append.1 ht with h | h
    · split at h
      · simp at h; subst h; exact ⟨rfl, Nat.le_refl _, by show j < _; omega, rfl⟩
      · simp at h
    · have := bgs_from P a anch fd m (j + 1) t h
      exact ⟨this.1, by omega, by omega, this.2.2.2⟩
theorem place_q {P : Pr} (hP : P.Ok) {a len j : Nat} {anch : Bool} (hlen : ∀ i x, P.A len i ≠ .rune x) (ha : a ≤ j) (hj : j ≤ len) {m0 : List Pt} (hok : OkP P.n a len m0) (h0 : ∀ p ∈ m0, p.2 < j) {T : List Th} {fd : Fd} (hT : ∀ t ∈ T, t.1 < P.n ∧ t.2.length = P.K) (hfd : ∀ y, fd = some y → y.2.length = P.K) :
    ∃ m' r', Da P.A m0 (ats j T ++ (if bgB a anch j fd = true then [(P.S, j, List.replicate P.K (-1))] else [])) m' r' ∧ Qv P.A P.n a len j m0 (place P a anch j T fd) m' r' := by
  have hv := new_inv P.n P.K fd hfd
  have hq : Qv P.A P.n a len j m0 (newV fd) m0 none := .on m0 (.nil _) rfl (fun i => by
    simp only [newV, List.not_mem_nil, iff_false]
    intro h
    have := h0 _ h
    simp at this) (fun q hq i => Iff.rfl) hok
  obtain ⟨m1, r1, hd1, hq1⟩ := vall_q hP hlen ha hj (Nat.lt_succ_self P.n) T (newV fd) m0 none hT hv hq
  have hd1' : Da P.A m0 (ats j T) m1 r1 := by
    rcases hd1 with ⟨y, h, _⟩ | ⟨_, h⟩
    · cases h
    · exact h
  unfold place
  dsimp only
  split
  · obtain ⟨m2, r2, hd2, hq2⟩ := vis_q hP hlen ha hj (P.n + 1) P.S (List.replicate P.K (-1)) _ m1 r1 hP.S (by simp) (by omega) (vall_inv (hP.ok j) T (newV fd) hT hv) hq1
    refine ⟨m2, r2, ?_, hq2⟩
    rcases hd2 with ⟨y, rfl, rfl, rfl⟩ | ⟨rfl, hdf⟩
    · exact da_hit hd1' rfl _
    · refine da_miss hd1' rfl ?_
      cases r2 with
      | some y => exact .hit _ _ _ _ _ _ _ hdf
      | none => exact .miss _ _ _ _ _ _ _ _ hdf (.nil _)
  · refine ⟨m1, r1, ?_, hq1⟩
    rw [List.append_nil]
    exact hd1'
theorem vis_end {A : Nat → Ac} {j : Nat} (hA : ∀ i x, A i ≠ .rune x) : ∀ (f i : Nat) (c : List Int) (s : Vst), s.next = [] → (vis A j f i c s).next = [] := by
  intro f
  induction f with
  | zero => intro i c s h; exact h
  | succ f ihf =>
    intro i c s h
    unfold vis
    split
    · exact h
    · split
      · exact ihf _ _ _ (ihf _ _ _ h)
      · exact ihf _ _ _ h
      · exact ihf _ _ _ h
      · rename_i x e; exact absurd e (hA _ _)
      · exact h
      · exact h
theorem vall_end {A : Nat → Ac} {j f : Nat} (hA : ∀ i x, A i ≠ .rune x) : ∀ (T : List Th) (s : Vst), s.next = [] → (vall A j f T s).next = [] := by
  intro T
  induction T with
  | nil => intro s h; exact h
  | cons t T ih => intro s h; rw [vall_cons]; exact ih _ (vis_end hA _ _ _ _ h)
theorem place_end {P : Pr} {a j : Nat} {anch : Bool} (hlen : ∀ i x, P.A j i ≠ .rune x) (T : List Th) (fd : Fd) : (place P a anch j T fd).next = [] := by
  unfold place
  dsimp only
  split
  · exact vis_end hlen _ _ _ _ (vall_end hlen _ _ rfl)
  · exact vall_end hlen _ _ rfl
theorem itr_q {P : Pr} (hP : P.Ok) {a len : Nat} {anch : Bool} (hlen : ∀ i x, P.A len i ≠ .rune x) : ∀ (m j : Nat) (T : List Th) (fd : Fd) (m0 : List Pt), j + m = len + 1 → a ≤ j → (m = 0 → T = []) → OkP P.n a len m0 → (∀ p ∈ m0, p.2 < j) → (∀ t ∈ T, t.1 < P.n ∧ t.2.length = P.K) → (∀ y, fd = some y → y.2.length = P.K) →
    ∃ m' r', Da P.A m0 (ats j T ++ bgs P a anch fd m j) m' r' ∧ (itr P a anch m j T fd).2 = r'.or fd := by
  intro m
  induction m with
  | zero =>
    intro j T fd m0 hj ha hT0 hok h0 hT hfd
    rw [hT0 rfl]
    exact ⟨m0, none, .nil _, rfl⟩
  | succ m ih =>
    intro j T fd m0 hj ha _ hok h0 hT hfd
    obtain ⟨m1, r1, hd1, hq⟩ := place_q (anch := anch) hP hlen ha (by omega) hok h0 hT hfd
    have hiv := place_inv hP (a := a) (j := j) (anch := anch) hT hfd
    have hnx : m = 0 → (place P a anch j T fd).next = [] := fun e => by
      subst e
      obtain rfl : j = len := by omega
      exact place_end hlen T fd
    obtain ⟨m2, r2, hd2, hr2⟩ := ih (j + 1) (place P a anch j T fd).next (place P a anch j T fd).found m0 (by omega) (by omega) hnx hok (fun p hp => by have := h0 p hp; omega) hiv.nx hiv.fd
    have hfo := (place_grow P a j anch T fd).found
    simp only [itr, bgs]
    rw [hr2, ← List.append_assoc]
    generalize place P a anch j T fd = s at hq hd2 hfo ⊢
    cases hq with
    | far R y hd =>
      refine ⟨m1, some y, da_hit hd1 rfl _, ?_⟩
      obtain ⟨_, rfl⟩ := da_det (da_hit hd rfl _) hd2
      rfl
    | here R y hd ho hf =>
      refine ⟨m1, some y, da_hit hd1 rfl _, ?_⟩
      rw [hf, bgs_some P a anch y m (j + 1) (by omega), List.append_nil] at hd2
      obtain ⟨_, rfl⟩ := da_det hd hd2
      rw [hf]
      rfl
    | on R hd ho hm he hok' =>
      have hf : s.found = fd := (hfo ho).1
      rw [hf] at hd2 ⊢
      rcases da_split _ hd2 with ⟨z, hz, h3⟩ | ⟨m3, h3, h4⟩
      · have := (da_det hd h3).2
        rw [hz] at this
        cases this
      · obtain ⟨rfl, _⟩ := da_det hd h3
        obtain ⟨m5, h5, _⟩ := da_cong (k := j + 1) h4 (fun t ht => (bgs_from P a anch fd m (j + 1) t ht).2.1) (fun q hq i => (he q hq i).symm)
        exact ⟨m5, r2, da_miss hd1 rfl h5, rfl⟩
/-- what lock step finds -/
theorem lock_da {P : Pr} (hP : P.Ok) {a len : Nat} {anch : Bool} (hlen : ∀ i x, P.A len i ≠ .rune x) (ha : a ≤ len) {m' : List Pt} {r : Fd} (h : Da P.A [] (bgs P a anch none (len - a + 1) a) m' r) : (lockRun P len a anch).1 = r := by
  obtain ⟨m2, r2, hd, hr⟩ := itr_q (anch := anch) hP hlen (len - a + 1) a [] none [] (by omega) (Nat.le_refl _) (fun _ => rfl) (OkP.nil _ _ _) (by simp) (by simp) (by simp)
  obtain ⟨_, rfl⟩ := da_det h hd
  unfold lockRun
  rw [lock_itr P a anch _ _ _ _ _ (Nat.le_refl _), hr]
  cases r <;> rfl
end Go.Proofs.Ytodpmmlfdkdemaa
