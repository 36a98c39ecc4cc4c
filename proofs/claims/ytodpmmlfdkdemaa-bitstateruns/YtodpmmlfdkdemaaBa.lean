/- HELPERS: depth first with a map, in plain words; what lock step finds is what it finds. -/
import Derived.Test.YtodpmmlfdkdemaaVa
namespace Go.Proofs.Ytodpmmlfdkdemaa
set_option linter.unusedVariables false
set_option linter.unusedSimpArgs false
abbrev Pt := Nat × Nat
/-- to meet a pair of an instruction and a place: what was met ahead, the captures; what is met then, what is found -/
inductive Df (A : Nat → Nat → Ac) : List Pt → Nat → Nat → List Int → List Pt → Fd → Prop
  | old (m : List Pt) (i j : Nat) (c : List Int) : (i, j) ∈ m → Df A m i j c m none
  | fit (m : List Pt) (i j : Nat) (c : List Int) (a : Int) : (i, j) ∉ m → A j i = .fit a → Df A m i j c (m ++ [(i, j)]) (some (a, c))
  | stop (m : List Pt) (i j : Nat) (c : List Int) : (i, j) ∉ m → A j i = .stop → Df A m i j c (m ++ [(i, j)]) none
  | go (m : List Pt) (i j : Nat) (c : List Int) (x : Nat) (m' : List Pt) (r : Fd) : (i, j) ∉ m → A j i = .go x → Df A (m ++ [(i, j)]) x j c m' r → Df A m i j c m' r
  | cap (m : List Pt) (i j : Nat) (c : List Int) (x a : Nat) (m' : List Pt) (r : Fd) : (i, j) ∉ m → A j i = .cap x a → Df A (m ++ [(i, j)]) x j (c.set a (j : Int)) m' r → Df A m i j c m' r
  | rune (m : List Pt) (i j : Nat) (c : List Int) (x : Nat) (m' : List Pt) (r : Fd) : (i, j) ∉ m → A j i = .rune x → Df A (m ++ [(i, j)]) x (j + 1) c m' r → Df A m i j c m' r
  | altx (m : List Pt) (i j : Nat) (c : List Int) (x y : Nat) (m' : List Pt) (z : Int × List Int) : (i, j) ∉ m → A j i = .alt x y → Df A (m ++ [(i, j)]) x j c m' (some z) → Df A m i j c m' (some z)
  | alty (m : List Pt) (i j : Nat) (c : List Int) (x y : Nat) (m1 m' : List Pt) (r : Fd) : (i, j) ∉ m → A j i = .alt x y → Df A (m ++ [(i, j)]) x j c m1 none → Df A m1 y j c m' r → Df A m i j c m' r
theorem df_det {A : Nat → Nat → Ac} {m : List Pt} {i j : Nat} {c : List Int} {m' : List Pt} {r : Fd} (h : Df A m i j c m' r) : ∀ {m2 : List Pt} {r2 : Fd}, Df A m i j c m2 r2 → m' = m2 ∧ r = r2 := by
  induction h with
  | old m i j c hm =>
    intro m2 r2 h2
    cases h2 with
    | old _ _ _ _ h3 => exact ⟨rfl, rfl⟩
    | fit _ _ _ _ a h3 e2 => exact absurd hm h3
    | stop _ _ _ _ h3 e2 => exact absurd hm h3
    | go _ _ _ _ x2 _ _ h3 e2 h4 => exact absurd hm h3
    | cap _ _ _ _ x2 a _ _ h3 e2 h4 => exact absurd hm h3
    | rune _ _ _ _ x2 _ _ h3 e2 h4 => exact absurd hm h3
    | altx _ _ _ _ x2 y _ _ h3 e2 h4 => exact absurd hm h3
    | alty _ _ _ _ x2 y _ _ _ h3 e2 h4 h5 => exact absurd hm h3
  | fit m i j c a hm e =>
    intro m2 r2 h2
    cases h2 <;> simp_all
  | stop m i j c hm e =>
    intro m2 r2 h2
    cases h2 <;> simp_all
  | go m i j c x m' r hm e hd ih =>
    intro m2 r2 h2
    cases h2 with
    | old _ _ _ _ h3 => exact absurd h3 hm
    | fit _ _ _ _ a h3 e2 => rw [e] at e2; cases e2
    | stop _ _ _ _ h3 e2 => rw [e] at e2; cases e2
    | go _ _ _ _ x2 _ _ h3 e2 h4 => rw [e] at e2; cases e2; exact ih h4
    | cap _ _ _ _ x2 a _ _ h3 e2 h4 => rw [e] at e2; cases e2
    | rune _ _ _ _ x2 _ _ h3 e2 h4 => rw [e] at e2; cases e2
    | altx _ _ _ _ x2 y _ _ h3 e2 h4 => rw [e] at e2; cases e2
    | alty _ _ _ _ x2 y _ _ _ h3 e2 h4 h5 => rw [e] at e2; cases e2
  | cap m i j c x a m' r hm e hd ih =>
    intro m2 r2 h2
    cases h2 with
    | old _ _ _ _ h3 => exact absurd h3 hm
    | fit _ _ _ _ a h3 e2 => rw [e] at e2; cases e2
    | stop _ _ _ _ h3 e2 => rw [e] at e2; cases e2
    | go _ _ _ _ x2 _ _ h3 e2 h4 => rw [e] at e2; cases e2
    | cap _ _ _ _ x2 a _ _ h3 e2 h4 => rw [e] at e2; cases e2; exact ih h4
    | rune _ _ _ _ x2 _ _ h3 e2 h4 => rw [e] at e2; cases e2
    | altx _ _ _ _ x2 y _ _ h3 e2 h4 => rw [e] at e2; cases e2
    | alty _ _ _ _ x2 y _ _ _ h3 e2 h4 h5 => rw [e] at e2; cases e2
  | rune m i j c x m' r hm e hd ih =>
    intro m2 r2 h2
    cases h2 with
    | old _ _ _ _ h3 => exact absurd h3 hm
    | fit _ _ _ _ a h3 e2 => rw [e] at e2; cases e2
    | stop _ _ _ _ h3 e2 => rw [e] at e2; cases e2
    | go _ _ _ _ x2 _ _ h3 e2 h4 => rw [e] at e2; cases e2
    | cap _ _ _ _ x2 a _ _ h3 e2 h4 => rw [e] at e2; cases e2
    | rune _ _ _ _ x2 _ _ h3 e2 h4 => rw [e] at e2; cases e2; exact ih h4
    | altx _ _ _ _ x2 y _ _ h3 e2 h4 => rw [e] at e2; cases e2
    | alty _ _ _ _ x2 y _ _ _ h3 e2 h4 h5 => rw [e] at e2; cases e2
  | altx m i j c x y m' z hm e hd ih =>
    intro m2 r2 h2
    cases h2 with
    | old _ _ _ _ h3 => exact absurd h3 hm
    | fit _ _ _ _ a h3 e2 => rw [e] at e2; cases e2
    | stop _ _ _ _ h3 e2 => rw [e] at e2; cases e2
    | go _ _ _ _ x2 _ _ h3 e2 h4 => rw [e] at e2; cases e2
    | cap _ _ _ _ x2 a _ _ h3 e2 h4 => rw [e] at e2; cases e2
    | rune _ _ _ _ x2 _ _ h3 e2 h4 => rw [e] at e2; cases e2
    | altx _ _ _ _ x2 y _ _ h3 e2 h4 => rw [e] at e2; cases e2; exact ih h4
    | alty _ _ _ _ x2 y _ _ _ h3 e2 h4 h5 =>
      rw [e] at e2; cases e2
      cases (ih h4).2
  | alty m i j c x y m1 m' r hm e hd hd2 ih ih2 =>
    intro m2 r2 h2
    cases h2 with
    | old _ _ _ _ h3 => exact absurd h3 hm
    | fit _ _ _ _ a h3 e2 => rw [e] at e2; cases e2
    | stop _ _ _ _ h3 e2 => rw [e] at e2; cases e2
    | go _ _ _ _ x2 _ _ h3 e2 h4 => rw [e] at e2; cases e2
    | cap _ _ _ _ x2 a _ _ h3 e2 h4 => rw [e] at e2; cases e2
    | rune _ _ _ _ x2 _ _ h3 e2 h4 => rw [e] at e2; cases e2
    | altx _ _ _ _ x2 y _ _ h3 e2 h4 => rw [e] at e2; cases e2; cases (ih h4).2
    | alty _ _ _ _ x2 y _ _ _ h3 e2 h4 h5 =>
      rw [e] at e2; cases e2
      obtain ⟨rfl, _⟩ := ih h4
      exact ih2 h5
/-- the same is met from a place on -/
def EqP (k : Nat) (m m2 : List Pt) : Prop := ∀ q, k ≤ q → ∀ i, (i, q) ∈ m ↔ (i, q) ∈ m2
theorem EqP.add {k : Nat} {m m2 : List Pt} (h : EqP k m m2) (p : Pt) : EqP k (m ++ [p]) (m2 ++ [p]) := by
  intro q hq i
  simp only [List.mem_append, h q hq i]
theorem df_cong {A : Nat → Nat → Ac} {m : List Pt} {i j : Nat} {c : List Int} {m' : List Pt} {r : Fd} (h : Df A m i j c m' r) {k : Nat} : ∀ {m2 : List Pt}, k ≤ j → EqP k m m2 → ∃ m2', Df A m2 i j c m2' r ∧ EqP k m' m2' := by
  induction h with
  | old m i j c hm => intro m2 hk he; exact ⟨m2, .old _ _ _ _ ((he j hk i).1 hm), he⟩
  | fit m i j c a hm e => intro m2 hk he; exact ⟨_, .fit _ _ _ _ a (fun h => hm ((he j hk i).2 h)) e, he.add _⟩
  | stop m i j c hm e => intro m2 hk he; exact ⟨_, .stop _ _ _ _ (fun h => hm ((he j hk i).2 h)) e, he.add _⟩
  | go m i j c x m' r hm e hd ih =>
    intro m2 hk he
    obtain ⟨m3, h3, h4⟩ := ih hk (he.add _)
    exact ⟨m3, .go _ _ _ _ x _ _ (fun h => hm ((he j hk i).2 h)) e h3, h4⟩
  | cap m i j c x a m' r hm e hd ih =>
    intro m2 hk he
    obtain ⟨m3, h3, h4⟩ := ih hk (he.add _)
    exact ⟨m3, .cap _ _ _ _ x a _ _ (fun h => hm ((he j hk i).2 h)) e h3, h4⟩
  | rune m i j c x m' r hm e hd ih =>
    intro m2 hk he
    obtain ⟨m3, h3, h4⟩ := ih (by omega) (he.add _)
    exact ⟨m3, .rune _ _ _ _ x _ _ (fun h => hm ((he j hk i).2 h)) e h3, h4⟩
  | altx m i j c x y m' z hm e hd ih =>
    intro m2 hk he
    obtain ⟨m3, h3, h4⟩ := ih hk (he.add _)
    exact ⟨m3, .altx _ _ _ _ x y _ _ (fun h => hm ((he j hk i).2 h)) e h3, h4⟩
  | alty m i j c x y m1 m' r hm e hd hd2 ih ih2 =>
    intro m2 hk he
    obtain ⟨m3, h3, h4⟩ := ih hk (he.add _)
    obtain ⟨m5, h5, h6⟩ := ih2 hk h4
    exact ⟨m5, .alty _ _ _ _ x y _ _ _ (fun h => hm ((he j hk i).2 h)) e h3 h5, h6⟩
/-- nothing ahead of the place is met -/
theorem df_keep {A : Nat → Nat → Ac} {m : List Pt} {i j : Nat} {c : List Int} {m' : List Pt} {r : Fd} (h : Df A m i j c m' r) : ∀ p : Pt, p.2 < j → (p ∈ m' ↔ p ∈ m) := by
  have hx : ∀ (m : List Pt) (i j : Nat) (p : Pt), p.2 < j → (p ∈ m ++ [(i, j)] ↔ p ∈ m) := fun m i j p hp => by
    simp only [List.mem_append, List.mem_singleton]
    constructor
    · rintro (h | rfl)
      · exact h
      · simp at hp
    · exact .inl
  induction h with
  | old m i j c hm => intro p hp; exact Iff.rfl
  | fit m i j c a hm e => exact hx m i j
  | stop m i j c hm e => exact hx m i j
  | go m i j c x m' r hm e hd ih => intro p hp; exact (ih p hp).trans (hx m i j p hp)
  | cap m i j c x a m' r hm e hd ih => intro p hp; exact (ih p hp).trans (hx m i j p hp)
  | rune m i j c x m' r hm e hd ih => intro p hp; exact (ih p (by omega)).trans (hx m i j p hp)
  | altx m i j c x y m' z hm e hd ih => intro p hp; exact (ih p hp).trans (hx m i j p hp)
  | alty m i j c x y m1 m' r hm e hd hd2 ih ih2 => intro p hp; exact (ih2 p hp).trans ((ih p hp).trans (hx m i j p hp))
/-- pairs of the program's instructions and the places from a on, none twice -/
structure OkP (n a len : Nat) (m : List Pt) : Prop where
  nd : m.Nodup
  ok : ∀ p ∈ m, p.1 < n ∧ a ≤ p.2 ∧ p.2 ≤ len
theorem OkP.nil (n a len : Nat) : OkP n a len [] := ⟨by simp, by simp⟩
theorem OkP.add {n a len : Nat} {m : List Pt} (h : OkP n a len m) {i j : Nat} (hm : (i, j) ∉ m) (hi : i < n) (ha : a ≤ j) (hj : j ≤ len) : OkP n a len (m ++ [(i, j)]) := by
  refine ⟨?_, fun p hp => ?_⟩
  · rw [List.nodup_append]
    refine ⟨h.nd, by simp, fun x hx y hy => ?_⟩
    simp at hy
    subst hy
    exact fun e => hm (e ▸ hx)
  · rcases List.mem_append.1 hp with hp | hp
    · exact h.ok p hp
    · simp at hp
      subst hp
      exact ⟨hi, ha, hj⟩
theorem enc_inj {n i i' d d' : Nat} (hi : i < n) (hi' : i' < n) (h : d * n + i = d' * n + i') : d = d' ∧ i = i' := by
  have h1 : (d * n + i) / n = d := by rw [Nat.mul_comm, Nat.mul_add_div (by omega), Nat.div_eq_of_lt hi]; omega
  have h2 : (d' * n + i') / n = d' := by rw [Nat.mul_comm, Nat.mul_add_div (by omega), Nat.div_eq_of_lt hi']; omega
  have : d = d' := by rw [← h1, ← h2, h]
  subst this
  exact ⟨rfl, by omega⟩
theorem enc_lt {n i d q : Nat} (hi : i < n) (hd : d < q) : d * n + i < n * q := by
  have : (d + 1) * n ≤ q * n := Nat.mul_le_mul_right _ hd
  rw [Nat.succ_mul] at this
  rw [Nat.mul_comm n q]
  omega
theorem nodup_map_inj {α : Type} (f : α → Nat) : ∀ (l : List α), l.Nodup → (∀ x ∈ l, ∀ y ∈ l, f x = f y → x = y) → (l.map f).Nodup
  | [], _, _ => by simp
  | x :: l, h, hf => by
    rw [List.map_cons, List.nodup_cons]
    rw [List.nodup_cons] at h
    refine ⟨fun hx => ?_, nodup_map_inj f l h.2 (fun y hy z hz => hf y (List.mem_cons_of_mem _ hy) z (List.mem_cons_of_mem _ hz))⟩
    obtain ⟨y, hy, e⟩ := List.mem_map.1 hx
    have := hf x List.mem_cons_self y (List.mem_cons_of_mem _ hy) e.symm
    exact h.1 (this ▸ hy)
theorem OkP.small {n a len : Nat} {m : List Pt} (h : OkP n a len m) : m.length ≤ n * (len - a + 1) := by
  have h1 := nodup_le (n := n * (len - a + 1)) (l := m.map fun p => (p.2 - a) * n + p.1) (nodup_map_inj _ m h.nd (fun x hx y hy e => by
    have hx' := h.ok x hx
    have hy' := h.ok y hy
    have := enc_inj hx'.1 hy'.1 e
    obtain ⟨x1, x2⟩ := x
    obtain ⟨y1, y2⟩ := y
    simp at this hx' hy' ⊢
    omega)) (fun k hk => by
      obtain ⟨p, hp, rfl⟩ := List.mem_map.1 hk
      have hp' := h.ok p hp
      exact enc_lt hp'.1 (by omega))
  simpa using h1
theorem df_ok {P : Pr} (hP : P.Ok) {a len : Nat} (hlen : ∀ i x, P.A len i ≠ .rune x) {m : List Pt} {i j : Nat} {c : List Int} {m' : List Pt} {r : Fd} (h : Df P.A m i j c m' r) : i < P.n → a ≤ j → j ≤ len → c.length = P.K → OkP P.n a len m → OkP P.n a len m' ∧ m.length ≤ m'.length ∧ (∀ p ∈ m, p ∈ m') ∧ ∀ y, r = some y → y.2.length = P.K := by
  have hsub : ∀ (m : List Pt) (p : Pt) (m' : List Pt), (∀ q ∈ m ++ [p], q ∈ m') → ∀ q ∈ m, q ∈ m' := fun m p m' h q hq => h q (List.mem_append_left _ hq)
  induction h with
  | old m i j c hm => intro hi ha hj hc ho; exact ⟨ho, Nat.le_refl _, fun p hp => hp, by simp⟩
  | fit m i j c a hm e => intro hi ha hj hc ho; exact ⟨ho.add hm hi ha hj, by simp, fun p hp => List.mem_append_left _ hp, fun y hy => by simp at hy; subst hy; exact hc⟩
  | stop m i j c hm e => intro hi ha hj hc ho; exact ⟨ho.add hm hi ha hj, by simp, fun p hp => List.mem_append_left _ hp, by simp⟩
  | go m i j c x m' r hm e hd ih =>
    intro hi ha hj hc ho
    have hx := hP.ok j i hi
    rw [e] at hx
    obtain ⟨h1, h2, h3, h4⟩ := ih hx ha hj hc (ho.add hm hi ha hj)
    exact ⟨h1, by simp at h2; omega, hsub _ _ _ h3, h4⟩
  | cap m i j c x a m' r hm e hd ih =>
    intro hi ha hj hc ho
    have hx := hP.ok j i hi
    rw [e] at hx
    obtain ⟨h1, h2, h3, h4⟩ := ih hx ha hj (by simpa using hc) (ho.add hm hi ha hj)
    exact ⟨h1, by simp at h2; omega, hsub _ _ _ h3, h4⟩
  | rune m i j c x m' r hm e hd ih =>
    intro hi ha hj hc ho
    have hx := hP.ok j i hi
    rw [e] at hx
    have hne : j ≠ len := fun h => hlen i x (h ▸ e)
    obtain ⟨h1, h2, h3, h4⟩ := ih hx (by omega) (by omega) hc (ho.add hm hi ha hj)
    exact ⟨h1, by simp at h2; omega, hsub _ _ _ h3, h4⟩
  | altx m i j c x y m' z hm e hd ih =>
    intro hi ha hj hc ho
    have hx := hP.ok j i hi
    rw [e] at hx
    obtain ⟨h1, h2, h3, h4⟩ := ih hx.1 ha hj hc (ho.add hm hi ha hj)
    exact ⟨h1, by simp at h2; omega, hsub _ _ _ h3, h4⟩
  | alty m i j c x y m1 m' r hm e hd hd2 ih ih2 =>
    intro hi ha hj hc ho
    have hx := hP.ok j i hi
    rw [e] at hx
    obtain ⟨h1, h2, h3, h4⟩ := ih hx.1 ha hj hc (ho.add hm hi ha hj)
    obtain ⟨g1, g2, g3, g4⟩ := ih2 hx.2 ha hj hc h1
    exact ⟨g1, by simp at h2; omega, fun p hp => g3 p (hsub _ _ _ h3 p hp), g4⟩
theorem df_total {P : Pr} (hP : P.Ok) {a len : Nat} (hlen : ∀ i x, P.A len i ≠ .rune x) : ∀ (N : Nat) (m : List Pt), OkP P.n a len m → P.n * (len - a + 1) ≤ N + m.length → ∀ (i j : Nat) (c : List Int), i < P.n → a ≤ j → j ≤ len → c.length = P.K → ∃ m' r, Df P.A m i j c m' r := by
  intro N
  induction N with
  | zero =>
    intro m ho hN i j c hi ha hj hc
    by_cases hm : (i, j) ∈ m
    · exact ⟨_, _, .old _ _ _ _ hm⟩
    · have := (ho.add hm hi ha hj).small
      simp at this
      omega
  | succ N ih =>
    intro m ho hN i j c hi ha hj hc
    by_cases hm : (i, j) ∈ m
    · exact ⟨_, _, .old _ _ _ _ hm⟩
    · have ho' := ho.add hm hi ha hj
      have hx := hP.ok j i hi
      have hN' : P.n * (len - a + 1) ≤ N + (m ++ [(i, j)]).length := by simp; omega
      cases e : P.A j i with
      | fit y => exact ⟨_, _, .fit _ _ _ _ y hm e⟩
      | stop => exact ⟨_, _, .stop _ _ _ _ hm e⟩
      | go x =>
        rw [e] at hx
        obtain ⟨m', r, h⟩ := ih _ ho' hN' x j c hx ha hj hc
        exact ⟨m', r, .go _ _ _ _ x _ _ hm e h⟩
      | cap x b =>
        rw [e] at hx
        obtain ⟨m', r, h⟩ := ih _ ho' hN' x j (c.set b (j : Int)) hx ha hj (by simpa using hc)
        exact ⟨m', r, .cap _ _ _ _ x b _ _ hm e h⟩
      | rune x =>
        rw [e] at hx
        have hne : j ≠ len := fun h => hlen i x (h ▸ e)
        obtain ⟨m', r, h⟩ := ih _ ho' hN' x (j + 1) c hx (by omega) (by omega) hc
        exact ⟨m', r, .rune _ _ _ _ x _ _ hm e h⟩
      | alt x y =>
        rw [e] at hx
        obtain ⟨m', r, h⟩ := ih _ ho' hN' x j c hx.1 ha hj hc
        cases r with
        | some z => exact ⟨m', _, .altx _ _ _ _ x y _ _ hm e h⟩
        | none =>
          obtain ⟨g1, g2, _⟩ := df_ok hP hlen h hx.1 ha hj hc ho'
          obtain ⟨m2, r2, h2⟩ := ih _ g1 (by omega) y j c hx.2 ha hj hc
          exact ⟨m2, r2, .alty _ _ _ _ x y _ _ _ hm e h h2⟩
/-- one pair after another, till something is found -/
inductive Da (A : Nat → Nat → Ac) : List Pt → List (Nat × Nat × List Int) → List Pt → Fd → Prop
  | nil (m : List Pt) : Da A m [] m none
  | hit (m : List Pt) (i j : Nat) (c : List Int) (T : List (Nat × Nat × List Int)) (m' : List Pt) (z : Int × List Int) : Df A m i j c m' (some z) → Da A m ((i, j, c) :: T) m' (some z)
  | miss (m : List Pt) (i j : Nat) (c : List Int) (T : List (Nat × Nat × List Int)) (m1 m' : List Pt) (r : Fd) : Df A m i j c m1 none → Da A m1 T m' r → Da A m ((i, j, c) :: T) m' r
theorem da_det {A : Nat → Nat → Ac} {m : List Pt} {T : List (Nat × Nat × List Int)} {m' : List Pt} {r : Fd} (h : Da A m T m' r) : ∀ {m2 : List Pt} {r2 : Fd}, Da A m T m2 r2 → m' = m2 ∧ r = r2 := by
  induction h with
  | nil m => intro m2 r2 h2; cases h2; exact ⟨rfl, rfl⟩
  | hit m i j c T m' z hd =>
    intro m2 r2 h2
    cases h2 with
    | hit _ _ _ _ _ _ _ h3 => exact df_det hd h3
    | miss _ _ _ _ _ _ _ _ h3 h4 => cases (df_det hd h3).2
  | miss m i j c T m1 m' r hd h ih =>
    intro m2 r2 h2
    cases h2 with
    | hit _ _ _ _ _ _ _ h3 => cases (df_det hd h3).2
    | miss _ _ _ _ _ _ _ _ h3 h4 => obtain ⟨rfl, _⟩ := df_det hd h3; exact ih h4
theorem da_hit {A : Nat → Nat → Ac} {m : List Pt} {T : List (Nat × Nat × List Int)} {m' : List Pt} {r : Fd} (h : Da A m T m' r) : ∀ {z}, r = some z → ∀ U, Da A m (T ++ U) m' r := by
  induction h with
  | nil m => intro z hz; cases hz
  | hit m i j c T m' z hd => intro _ _ U; exact .hit _ _ _ _ _ _ _ hd
  | miss m i j c T m1 m' r hd h ih => intro z hz U; exact .miss _ _ _ _ _ _ _ _ hd (ih hz U)
theorem da_miss {A : Nat → Nat → Ac} {m : List Pt} {T : List (Nat × Nat × List Int)} {m' : List Pt} {r : Fd} (h : Da A m T m' r) : r = none → ∀ {U m2 r2}, Da A m' U m2 r2 → Da A m (T ++ U) m2 r2 := by
  induction h with
  | nil m => intro _ U m2 r2 h2; exact h2
  | hit m i j c T m' z hd => intro hz; cases hz
  | miss m i j c T m1 m' r hd h ih => intro hz U m2 r2 h2; exact .miss _ _ _ _ _ _ _ _ hd (ih hz h2)
theorem da_split {A : Nat → Nat → Ac} : ∀ (T : List (Nat × Nat × List Int)) {m U m2 r2}, Da A m (T ++ U) m2 r2 → (∃ z, r2 = some z ∧ Da A m T m2 r2) ∨ ∃ m1, Da A m T m1 none ∧ Da A m1 U m2 r2
  | [], m, U, m2, r2, h => .inr ⟨m, .nil _, h⟩
  | t :: T, m, U, m2, r2, h => by
    cases h with
    | hit _ i j c _ _ z hd => exact .inl ⟨z, rfl, .hit _ _ _ _ _ _ _ hd⟩
    | miss _ i j c _ m1 _ _ hd h' =>
      rcases da_split T h' with ⟨z, hz, h3⟩ | ⟨m3, h3, h4⟩
      · exact .inl ⟨z, hz, .miss _ _ _ _ _ _ _ _ hd h3⟩
      · exact .inr ⟨m3, .miss _ _ _ _ _ _ _ _ hd h3, h4⟩
theorem da_cong {A : Nat → Nat → Ac} {k : Nat} {m : List Pt} {T : List (Nat × Nat × List Int)} {m' : List Pt} {r : Fd} (h : Da A m T m' r) : ∀ {m2 : List Pt}, (∀ t ∈ T, k ≤ t.2.1) → EqP k m m2 → ∃ m2', Da A m2 T m2' r ∧ EqP k m' m2' := by
  induction h with
  | nil m => intro m2 _ he; exact ⟨m2, .nil _, he⟩
  | hit m i j c T m' z hd =>
    intro m2 hT he
    obtain ⟨m3, h3, h4⟩ := df_cong hd (hT _ List.mem_cons_self) he
    exact ⟨m3, .hit _ _ _ _ _ _ _ h3, h4⟩
  | miss m i j c T m1 m' r hd h ih =>
    intro m2 hT he
    obtain ⟨m3, h3, h4⟩ := df_cong hd (hT _ List.mem_cons_self) he
    obtain ⟨m5, h5, h6⟩ := ih (fun t ht => hT t (List.mem_cons_of_mem _ ht)) h4
    exact ⟨m5, .miss _ _ _ _ _ _ _ _ h3 h5, h6⟩
theorem da_ok {P : Pr} (hP : P.Ok) {a len : Nat} (hlen : ∀ i x, P.A len i ≠ .rune x) {m : List Pt} {T : List (Nat × Nat × List Int)} {m' : List Pt} {r : Fd} (h : Da P.A m T m' r) : (∀ t ∈ T, t.1 < P.n ∧ a ≤ t.2.1 ∧ t.2.1 ≤ len ∧ t.2.2.length = P.K) → OkP P.n a len m → OkP P.n a len m' ∧ m.length ≤ m'.length ∧ (∀ p ∈ m, p ∈ m') ∧ ∀ y, r = some y → y.2.length = P.K := by
  induction h with
  | nil m => intro _ ho; exact ⟨ho, Nat.le_refl _, fun p hp => hp, by simp⟩
  | hit m i j c T m' z hd =>
    intro hT ho
    have ht := hT _ List.mem_cons_self
    exact df_ok hP hlen hd ht.1 ht.2.1 ht.2.2.1 ht.2.2.2 ho
  | miss m i j c T m1 m' r hd h ih =>
    intro hT ho
    have ht := hT _ List.mem_cons_self
    obtain ⟨g1, g2, g3, _⟩ := df_ok hP hlen hd ht.1 ht.2.1 ht.2.2.1 ht.2.2.2 ho
    obtain ⟨f1, f2, f3, f4⟩ := ih (fun t ht => hT t (List.mem_cons_of_mem _ ht)) g1
    exact ⟨f1, by omega, fun p hp => f3 p (g3 p hp), f4⟩
theorem da_total {P : Pr} (hP : P.Ok) {a len : Nat} (hlen : ∀ i x, P.A len i ≠ .rune x) : ∀ (T : List (Nat × Nat × List Int)) (m : List Pt), (∀ t ∈ T, t.1 < P.n ∧ a ≤ t.2.1 ∧ t.2.1 ≤ len ∧ t.2.2.length = P.K) → OkP P.n a len m → ∃ m' r, Da P.A m T m' r
  | [], m, _, _ => ⟨m, none, .nil _⟩
  | (i, j, c) :: T, m, hT, ho => by
    have ht := hT _ List.mem_cons_self
    obtain ⟨m1, r1, h1⟩ := df_total hP hlen (P.n * (len - a + 1)) m ho (by omega) i j c ht.1 ht.2.1 ht.2.2.1 ht.2.2.2
    cases r1 with
    | some z => exact ⟨_, _, .hit _ _ _ _ _ _ _ h1⟩
    | none =>
      have g1 := (df_ok hP hlen h1 ht.1 ht.2.1 ht.2.2.1 ht.2.2.2 ho).1
      obtain ⟨m2, r2, h2⟩ := da_total hP hlen T m1 (fun t ht => hT t (List.mem_cons_of_mem _ ht)) g1
      exact ⟨m2, r2, .miss _ _ _ _ _ _ _ _ h1 h2⟩
end Go.Proofs.Ytodpmmlfdkdemaa
