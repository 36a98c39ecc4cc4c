/- HELPERS: lock step in plain words. -/
namespace Go.Proofs.Ytodpmmlfdkdemaa
set_option linter.unusedVariables false
set_option linter.unusedSimpArgs false
/-- what an instruction does at a place -/
inductive Ac where
  | alt (x y : Nat)
  | go (x : Nat)
  | cap (x a : Nat)
  | rune (x : Nat)
  | fit (a : Int)
  | stop
abbrev Th := Nat × List Int
abbrev Fd := Option (Int × List Int)
/-- what there is while a place is visited -/
structure Vst where
  met : List Nat
  next : List Th
  found : Fd
  over : Bool
def Vst.mark (s : Vst) (i : Nat) : Vst := { s with met := s.met ++ [i] }
def vis (A : Nat → Ac) (j : Nat) : Nat → Nat → List Int → Vst → Vst
  | 0, _, _, s => s
  | f + 1, i, c, s =>
    if (s.over || s.met.contains i) = true then s else
    match A i with
    | .alt x y => vis A j f y c (vis A j f x c (s.mark i))
    | .go x => vis A j f x c (s.mark i)
    | .cap x a => vis A j f x (c.set a (j : Int)) (s.mark i)
    | .rune x => { s.mark i with next := s.next ++ [(x, c)] }
    | .fit a => { s.mark i with found := some (a, c), over := true }
    | .stop => s.mark i
def vall (A : Nat → Ac) (j f : Nat) (T : List Th) (s : Vst) : Vst := T.foldl (fun s t => vis A j f t.1 t.2 s) s
def newV (fd : Fd) : Vst := ⟨[], [], fd, false⟩
/-- a program over a text -/
structure Pr where
  A : Nat → Nat → Ac
  n : Nat
  S : Nat
  K : Nat
def bgB (a : Nat) (anch : Bool) (j : Nat) (fd : Fd) : Bool := decide (j = a) || (!anch && fd.isNone)
def place (P : Pr) (a : Nat) (anch : Bool) (j : Nat) (T : List Th) (fd : Fd) : Vst :=
  let s := vall (P.A j) j (P.n + 1) T (newV fd)
  if bgB a anch j fd = true then vis (P.A j) j (P.n + 1) P.S (List.replicate P.K (-1)) s else s
/-- lock step: so many places are left, what is found, how many steps -/
def lock (P : Pr) (a : Nat) (anch : Bool) : Nat → Nat → List Th → Fd → Nat → Fd × Nat
  | 0, _, _, fd, st => (fd, st)
  | m + 1, j, T, fd, st =>
    let s := place P a anch j T fd
    if (decide (m = 0) || (s.next.isEmpty && (s.found.isSome || anch))) = true then (s.found, st + s.met.length)
    else lock P a anch m (j + 1) s.next s.found (st + s.met.length)
/-- the same with no early end -/
def itr (P : Pr) (a : Nat) (anch : Bool) : Nat → Nat → List Th → Fd → List Th × Fd
  | 0, _, T, fd => (T, fd)
  | m + 1, j, T, fd => itr P a anch m (j + 1) (place P a anch j T fd).next (place P a anch j T fd).found
theorem vis_over {A : Nat → Ac} {j f i : Nat} {c : List Int} {s : Vst} (h : s.over = true) : vis A j f i c s = s := by
  cases f with
  | zero => rfl
  | succ f => simp [vis, h]
theorem vall_over {A : Nat → Ac} {j f : Nat} (T : List Th) {s : Vst} (h : s.over = true) : vall A j f T s = s := by
  induction T generalizing s with
  | nil => rfl
  | cons t T ih => simp only [vall, List.foldl_cons]; rw [vis_over h]; exact ih h
theorem vall_cons (A : Nat → Ac) (j f : Nat) (t : Th) (T : List Th) (s : Vst) : vall A j f (t :: T) s = vall A j f T (vis A j f t.1 t.2 s) := rfl
theorem vall_append (A : Nat → Ac) (j f : Nat) (T U : List Th) (s : Vst) : vall A j f (T ++ U) s = vall A j f U (vall A j f T s) := by simp [vall, List.foldl_append]
/-- the program's instructions lead to instructions of it -/
def Ac.ok (n : Nat) : Ac → Prop
  | .alt x y => x < n ∧ y < n
  | .go x => x < n
  | .cap x _ => x < n
  | .rune x => x < n
  | .fit _ => True
  | .stop => True
structure Inv (n K : Nat) (s : Vst) : Prop where
  nd : s.met.Nodup
  lt : ∀ k ∈ s.met, k < n
  nx : ∀ t ∈ s.next, t.1 < n ∧ t.2.length = K
  le : s.next.length ≤ s.met.length
  fd : ∀ y, s.found = some y → y.2.length = K
theorem nodup_le {n : Nat} {l : List Nat} (h : l.Nodup) (hl : ∀ k ∈ l, k < n) : l.length ≤ n := by
  induction n generalizing l with
  | zero =>
    cases l with
    | nil => simp
    | cons a l => exact absurd (hl a List.mem_cons_self) (by omega)
  | succ n ih =>
    have h1 := ih (l := l.erase n) (h.erase n) (fun k hk => by
      have h2 := (List.Nodup.mem_erase_iff h).1 hk
      have := hl k h2.2
      have := h2.1
      omega)
    have := List.length_erase (a := n) (l := l)
    split at this <;> omega
theorem Inv.small {n K : Nat} {s : Vst} (h : Inv n K s) : s.met.length ≤ n := nodup_le h.nd h.lt
theorem Inv.mark {n K : Nat} {s : Vst} (h : Inv n K s) {i : Nat} (hi : i < n) (hm : i ∉ s.met) : Inv n K (s.mark i) := by
  refine ⟨?_, fun k hk => ?_, h.nx, ?_, h.fd⟩
  · simp only [Vst.mark]
    rw [List.nodup_append]
    refine ⟨h.nd, by simp, fun a ha b hb => ?_⟩
    simp at hb
    subst hb
    exact fun e => hm (e ▸ ha)
  · simp only [Vst.mark, List.mem_append, List.mem_singleton] at hk
    rcases hk with hk | rfl
    · exact h.lt k hk
    · exact hi
  · have := h.le
    simp only [Vst.mark, List.length_append, List.length_singleton]
    omega
theorem new_inv (n K : Nat) (fd : Fd) (hfd : ∀ y, fd = some y → y.2.length = K) : Inv n K (newV fd) := ⟨by simp [newV], by simp [newV], by simp [newV], by simp [newV], hfd⟩
theorem not_met {s : Vst} {i : Nat} (h : ¬ (s.over || s.met.contains i) = true) : s.over = false ∧ i ∉ s.met := by
  simp at h
  exact h
theorem vis_inv {A : Nat → Ac} {j n K : Nat} (hA : ∀ i, i < n → (A i).ok n) : ∀ (f i : Nat) (c : List Int) (s : Vst), i < n → c.length = K → Inv n K s → Inv n K (vis A j f i c s) := by
  intro f
  induction f with
  | zero => intro i c s _ _ h; exact h
  | succ f ih =>
    intro i c s hi hc h
    unfold vis
    split
    · exact h
    · rename_i hm
      obtain ⟨ho, hm⟩ := not_met hm
      have h1 := h.mark hi hm
      have hok := hA i hi
      split
      · rename_i x y e
        rw [e] at hok
        exact ih _ _ _ hok.2 hc (ih _ _ _ hok.1 hc h1)
      · rename_i x e
        rw [e] at hok
        exact ih _ _ _ hok hc h1
      · rename_i x a e
        rw [e] at hok
        exact ih _ _ _ hok (by simpa using hc) h1
      · rename_i x e
        rw [e] at hok
        refine ⟨h1.nd, h1.lt, fun t ht => ?_, ?_, h1.fd⟩
        · simp only [List.mem_append, List.mem_singleton] at ht
          rcases ht with ht | rfl
          · exact h.nx t ht
          · exact ⟨hok, hc⟩
        · have := h.le
          simp only [Vst.mark, List.length_append, List.length_singleton]
          omega
      · refine ⟨h1.nd, h1.lt, h1.nx, h1.le, fun y hy => ?_⟩
        simp only [Option.some.injEq] at hy
        subst hy
        exact hc
      · exact h1
theorem vall_inv {A : Nat → Ac} {j n K f : Nat} (hA : ∀ i, i < n → (A i).ok n) : ∀ (T : List Th) (s : Vst), (∀ t ∈ T, t.1 < n ∧ t.2.length = K) → Inv n K s → Inv n K (vall A j f T s) := by
  intro T
  induction T with
  | nil => intro s _ h; exact h
  | cons t T ih =>
    intro s hT h
    rw [vall_cons]
    exact ih _ (fun u hu => hT u (List.mem_cons_of_mem _ hu)) (vis_inv hA f t.1 t.2 s (hT t List.mem_cons_self).1 (hT t List.mem_cons_self).2 h)
structure Pr.Ok (P : Pr) : Prop where
  ok : ∀ j i, i < P.n → (P.A j i).ok P.n
  S : P.S < P.n
theorem place_inv {P : Pr} (hP : P.Ok) {a j : Nat} {anch : Bool} {T : List Th} {fd : Fd} (hT : ∀ t ∈ T, t.1 < P.n ∧ t.2.length = P.K) (hfd : ∀ y, fd = some y → y.2.length = P.K) : Inv P.n P.K (place P a anch j T fd) := by
  have h := vall_inv (j := j) (f := P.n + 1) (hP.ok j) T (newV fd) hT (new_inv P.n P.K fd hfd)
  unfold place
  dsimp only
  split
  · exact vis_inv (hP.ok j) _ _ _ _ hP.S (by simp) h
  · exact h
/-- what a visit leaves as it was -/
structure Grow (s t : Vst) : Prop where
  met : ∃ m, t.met = s.met ++ m
  next : ∃ x, t.next = s.next ++ x
  found : t.over = false → t.found = s.found ∧ s.over = false
  some : s.found.isSome = true → t.found.isSome = true
theorem Grow.refl (s : Vst) : Grow s s := ⟨⟨[], by simp⟩, ⟨[], by simp⟩, fun h => ⟨rfl, h⟩, id⟩
theorem Grow.trans {s t u : Vst} (h : Grow s t) (k : Grow t u) : Grow s u := by
  obtain ⟨m, hm⟩ := h.met
  obtain ⟨m2, hm2⟩ := k.met
  obtain ⟨x, hx⟩ := h.next
  obtain ⟨x2, hx2⟩ := k.next
  refine ⟨⟨m ++ m2, by rw [hm2, hm, List.append_assoc]⟩, ⟨x ++ x2, by rw [hx2, hx, List.append_assoc]⟩, fun ho => ?_, fun hs => k.some (h.some hs)⟩
  obtain ⟨h1, h2⟩ := k.found ho
  obtain ⟨h3, h4⟩ := h.found h2
  exact ⟨h1.trans h3, h4⟩
theorem Grow.mark (s : Vst) (i : Nat) : Grow s (s.mark i) := ⟨⟨[i], rfl⟩, ⟨[], by simp [Vst.mark]⟩, fun h => ⟨rfl, h⟩, id⟩
theorem vis_grow {A : Nat → Ac} {j : Nat} : ∀ (f i : Nat) (c : List Int) (s : Vst), Grow s (vis A j f i c s) := by
  intro f
  induction f with
  | zero => intro i c s; exact Grow.refl s
  | succ f ih =>
    intro i c s
    unfold vis
    split
    · exact Grow.refl s
    · rename_i hm
      obtain ⟨ho, hm⟩ := not_met hm
      have h1 := Grow.mark s i
      split
      · exact h1.trans ((ih _ _ _).trans (ih _ _ _))
      · exact h1.trans (ih _ _ _)
      · exact h1.trans (ih _ _ _)
      · exact ⟨⟨[i], rfl⟩, ⟨[_], rfl⟩, fun h => ⟨rfl, h⟩, id⟩
      · exact ⟨⟨[i], rfl⟩, ⟨[], by simp [Vst.mark]⟩, fun h => by simp at h, fun _ => rfl⟩
      · exact h1
theorem vall_grow {A : Nat → Ac} {j f : Nat} : ∀ (T : List Th) (s : Vst), Grow s (vall A j f T s) := by
  intro T
  induction T with
  | nil => intro s; exact Grow.refl s
  | cons t T ih => intro s; rw [vall_cons]; exact (vis_grow f t.1 t.2 s).trans (ih _)
theorem place_grow (P : Pr) (a j : Nat) (anch : Bool) (T : List Th) (fd : Fd) : Grow (newV fd) (place P a anch j T fd) := by
  unfold place
  dsimp only
  split
  · exact (vall_grow T _).trans (vis_grow _ _ _ _)
  · exact vall_grow T _
/-- an instruction at a place leads to a match -/
inductive Rch (A : Nat → Nat → Ac) : Nat → Nat → Prop
  | fit {i j : Nat} (a : Int) : A j i = .fit a → Rch A i j
  | altx {i j : Nat} (x y : Nat) : A j i = .alt x y → Rch A x j → Rch A i j
  | alty {i j : Nat} (x y : Nat) : A j i = .alt x y → Rch A y j → Rch A i j
  | go {i j : Nat} (x : Nat) : A j i = .go x → Rch A x j → Rch A i j
  | cap {i j : Nat} (x a : Nat) : A j i = .cap x a → Rch A x j → Rch A i j
  | rune {i j : Nat} (x : Nat) : A j i = .rune x → Rch A x (j + 1) → Rch A i j
/-- what a visit leaves of what leads to a match, where it does not lead to one -/
structure Dead (A : Nat → Nat → Ac) (j : Nat) (s t : Vst) : Prop where
  over : t.over = s.over
  found : t.found = s.found
  met : ∀ k, Rch A k j → (k ∈ t.met ↔ k ∈ s.met)
  next : ∃ D, t.next = s.next ++ D ∧ ∀ u ∈ D, ¬ Rch A u.1 (j + 1)
theorem Dead.refl (A : Nat → Nat → Ac) (j : Nat) (s : Vst) : Dead A j s s := ⟨rfl, rfl, fun _ _ => Iff.rfl, [], by simp, by simp⟩
theorem Dead.trans {A : Nat → Nat → Ac} {j : Nat} {s t u : Vst} (h : Dead A j s t) (k : Dead A j t u) : Dead A j s u := by
  obtain ⟨D, hD, hD'⟩ := h.next
  obtain ⟨E, hE, hE'⟩ := k.next
  refine ⟨k.over.trans h.over, k.found.trans h.found, fun x hx => (k.met x hx).trans (h.met x hx), D ++ E, by rw [hE, hD, List.append_assoc], fun v hv => ?_⟩
  rcases List.mem_append.1 hv with hv | hv
  · exact hD' v hv
  · exact hE' v hv
theorem Dead.mark {A : Nat → Nat → Ac} {j i : Nat} (s : Vst) (h : ¬ Rch A i j) : Dead A j s (s.mark i) := by
  refine ⟨rfl, rfl, fun k hk => ?_, [], by simp [Vst.mark], by simp⟩
  simp only [Vst.mark, List.mem_append, List.mem_singleton]
  constructor
  · rintro (h' | rfl)
    · exact h'
    · exact absurd hk h
  · exact .inl
theorem vis_dead {A : Nat → Nat → Ac} {j : Nat} : ∀ (f i : Nat) (c : List Int) (s : Vst), ¬ Rch A i j → Dead A j s (vis (A j) j f i c s) := by
  intro f
  induction f with
  | zero => intro i c s _; exact Dead.refl A j s
  | succ f ih =>
    intro i c s hd
    unfold vis
    split
    · exact Dead.refl A j s
    · have h1 := Dead.mark s hd
      split
      · rename_i x y e
        exact h1.trans ((ih _ _ _ (fun h => hd (.altx x y e h))).trans (ih _ _ _ (fun h => hd (.alty x y e h))))
      · rename_i x e
        exact h1.trans (ih _ _ _ (fun h => hd (.go x e h)))
      · rename_i x a e
        exact h1.trans (ih _ _ _ (fun h => hd (.cap x a e h)))
      · rename_i x e
        refine ⟨rfl, rfl, h1.met, [(x, c)], rfl, fun u hu => ?_⟩
        simp at hu
        subst hu
        exact fun h => hd (.rune x e h)
      · rename_i a e
        exact absurd (.fit a e) hd
      · exact h1
theorem vall_dead {A : Nat → Nat → Ac} {j f : Nat} : ∀ (T : List Th) (s : Vst), (∀ t ∈ T, ¬ Rch A t.1 j) → Dead A j s (vall (A j) j f T s) := by
  intro T
  induction T with
  | nil => intro s _; exact Dead.refl A j s
  | cons t T ih =>
    intro s h
    rw [vall_cons]
    exact (vis_dead f t.1 t.2 s (h t List.mem_cons_self)).trans (ih _ (fun u hu => h u (List.mem_cons_of_mem _ hu)))
/-- the same threads that lead to a match, in the same order -/
inductive Sim (A : Nat → Nat → Ac) (j : Nat) : List Th → List Th → Prop
  | nil : Sim A j [] []
  | l (t : Th) (T U : List Th) : ¬ Rch A t.1 j → Sim A j T U → Sim A j (t :: T) U
  | r (t : Th) (T U : List Th) : ¬ Rch A t.1 j → Sim A j T U → Sim A j T (t :: U)
  | b (t : Th) (T U : List Th) : Sim A j T U → Sim A j (t :: T) (t :: U)
theorem Sim.append {A : Nat → Nat → Ac} {j : Nat} {T U T' U' : List Th} (h : Sim A j T U) (h' : Sim A j T' U') : Sim A j (T ++ T') (U ++ U') := by
  induction h with
  | nil => exact h'
  | l t T U hd _ ih => exact .l t _ _ hd ih
  | r t T U hd _ ih => exact .r t _ _ hd ih
  | b t T U _ ih => exact .b t _ _ ih
theorem Sim.deadL {A : Nat → Nat → Ac} {j : Nat} : ∀ (D : List Th), (∀ u ∈ D, ¬ Rch A u.1 j) → Sim A j D []
  | [], _ => .nil
  | t :: D, h => .l t _ _ (h t List.mem_cons_self) (Sim.deadL D (fun u hu => h u (List.mem_cons_of_mem _ hu)))
theorem Sim.deadR {A : Nat → Nat → Ac} {j : Nat} : ∀ (D : List Th), (∀ u ∈ D, ¬ Rch A u.1 j) → Sim A j [] D
  | [], _ => .nil
  | t :: D, h => .r t _ _ (h t List.mem_cons_self) (Sim.deadR D (fun u hu => h u (List.mem_cons_of_mem _ hu)))
/-- two visits of one place that are the same in what leads to a match -/
structure Rho (A : Nat → Nat → Ac) (j : Nat) (s t : Vst) : Prop where
  over : s.over = t.over
  found : s.over = true → s.found = t.found
  met : ∀ k, Rch A k j → (k ∈ s.met ↔ k ∈ t.met)
  next : Sim A (j + 1) s.next t.next
theorem Rho.left {A : Nat → Nat → Ac} {j : Nat} {s s' t : Vst} (h : Rho A j s t) (d : Dead A j s s') : Rho A j s' t := by
  obtain ⟨D, hD, hD'⟩ := d.next
  refine ⟨d.over.trans h.over, fun ho => d.found.trans (h.found (d.over ▸ ho)), fun k hk => (d.met k hk).trans (h.met k hk), ?_⟩
  rw [hD]
  have := h.next.append (Sim.deadL D hD')
  simpa using this
theorem Rho.right {A : Nat → Nat → Ac} {j : Nat} {s t t' : Vst} (h : Rho A j s t) (d : Dead A j t t') : Rho A j s t' := by
  obtain ⟨D, hD, hD'⟩ := d.next
  refine ⟨h.over.trans d.over.symm, fun ho => (h.found ho).trans d.found.symm, fun k hk => (h.met k hk).trans (d.met k hk).symm, ?_⟩
  rw [hD]
  have := h.next.append (Sim.deadR D hD')
  simpa using this
theorem Rho.mark {A : Nat → Nat → Ac} {j : Nat} {s t : Vst} (h : Rho A j s t) (i : Nat) : Rho A j (s.mark i) (t.mark i) := by
  refine ⟨h.over, h.found, fun k hk => ?_, h.next⟩
  simp only [Vst.mark, List.mem_append, List.mem_singleton]
  rw [h.met k hk]
theorem vis_rho {A : Nat → Nat → Ac} {j : Nat} : ∀ (f i : Nat) (c : List Int) (s t : Vst), Rho A j s t → Rho A j (vis (A j) j f i c s) (vis (A j) j f i c t) := by
  intro f
  induction f with
  | zero => intro i c s t h; exact h
  | succ f ih =>
    intro i c s t h
    by_cases hr : Rch A i j
    · have hm := h.met i hr
      have ho := h.over
      have e : (s.over || s.met.contains i) = (t.over || t.met.contains i) := by
        rw [ho]
        congr 1
        rw [Bool.eq_iff_iff]
        simpa using hm
      unfold vis
      rw [e]
      split
      · exact h
      · have h1 := h.mark i
        split
        · exact ih _ _ _ _ (ih _ _ _ _ h1)
        · exact ih _ _ _ _ h1
        · exact ih _ _ _ _ h1
        · exact ⟨h1.over, h1.found, h1.met, h1.next.append (.b _ _ _ .nil)⟩
        · exact ⟨rfl, fun _ => rfl, h1.met, h1.next⟩
        · exact h1
    · exact (h.left (vis_dead _ _ _ _ hr)).right (vis_dead _ _ _ _ hr)
theorem vall_rho {A : Nat → Nat → Ac} {j f : Nat} {T U : List Th} (hS : Sim A j T U) : ∀ (s t : Vst), Rho A j s t → Rho A j (vall (A j) j f T s) (vall (A j) j f U t) := by
  induction hS with
  | nil => intro s t h; exact h
  | l u T U hd _ ih => intro s t h; rw [vall_cons]; exact ih _ _ (h.left (vis_dead _ _ _ _ hd))
  | r u T U hd _ ih => intro s t h; rw [vall_cons]; exact ih _ _ (h.right (vis_dead _ _ _ _ hd))
  | b u T U _ ih => intro s t h; rw [vall_cons, vall_cons]; exact ih _ _ (vis_rho _ _ _ _ _ h)
/-- an anchored run's threads and found beside those of one that is not -/
def Beside (A : Nat → Nat → Ac) (j : Nat) (TA TU : List Th) (fa fu : Fd) : Prop :=
  ∃ U X, TU = U ++ X ∧ Sim A j TA U ∧ (fa.isSome = true → X = [] ∧ fu = fa)
theorem place_beside {P : Pr} {a b j : Nat} {TA TU : List Th} {fa fu : Fd} (hj : b < j) (ha : a ≤ b) (h : Beside P.A j TA TU fa fu) :
    Beside P.A (j + 1) (place P b true j TA fa).next (place P a false j TU fu).next (place P b true j TA fa).found (place P a false j TU fu).found := by
  obtain ⟨U, X, rfl, hS, hF⟩ := h
  have h0 : Rho P.A j (newV fa) (newV fu) := ⟨rfl, fun h => by simp [newV] at h, fun k _ => by simp [newV], .nil⟩
  have h1 := vall_rho (f := P.n + 1) hS _ _ h0
  have e1 : place P b true j TA fa = vall (P.A j) j (P.n + 1) TA (newV fa) := by
    unfold place
    have : bgB b true j fa = false := by simp [bgB]; omega
    rw [this]; simp
  obtain ⟨t', e2, ht'⟩ : ∃ t', place P a false j (U ++ X) fu = t' ∧ Grow (vall (P.A j) j (P.n + 1) U (newV fu)) t' ∧ ((vall (P.A j) j (P.n + 1) U (newV fu)).over = true ∨ fa.isSome = true → t' = vall (P.A j) j (P.n + 1) U (newV fu)) := by
    refine ⟨_, rfl, ?_, ?_⟩
    · unfold place
      dsimp only
      rw [vall_append]
      split
      · exact (vall_grow X _).trans (vis_grow _ _ _ _)
      · exact vall_grow X _
    · rintro (ho | hs)
      · unfold place
        dsimp only
        rw [vall_append, vall_over X ho, vis_over ho]
        simp
      · obtain ⟨rfl, rfl⟩ := hF hs
        unfold place
        have : bgB a false j fu = false := by
          have : fu.isNone = false := by cases fu <;> simp_all
          simp [bgB, this]; omega
        rw [this]; simp
  rw [e1, e2]
  generalize hs : vall (P.A j) j (P.n + 1) TA (newV fa) = s at h1 ⊢
  generalize ht : vall (P.A j) j (P.n + 1) U (newV fu) = t at h1 ht' ⊢
  have gs : Grow (newV fa) s := hs ▸ vall_grow TA _
  have gt : Grow (newV fu) t := ht ▸ vall_grow U _
  obtain ⟨g1, g2⟩ := ht'
  by_cases ho : t.over = true
  · rw [g2 (.inl ho)]
    exact ⟨t.next, [], by simp, h1.next, fun _ => ⟨rfl, (h1.found (h1.over.trans ho)).symm⟩⟩
  · have hto : t.over = false := by simpa using ho
    have hso : s.over = false := h1.over.trans hto
    have hsf : s.found = fa := (gs.found hso).1
    by_cases hs' : fa.isSome = true
    · rw [g2 (.inr hs')]
      exact ⟨t.next, [], by simp, h1.next, fun _ => ⟨rfl, by rw [(gt.found hto).1, hsf]; exact (hF hs').2⟩⟩
    · obtain ⟨x, hx⟩ := g1.next
      exact ⟨t.next, x, hx, h1.next, fun h => absurd (hsf ▸ h) hs'⟩
theorem itr_beside {P : Pr} {a b : Nat} (ha : a ≤ b) : ∀ (m j : Nat) (TA TU : List Th) (fa fu : Fd), b < j → Beside P.A j TA TU fa fu → ((itr P b true m j TA fa).2.isSome = true → (itr P a false m j TU fu).2 = (itr P b true m j TA fa).2) := by
  intro m
  induction m with
  | zero =>
    intro j TA TU fa fu _ h hs
    obtain ⟨U, X, _, _, hF⟩ := h
    exact (hF hs).2
  | succ m ih =>
    intro j TA TU fa fu hj h hs
    exact ih _ _ _ _ _ (by omega) (place_beside hj ha h) hs
theorem itr_add (P : Pr) (a : Nat) (anch : Bool) : ∀ (m k j : Nat) (T : List Th) (fd : Fd), itr P a anch (m + k) j T fd = itr P a anch k (j + m) (itr P a anch m j T fd).1 (itr P a anch m j T fd).2 := by
  intro m
  induction m with
  | zero => intro k j T fd; simp [itr]
  | succ m ih =>
    intro k j T fd
    rw [show m + 1 + k = (m + k) + 1 by omega]
    simp only [itr]
    rw [ih]
    rw [show j + 1 + m = j + (m + 1) by omega]
/-- where nothing leads to a match nothing is found -/
theorem itr_dead {P : Pr} {a : Nat} {anch : Bool} : ∀ (m j : Nat) (T : List Th), (∀ t ∈ T, ¬ Rch P.A t.1 j) → (∀ b, j ≤ b → b < j + m → (b = a ∨ anch = false) → ¬ Rch P.A P.S b) →
    (itr P a anch m j T none).2 = none ∧ ∀ t ∈ (itr P a anch m j T none).1, ¬ Rch P.A t.1 (j + m) := by
  intro m
  induction m with
  | zero => intro j T h _; exact ⟨rfl, h⟩
  | succ m ih =>
    intro j T h hb
    have hd : Dead P.A j (newV none) (place P a anch j T none) := by
      unfold place
      dsimp only
      have h1 := vall_dead (f := P.n + 1) T (newV none) h
      split
      · rename_i hbeg
        refine h1.trans (vis_dead _ _ _ _ (hb j (Nat.le_refl _) (by omega) ?_))
        simp [bgB] at hbeg
        exact hbeg
      · exact h1
    obtain ⟨D, hD, hD'⟩ := hd.next
    have hf : (place P a anch j T none).found = none := hd.found
    simp only [itr]
    rw [hf]
    have := ih (j + 1) (place P a anch j T none).next (fun t ht => hD' t (by rw [hD] at ht; simpa [newV] using ht)) (fun b h1 h2 => hb b (by omega) (by omega))
    rw [show j + (m + 1) = j + 1 + m by omega]
    exact this
/-- what was visited is closed -/
def Shut (A : Nat → Nat → Ac) (j : Nat) (s : Vst) (k : Nat) : Prop :=
  match A j k with
  | .alt x y => x ∈ s.met ∧ y ∈ s.met
  | .go x => x ∈ s.met
  | .cap x _ => x ∈ s.met
  | .rune x => ∃ c, (x, c) ∈ s.next
  | .fit _ => False
  | .stop => True
theorem Shut.grow {A : Nat → Nat → Ac} {j k : Nat} {s t : Vst} (h : Shut A j s k) (g : Grow s t) : Shut A j t k := by
  obtain ⟨m, hm⟩ := g.met
  obtain ⟨x, hx⟩ := g.next
  unfold Shut at h ⊢
  split <;> rename_i e <;> rw [e] at h <;> simp only at h
  · rw [hm]; exact ⟨List.mem_append_left _ h.1, List.mem_append_left _ h.2⟩
  · rw [hm]; exact List.mem_append_left _ h
  · rw [hm]; exact List.mem_append_left _ h
  · obtain ⟨c, hc⟩ := h
    exact ⟨c, by rw [hx]; exact List.mem_append_left _ hc⟩
  · trivial
theorem vis_shut {A : Nat → Nat → Ac} {j n K : Nat} (hA : ∀ i, i < n → (A j i).ok n) : ∀ (f i : Nat) (c : List Int) (s : Vst), i < n → c.length = K → Inv n K s → n < f + s.met.length → (vis (A j) j f i c s).over = false →
    i ∈ (vis (A j) j f i c s).met ∧ ∀ k ∈ (vis (A j) j f i c s).met, k ∈ s.met ∨ Shut A j (vis (A j) j f i c s) k := by
  intro f
  induction f with
  | zero => intro i c s hi hc h hf ho; have := h.small; omega
  | succ f ih =>
    intro i c s hi hc h hf ho
    unfold vis at ho ⊢
    split at ho
    · rename_i hm
      rw [if_pos hm]
      have hso : s.over = false := ho
      rw [hso] at hm
      simp at hm
      exact ⟨hm, fun k hk => .inl hk⟩
    · rename_i hm
      rw [if_neg hm]
      obtain ⟨hso, hm⟩ := not_met hm
      have h1 := h.mark hi hm
      have hok := hA i hi
      have hl1 : (s.mark i).met.length = s.met.length + 1 := by simp [Vst.mark]
      have hi1 : i ∈ (s.mark i).met := by simp [Vst.mark]
      split at ho
      · rename_i x y e
        rw [e] at hok
        have hiv := vis_inv (j := j) hA f x c _ hok.1 hc h1
        have g2 := vis_grow (A := A j) (j := j) f y c (vis (A j) j f x c (s.mark i))
        have g1 := vis_grow (A := A j) (j := j) f x c (s.mark i)
        have hox := (g2.found ho).2
        obtain ⟨m1, hm1⟩ := g1.met
        obtain ⟨m2, hm2⟩ := g2.met
        obtain ⟨p1, p2⟩ := ih x c (s.mark i) hok.1 hc h1 (by omega) hox
        obtain ⟨q1, q2⟩ := ih y c _ hok.2 hc hiv (by rw [hm1]; simp; omega) ho
        refine ⟨by rw [hm2, hm1]; exact List.mem_append_left _ (List.mem_append_left _ hi1), fun k hk => ?_⟩
        rcases q2 k hk with hk | hk
        · rcases p2 k hk with hk | hk
          · simp only [Vst.mark, List.mem_append, List.mem_singleton] at hk
            rcases hk with hk | rfl
            · exact .inl hk
            · right
              unfold Shut
              rw [e]
              exact ⟨by rw [hm2]; exact List.mem_append_left _ p1, q1⟩
          · exact .inr (hk.grow g2)
        · exact .inr hk
      · rename_i x e
        rw [e] at hok
        have g1 := vis_grow (A := A j) (j := j) f x c (s.mark i)
        obtain ⟨m1, hm1⟩ := g1.met
        obtain ⟨p1, p2⟩ := ih x c (s.mark i) hok hc h1 (by omega) ho
        refine ⟨by rw [hm1]; exact List.mem_append_left _ hi1, fun k hk => ?_⟩
        rcases p2 k hk with hk | hk
        · simp only [Vst.mark, List.mem_append, List.mem_singleton] at hk
          rcases hk with hk | rfl
          · exact .inl hk
          · right; unfold Shut; rw [e]; exact p1
        · exact .inr hk
      · rename_i x a e
        rw [e] at hok
        have g1 := vis_grow (A := A j) (j := j) f x (c.set a (j : Int)) (s.mark i)
        obtain ⟨m1, hm1⟩ := g1.met
        obtain ⟨p1, p2⟩ := ih x (c.set a (j : Int)) (s.mark i) hok (by simpa using hc) h1 (by omega) ho
        refine ⟨by rw [hm1]; exact List.mem_append_left _ hi1, fun k hk => ?_⟩
        rcases p2 k hk with hk | hk
        · simp only [Vst.mark, List.mem_append, List.mem_singleton] at hk
          rcases hk with hk | rfl
          · exact .inl hk
          · right; unfold Shut; rw [e]; exact p1
        · exact .inr hk
      · rename_i x e
        refine ⟨hi1, fun k hk => ?_⟩
        simp only [Vst.mark, List.mem_append, List.mem_singleton] at hk
        rcases hk with hk | rfl
        · exact .inl hk
        · right; unfold Shut; rw [e]; exact ⟨c, by simp⟩
      · simp at ho
      · rename_i e
        refine ⟨hi1, fun k hk => ?_⟩
        simp only [Vst.mark, List.mem_append, List.mem_singleton] at hk
        rcases hk with hk | rfl
        · exact .inl hk
        · right; unfold Shut; rw [e]; trivial
theorem vall_shut {A : Nat → Nat → Ac} {j n K f : Nat} (hA : ∀ i, i < n → (A j i).ok n) (hf : n < f) : ∀ (T : List Th) (s : Vst), (∀ t ∈ T, t.1 < n ∧ t.2.length = K) → Inv n K s → (vall (A j) j f T s).over = false →
    (∀ t ∈ T, t.1 ∈ (vall (A j) j f T s).met) ∧ ∀ k ∈ (vall (A j) j f T s).met, k ∈ s.met ∨ Shut A j (vall (A j) j f T s) k := by
  intro T
  induction T with
  | nil => intro s _ _ _; exact ⟨by simp, fun k hk => .inl hk⟩
  | cons t T ih =>
    intro s hT h ho
    rw [vall_cons] at ho ⊢
    have ht := hT t List.mem_cons_self
    have g := vall_grow (A := A j) (j := j) (f := f) T (vis (A j) j f t.1 t.2 s)
    obtain ⟨m, hm⟩ := g.met
    obtain ⟨p1, p2⟩ := vis_shut hA f t.1 t.2 s ht.1 ht.2 h (by omega) (g.found ho).2
    obtain ⟨q1, q2⟩ := ih _ (fun u hu => hT u (List.mem_cons_of_mem _ hu)) (vis_inv hA f t.1 t.2 s ht.1 ht.2 h) ho
    refine ⟨fun u hu => ?_, fun k hk => ?_⟩
    · rcases List.mem_cons.1 hu with rfl | hu
      · rw [hm]; exact List.mem_append_left _ p1
      · exact q1 u hu
    · rcases q2 k hk with hk | hk
      · rcases p2 k hk with hk | hk
        · exact .inl hk
        · exact .inr (hk.grow g)
      · exact .inr hk
/-- where a place finds no match: all threads, and the one that begins, are met, and what is met is shut -/
theorem place_shut {P : Pr} (hP : P.Ok) {a j : Nat} {anch : Bool} {T : List Th} {fd : Fd} (hT : ∀ t ∈ T, t.1 < P.n ∧ t.2.length = P.K) (hfd : ∀ y, fd = some y → y.2.length = P.K) (ho : (place P a anch j T fd).over = false) :
    (∀ t ∈ T, t.1 ∈ (place P a anch j T fd).met) ∧ (bgB a anch j fd = true → P.S ∈ (place P a anch j T fd).met) ∧ ∀ k ∈ (place P a anch j T fd).met, Shut P.A j (place P a anch j T fd) k := by
  have hi := vall_inv (j := j) (f := P.n + 1) (hP.ok j) T (newV fd) hT (new_inv P.n P.K fd hfd)
  unfold place at ho ⊢
  dsimp only at ho ⊢
  split at ho
  · rename_i hb
    rw [if_pos hb]
    have g := vis_grow (A := P.A j) (j := j) (P.n + 1) P.S (List.replicate P.K (-1)) (vall (P.A j) j (P.n + 1) T (newV fd))
    obtain ⟨m, hm⟩ := g.met
    obtain ⟨p1, p2⟩ := vall_shut (hP.ok j) (Nat.lt_succ_self _) T (newV fd) hT (new_inv P.n P.K fd hfd) (g.found ho).2
    obtain ⟨q1, q2⟩ := vis_shut (hP.ok j) _ _ _ _ hP.S (by simp) hi (by omega) ho
    refine ⟨fun t ht => by rw [hm]; exact List.mem_append_left _ (p1 t ht), fun _ => q1, fun k hk => ?_⟩
    rcases q2 k hk with hk | hk
    · rcases p2 k hk with hk | hk
      · simp [newV] at hk
      · exact hk.grow g
    · exact hk
  · rename_i hb
    rw [if_neg hb]
    obtain ⟨p1, p2⟩ := vall_shut (hP.ok j) (Nat.lt_succ_self _) T (newV fd) hT (new_inv P.n P.K fd hfd) ho
    refine ⟨p1, fun h => absurd h hb, fun k hk => ?_⟩
    rcases p2 k hk with hk | hk
    · simp [newV] at hk
    · exact hk
theorem shut_dead {A : Nat → Nat → Ac} {j : Nat} {s : Vst} (hs : ∀ k ∈ s.met, Shut A j s k) (hn : ∀ t ∈ s.next, ¬ Rch A t.1 (j + 1)) : ∀ {i j' : Nat}, Rch A i j' → j' = j → i ∉ s.met := by
  intro i j' h
  induction h with
  | fit a e => intro hj hm; subst hj; have := hs _ hm; unfold Shut at this; rw [e] at this; exact this
  | altx x y e _ ih => intro hj hm; subst hj; have := hs _ hm; unfold Shut at this; rw [e] at this; exact ih rfl this.1
  | alty x y e _ ih => intro hj hm; subst hj; have := hs _ hm; unfold Shut at this; rw [e] at this; exact ih rfl this.2
  | go x e _ ih => intro hj hm; subst hj; have := hs _ hm; unfold Shut at this; rw [e] at this; exact ih rfl this
  | cap x a e _ ih => intro hj hm; subst hj; have := hs _ hm; unfold Shut at this; rw [e] at this; exact ih rfl this
  | rune x e hr ih =>
    intro hj hm
    subst hj
    have := hs _ hm
    unfold Shut at this
    rw [e] at this
    obtain ⟨c, hc⟩ := this
    exact hn _ hc hr
theorem itr_some {P : Pr} {a : Nat} {anch : Bool} : ∀ (m j : Nat) (T : List Th) (fd : Fd), fd.isSome = true → (itr P a anch m j T fd).2.isSome = true := by
  intro m
  induction m with
  | zero => intro j T fd h; exact h
  | succ m ih => intro j T fd h; exact ih _ _ _ ((place_grow P a j anch T fd).some h)
theorem over_found {A : Nat → Ac} {j : Nat} : ∀ (f i : Nat) (c : List Int) (s : Vst), (s.over = true → s.found.isSome = true) → (vis A j f i c s).over = true → (vis A j f i c s).found.isSome = true := by
  intro f
  induction f with
  | zero => intro i c s h; exact h
  | succ f ih =>
    intro i c s h
    unfold vis
    split
    · exact h
    · split
      · exact ih _ _ _ (ih _ _ _ h)
      · exact ih _ _ _ h
      · exact ih _ _ _ h
      · exact h
      · intro _; rfl
      · exact h
theorem vall_over_found {A : Nat → Ac} {j f : Nat} : ∀ (T : List Th) (s : Vst), (s.over = true → s.found.isSome = true) → (vall A j f T s).over = true → (vall A j f T s).found.isSome = true := by
  intro T
  induction T with
  | nil => intro s h; exact h
  | cons t T ih => intro s h; rw [vall_cons]; exact ih _ (over_found _ _ _ _ h)
theorem place_over {P : Pr} {a j : Nat} {anch : Bool} {T : List Th} {fd : Fd} (h : (place P a anch j T fd).found = none) : (place P a anch j T fd).over = false := by
  cases ho : (place P a anch j T fd).over
  · rfl
  · exfalso
    have : (place P a anch j T fd).found.isSome = true := by
      unfold place at ho ⊢
      dsimp only at ho ⊢
      have h0 := vall_over_found (A := P.A j) (j := j) (f := P.n + 1) T (newV fd) (fun h => by simp [newV] at h)
      split at ho
      · rename_i hb
        rw [if_pos hb]
        exact over_found _ _ _ _ h0 ho
      · rename_i hb
        rw [if_neg hb]
        exact h0 ho
    rw [h] at this
    cases this
/-- where nothing is found nothing leads to a match -/
theorem itr_none {P : Pr} (hP : P.Ok) {a len : Nat} {anch : Bool} (hlen : ∀ i x, P.A len i ≠ .rune x) : ∀ (m j : Nat) (T : List Th), j + m = len + 1 → (m = 0 → T = []) → (∀ t ∈ T, t.1 < P.n ∧ t.2.length = P.K) → (itr P a anch m j T none).2 = none →
    (∀ t ∈ T, ¬ Rch P.A t.1 j) ∧ ∀ b, j ≤ b → b ≤ len → (b = a ∨ anch = false) → ¬ Rch P.A P.S b := by
  intro m
  induction m with
  | zero => intro j T hj h0 _ _; exact ⟨by rw [h0 rfl]; simp, fun b h1 h2 => by omega⟩
  | succ m ih =>
    intro j T hj _ hT hn
    have hiv := place_inv hP (a := a) (j := j) (anch := anch) (fd := none) hT (by simp)
    simp only [itr] at hn
    have hf : (place P a anch j T none).found = none := by
      cases hf : (place P a anch j T none).found
      · rfl
      · have := itr_some (P := P) (a := a) (anch := anch) m (j + 1) (place P a anch j T none).next (place P a anch j T none).found (by rw [hf]; rfl)
        rw [hn] at this
        cases this
    have ho := place_over hf
    obtain ⟨p1, p2, p3⟩ := place_shut hP hT (by simp) ho
    rw [hf] at hn
    have hm0 : m = 0 → (place P a anch j T none).next = [] := fun e => by
      subst e
      obtain rfl : j = len := by omega
      cases hx : (place P a anch j T none).next with
      | nil => rfl
      | cons t X =>
        exfalso
        have : ∀ (f i : Nat) (c : List Int) (s : Vst), s.next = [] → (vis (P.A j) j f i c s).next = [] := by
          intro f
          induction f with
          | zero => intro i c s h; exact h
          | succ f ihf =>
            intro i c s h
            unfold vis
            split
            · exact h
            · split
              · exact ihf _ _ _ (ihf _ _ _ h)
              · exact ihf _ _ _ h
              · exact ihf _ _ _ h
              · rename_i x e; exact absurd e (hlen _ _)
              · exact h
              · exact h
        have h2 : ∀ (T : List Th) (s : Vst), s.next = [] → (vall (P.A j) j (P.n + 1) T s).next = [] := by
          intro T
          induction T with
          | nil => intro s h; exact h
          | cons t T iht => intro s h; rw [vall_cons]; exact iht _ (this _ _ _ _ h)
        have h3 : (place P a anch j T none).next = [] := by
          unfold place
          dsimp only
          split
          · exact this _ _ _ _ (h2 _ _ rfl)
          · exact h2 _ _ rfl
        rw [h3] at hx
        cases hx
    obtain ⟨q1, q2⟩ := ih (j + 1) (place P a anch j T none).next (by omega) hm0 hiv.nx hn
    have hdead : ∀ {i : Nat}, i ∈ (place P a anch j T none).met → ¬ Rch P.A i j := fun hm hr => shut_dead p3 q1 hr rfl hm
    refine ⟨fun t ht => hdead (p1 t ht), fun b h1 h2 h3 => ?_⟩
    by_cases e : b = j
    · subst e
      refine hdead (p2 ?_)
      simp [bgB]
      exact h3
    · exact q2 b (by omega) h2 h3
theorem place_nil {P : Pr} {a j : Nat} {anch : Bool} {fd : Fd} (hj : j ≠ a) (h : (fd.isSome || anch) = true) : place P a anch j [] fd = newV fd := by
  have : bgB a anch j fd = false := by
    cases fd <;> simp_all [bgB]
  unfold place
  rw [this]
  rfl
theorem itr_nil {P : Pr} {a : Nat} {anch : Bool} {fd : Fd} (h : (fd.isSome || anch) = true) : ∀ (m j : Nat), a < j → (itr P a anch m j [] fd).2 = fd := by
  intro m
  induction m with
  | zero => intro j _; rfl
  | succ m ih =>
    intro j hj
    simp only [itr]
    rw [place_nil (by omega) h]
    exact ih (j + 1) (by omega)
theorem lock_itr (P : Pr) (a : Nat) (anch : Bool) : ∀ (m j : Nat) (T : List Th) (fd : Fd) (st : Nat), a ≤ j → (lock P a anch m j T fd st).1 = (itr P a anch m j T fd).2 := by
  intro m
  induction m with
  | zero => intro j T fd st _; rfl
  | succ m ih =>
    intro j T fd st hj
    simp only [lock, itr]
    split
    · rename_i h
      simp only [Bool.or_eq_true, Bool.and_eq_true, decide_eq_true_eq] at h
      rcases h with rfl | ⟨h1, h2⟩
      · rfl
      · rw [List.isEmpty_iff.1 h1, itr_nil (by simpa using h2) m (j + 1) (by omega)]
    · exact ih _ _ _ _ (by omega)
/-- the run of a program -/
def lockRun (P : Pr) (len a : Nat) (anch : Bool) : Fd × Nat := lock P a anch (len - a + 1) a [] none 0
/-- something is found just if a match can be come to -/
theorem lock_reach {P : Pr} (hP : P.Ok) {len a : Nat} {anch : Bool} (hlen : ∀ i x, P.A len i ≠ .rune x) (ha : a ≤ len) : (lockRun P len a anch).1.isSome = true ↔ ∃ b, a ≤ b ∧ b ≤ len ∧ (b = a ∨ anch = false) ∧ Rch P.A P.S b := by
  unfold lockRun
  rw [lock_itr P a anch _ _ _ _ _ (Nat.le_refl _)]
  constructor
  · intro h
    refine Classical.byContradiction fun hn => ?_
    have := (itr_dead (P := P) (a := a) (anch := anch) (len - a + 1) a [] (by simp) (fun b h1 h2 h3 h4 => hn ⟨b, h1, by omega, h3, h4⟩)).1
    rw [this] at h
    cases h
  · rintro ⟨b, h1, h2, h3, h4⟩
    cases hf : (itr P a anch (len - a + 1) a [] none).2 with
    | some y => rfl
    | none =>
      exfalso
      exact (itr_none hP hlen (len - a + 1) a [] (by omega) (fun h => rfl) (by simp) hf).2 b h1 h2 h3 h4
/-- not anchored it finds what the least anchored one finds that finds something -/
theorem lock_least {P : Pr} (hP : P.Ok) {len a b : Nat} (hlen : ∀ i x, P.A len i ≠ .rune x) (ha : a ≤ b) (hb : b ≤ len) (hl : ∀ k, a ≤ k → k < b → (lockRun P len k true).1 = none) (hs : (lockRun P len b true).1.isSome = true) :
    (lockRun P len a false).1 = (lockRun P len b true).1 := by
  have hd : ∀ k, a ≤ k → k < b → ¬ Rch P.A P.S k := fun k h1 h2 hr => by
    have := (lock_reach hP hlen (a := k) (anch := true) (by omega)).2 ⟨k, Nat.le_refl _, by omega, .inl rfl, hr⟩
    rw [hl k h1 h2] at this
    cases this
  unfold lockRun at hs ⊢
  rw [lock_itr P a false _ _ _ _ _ (Nat.le_refl _), lock_itr P b true _ _ _ _ _ (Nat.le_refl _)]
  rw [lock_itr P b true _ _ _ _ _ (Nat.le_refl _)] at hs
  obtain ⟨d1, d2⟩ := itr_dead (P := P) (a := a) (anch := false) (b - a) a [] (by simp) (fun k h1 h2 _ => hd k h1 (by omega))
  rw [show len - a + 1 = (b - a) + (len - b + 1) by omega, itr_add, d1]
  rw [show a + (b - a) = b by omega] at d2 ⊢
  generalize (itr P a false (b - a) a [] none).1 = TU at d2 ⊢
  simp only [itr] at hs ⊢
  refine itr_beside ha _ _ _ _ _ _ (Nat.lt_succ_self _) ?_ hs
  have e1 : place P b true b [] none = vis (P.A b) b (P.n + 1) P.S (List.replicate P.K (-1)) (newV none) := by
    unfold place; simp [bgB, vall]
  have e2 : place P a false b TU none = vis (P.A b) b (P.n + 1) P.S (List.replicate P.K (-1)) (vall (P.A b) b (P.n + 1) TU (newV none)) := by
    unfold place; simp [bgB]
  rw [e1, e2]
  have h0 : Rho P.A b (newV none) (newV none) := ⟨rfl, fun h => by simp [newV] at h, fun k _ => Iff.rfl, .nil⟩
  have h1 := vis_rho (P.n + 1) P.S (List.replicate P.K (-1)) _ _ (h0.right (vall_dead (f := P.n + 1) TU (newV none) d2))
  refine ⟨_, [], by simp, h1.next, fun hs => ⟨rfl, ?_⟩⟩
  cases ho : (vis (P.A b) b (P.n + 1) P.S (List.replicate P.K (-1)) (newV none)).over
  · have g := vis_grow (A := P.A b) (j := b) (P.n + 1) P.S (List.replicate P.K (-1)) (newV none)
    rw [(g.found ho).1] at hs
    simp [newV] at hs
  · exact (h1.found ho).symm
/-- steps -/
theorem lock_steps {P : Pr} (hP : P.Ok) (a : Nat) (anch : Bool) : ∀ (m j : Nat) (T : List Th) (fd : Fd) (st : Nat), (∀ t ∈ T, t.1 < P.n ∧ t.2.length = P.K) → (∀ y, fd = some y → y.2.length = P.K) → st ≤ (lock P a anch m j T fd st).2 ∧ (lock P a anch m j T fd st).2 ≤ st + P.n * m ∧ ∀ y, (lock P a anch m j T fd st).1 = some y → y.2.length = P.K := by
  intro m
  induction m with
  | zero => intro j T fd st _ hf; exact ⟨Nat.le_refl _, by simp [lock], hf⟩
  | succ m ih =>
    intro j T fd st hT hf
    have hi := place_inv hP (a := a) (j := j) (anch := anch) hT hf
    have hs := hi.small
    have hmul : P.n * (m + 1) = P.n * m + P.n := by rw [Nat.mul_succ]
    simp only [lock]
    split
    · exact ⟨by omega, by omega, hi.fd⟩
    · obtain ⟨h1, h2, h3⟩ := ih (j + 1) (place P a anch j T fd).next (place P a anch j T fd).found (st + (place P a anch j T fd).met.length) hi.nx hi.fd
      exact ⟨by omega, by omega, h3⟩
theorem vis_first {A : Nat → Ac} {j f i : Nat} {c : List Int} {fd : Fd} : 1 ≤ (vis A j (f + 1) i c (newV fd)).met.length := by
  unfold vis
  split
  · rename_i h; simp [newV] at h
  · have h1 : ∀ t, Grow ((newV fd).mark i) t → 1 ≤ t.met.length := fun t g => by
      obtain ⟨m, hm⟩ := g.met
      rw [hm]; simp [Vst.mark, newV]
    split
    · exact h1 _ ((vis_grow _ _ _ _).trans (vis_grow _ _ _ _))
    · exact h1 _ (vis_grow _ _ _ _)
    · exact h1 _ (vis_grow _ _ _ _)
    · simp [Vst.mark, newV]
    · simp [Vst.mark, newV]
    · simp [Vst.mark, newV]
theorem lockRun_steps {P : Pr} (hP : P.Ok) (len a : Nat) (anch : Bool) : 1 ≤ (lockRun P len a anch).2 ∧ (lockRun P len a anch).2 ≤ P.n * (len - a + 1) ∧ ∀ y, (lockRun P len a anch).1 = some y → y.2.length = P.K := by
  have h := lock_steps hP a anch (len - a + 1) a [] none 0 (by simp) (by simp)
  unfold lockRun
  refine ⟨?_, by have := h.2.1; omega, h.2.2⟩
  simp only [lock]
  have hp : 1 ≤ (place P a anch a [] none).met.length := by
    unfold place
    simp only [bgB, vall, List.foldl_nil, decide_true, Bool.true_or, if_true]
    exact vis_first
  have hi := place_inv hP (a := a) (j := a) (anch := anch) (T := []) (fd := none) (by simp) (by simp)
  split
  · simp only; omega
  · have := (lock_steps hP a anch (len - a) (a + 1) (place P a anch a [] none).next (place P a anch a [] none).found (0 + (place P a anch a [] none).met.length) hi.nx hi.fd).1
    omega
end Go.Proofs.Ytodpmmlfdkdemaa
