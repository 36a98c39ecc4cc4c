/- HELPERS: what one law asks of runs from a place, in plain words. -/
/- HELPERS: lock step in plain words. -/
namespace Go.Proofs.YtpckbpimgoljoaaGreat
set_option linter.unusedVariables false
set_option linter.unusedSimpArgs false
/-- what an instruction does at a place -/
inductive Ac where
  | alt (x y : Nat)
  | go (x : Nat)
  | cap (x a : Nat)
  | rune (x : Nat)
  | fit (a : Int)
  | stop
abbrev Th := Nat × List Int
abbrev Fd := Option (Int × List Int)
/-- what there is while a place is visited -/
structure Vst where
  met : List Nat
  next : List Th
  found : Fd
  over : Bool
def Vst.mark (s : Vst) (i : Nat) : Vst := { s with met := s.met ++ [i] }
def vis (A : Nat → Ac) (j : Nat) : Nat → Nat → List Int → Vst → Vst
  | 0, _, _, s => s
  | f + 1, i, c, s =>
    if (s.over || s.met.contains i) = true then s else
    match A i with
    | .alt x y => vis A j f y c (vis A j f x c (s.mark i))
    | .go x => vis A j f x c (s.mark i)
    | .cap x a => vis A j f x (c.set a (j : Int)) (s.mark i)
    | .rune x => { s.mark i with next := s.next ++ [(x, c)] }
    | .fit a => { s.mark i with found := some (a, c), over := true }
    | .stop => s.mark i
def vall (A : Nat → Ac) (j f : Nat) (T : List Th) (s : Vst) : Vst := T.foldl (fun s t => vis A j f t.1 t.2 s) s
def newV (fd : Fd) : Vst := ⟨[], [], fd, false⟩
/-- a program over a text -/
structure Pr where
  A : Nat → Nat → Ac
  n : Nat
  S : Nat
  K : Nat
def bgB (a : Nat) (anch : Bool) (j : Nat) (fd : Fd) : Bool := decide (j = a) || (!anch && fd.isNone)
def place (P : Pr) (a : Nat) (anch : Bool) (j : Nat) (T : List Th) (fd : Fd) : Vst :=
  let s := vall (P.A j) j (P.n + 1) T (newV fd)
  if bgB a anch j fd = true then vis (P.A j) j (P.n + 1) P.S (List.replicate P.K (-1)) s else s
/-- lock step: so many places are left, what is found, how many steps -/
def lock (P : Pr) (a : Nat) (anch : Bool) : Nat → Nat → List Th → Fd → Nat → Fd × Nat
  | 0, _, _, fd, st => (fd, st)
  | m + 1, j, T, fd, st =>
    let s := place P a anch j T fd
    if (decide (m = 0) || (s.next.isEmpty && (s.found.isSome || anch))) = true then (s.found, st + s.met.length)
    else lock P a anch m (j + 1) s.next s.found (st + s.met.length)
/-- the same with no early end -/
def itr (P : Pr) (a : Nat) (anch : Bool) : Nat → Nat → List Th → Fd → List Th × Fd
  | 0, _, T, fd => (T, fd)
  | m + 1, j, T, fd => itr P a anch m (j + 1) (place P a anch j T fd).next (place P a anch j T fd).found
theorem vis_over {A : Nat → Ac} {j f i : Nat} {c : List Int} {s : Vst} (h : s.over = true) : vis A j f i c s = s := by
  cases f with
  | zero => rfl
  | succ f => simp [vis, h]
theorem vall_cons (A : Nat → Ac) (j f : Nat) (t : Th) (T : List Th) (s : Vst) : vall A j f (t :: T) s = vall A j f T (vis A j f t.1 t.2 s) := rfl
/-- the program's instructions lead to instructions of it -/
def Ac.ok (n : Nat) : Ac → Prop
  | .alt x y => x < n ∧ y < n
  | .go x => x < n
  | .cap x _ => x < n
  | .rune x => x < n
  | .fit _ => True
  | .stop => True
structure Inv (n K : Nat) (s : Vst) : Prop where
  nd : s.met.Nodup
  lt : ∀ k ∈ s.met, k < n
  nx : ∀ t ∈ s.next, t.1 < n ∧ t.2.length = K
  le : s.next.length ≤ s.met.length
  fd : ∀ y, s.found = some y → y.2.length = K
theorem nodup_le {n : Nat} {l : List Nat} (h : l.Nodup) (hl : ∀ k ∈ l, k < n) : l.length ≤ n := by
  induction n generalizing l with
  | zero =>
    cases l with
    | nil => simp
    | cons a l => exact absurd (hl a List.mem_cons_self) (by omega)
  | succ n ih =>
    have h1 := ih (l := l.erase n) (h.erase n) (fun k hk => by
      have h2 := (List.Nodup.mem_erase_iff h).1 hk
      have := hl k h2.2
      have := h2.1
      omega)
    have := List.length_erase (a := n) (l := l)
    split at this <;> omega
theorem Inv.small {n K : Nat} {s : Vst} (h : Inv n K s) : s.met.length ≤ n := nodup_le h.nd h.lt
theorem Inv.mark {n K : Nat} {s : Vst} (h : Inv n K s) {i : Nat} (hi : i < n) (hm : i ∉ s.met) : Inv n K (s.mark i) := by
  refine ⟨?_, fun k hk => ?_, h.nx, ?_, h.fd⟩
  · simp only [Vst.mark]
    rw [List.nodup_append]
    refine ⟨h.nd, by simp, fun a ha b hb => ?_⟩
    simp at hb
    subst hb
    exact fun e => hm (e ▸ ha)
  · simp only [Vst.mark, List.mem_append, List.mem_singleton] at hk
    rcases hk with hk | rfl
    · exact h.lt k hk
    · exact hi
  · have := h.le
    simp only [Vst.mark, List.length_append, List.length_singleton]
    omega
theorem new_inv (n K : Nat) (fd : Fd) (hfd : ∀ y, fd = some y → y.2.length = K) : Inv n K (newV fd) := ⟨by simp [newV], by simp [newV], by simp [newV], by simp [newV], hfd⟩
theorem not_met {s : Vst} {i : Nat} (h : ¬ (s.over || s.met.contains i) = true) : s.over = false ∧ i ∉ s.met := by
  simp at h
  exact h
theorem vis_inv {A : Nat → Ac} {j n K : Nat} (hA : ∀ i, i < n → (A i).ok n) : ∀ (f i : Nat) (c : List Int) (s : Vst), i < n → c.length = K → Inv n K s → Inv n K (vis A j f i c s) := by
  intro f
  induction f with
  | zero => intro i c s _ _ h; exact h
  | succ f ih =>
    intro i c s hi hc h
    unfold vis
    split
    · exact h
    · rename_i hm
      obtain ⟨ho, hm⟩ := not_met hm
      have h1 := h.mark hi hm
      have hok := hA i hi
      split
      · rename_i x y e
        rw [e] at hok
        exact ih _ _ _ hok.2 hc (ih _ _ _ hok.1 hc h1)
      · rename_i x e
        rw [e] at hok
        exact ih _ _ _ hok hc h1
      · rename_i x a e
        rw [e] at hok
        exact ih _ _ _ hok (by simpa using hc) h1
      · rename_i x e
        rw [e] at hok
        refine ⟨h1.nd, h1.lt, fun t ht => ?_, ?_, h1.fd⟩
        · simp only [List.mem_append, List.mem_singleton] at ht
          rcases ht with ht | rfl
          · exact h.nx t ht
          · exact ⟨hok, hc⟩
        · have := h.le
          simp only [Vst.mark, List.length_append, List.length_singleton]
          omega
      · refine ⟨h1.nd, h1.lt, h1.nx, h1.le, fun y hy => ?_⟩
        simp only [Option.some.injEq] at hy
        subst hy
        exact hc
      · exact h1
theorem vall_inv {A : Nat → Ac} {j n K f : Nat} (hA : ∀ i, i < n → (A i).ok n) : ∀ (T : List Th) (s : Vst), (∀ t ∈ T, t.1 < n ∧ t.2.length = K) → Inv n K s → Inv n K (vall A j f T s) := by
  intro T
  induction T with
  | nil => intro s _ h; exact h
  | cons t T ih =>
    intro s hT h
    rw [vall_cons]
    exact ih _ (fun u hu => hT u (List.mem_cons_of_mem _ hu)) (vis_inv hA f t.1 t.2 s (hT t List.mem_cons_self).1 (hT t List.mem_cons_self).2 h)
structure Pr.Ok (P : Pr) : Prop where
  ok : ∀ j i, i < P.n → (P.A j i).ok P.n
  S : P.S < P.n
theorem place_inv {P : Pr} (hP : P.Ok) {a j : Nat} {anch : Bool} {T : List Th} {fd : Fd} (hT : ∀ t ∈ T, t.1 < P.n ∧ t.2.length = P.K) (hfd : ∀ y, fd = some y → y.2.length = P.K) : Inv P.n P.K (place P a anch j T fd) := by
  have h := vall_inv (j := j) (f := P.n + 1) (hP.ok j) T (newV fd) hT (new_inv P.n P.K fd hfd)
  unfold place
  dsimp only
  split
  · exact vis_inv (hP.ok j) _ _ _ _ hP.S (by simp) h
  · exact h
/-- what a visit leaves as it was -/
structure Grow (s t : Vst) : Prop where
  met : ∃ m, t.met = s.met ++ m
  next : ∃ x, t.next = s.next ++ x
  found : t.over = false → t.found = s.found ∧ s.over = false
  some : s.found.isSome = true → t.found.isSome = true
theorem Grow.refl (s : Vst) : Grow s s := ⟨⟨[], by simp⟩, ⟨[], by simp⟩, fun h => ⟨rfl, h⟩, id⟩
theorem Grow.trans {s t u : Vst} (h : Grow s t) (k : Grow t u) : Grow s u := by
  obtain ⟨m, hm⟩ := h.met
  obtain ⟨m2, hm2⟩ := k.met
  obtain ⟨x, hx⟩ := h.next
  obtain ⟨x2, hx2⟩ := k.next
  refine ⟨⟨m ++ m2, by rw [hm2, hm, List.append_assoc]⟩, ⟨x ++ x2, by rw [hx2, hx, List.append_assoc]⟩, fun ho => ?_, fun hs => k.some (h.some hs)⟩
  obtain ⟨h1, h2⟩ := k.found ho
  obtain ⟨h3, h4⟩ := h.found h2
  exact ⟨h1.trans h3, h4⟩
theorem Grow.mark (s : Vst) (i : Nat) : Grow s (s.mark i) := ⟨⟨[i], rfl⟩, ⟨[], by simp [Vst.mark]⟩, fun h => ⟨rfl, h⟩, id⟩
theorem vis_grow {A : Nat → Ac} {j : Nat} : ∀ (f i : Nat) (c : List Int) (s : Vst), Grow s (vis A j f i c s) := by
  intro f
  induction f with
  | zero => intro i c s; exact Grow.refl s
  | succ f ih =>
    intro i c s
    unfold vis
    split
    · exact Grow.refl s
    · rename_i hm
      obtain ⟨ho, hm⟩ := not_met hm
      have h1 := Grow.mark s i
      split
      · exact h1.trans ((ih _ _ _).trans (ih _ _ _))
      · exact h1.trans (ih _ _ _)
      · exact h1.trans (ih _ _ _)
      · exact ⟨⟨[i], rfl⟩, ⟨[_], rfl⟩, fun h => ⟨rfl, h⟩, id⟩
      · exact ⟨⟨[i], rfl⟩, ⟨[], by simp [Vst.mark]⟩, fun h => by simp at h, fun _ => rfl⟩
      · exact h1
theorem vall_grow {A : Nat → Ac} {j f : Nat} : ∀ (T : List Th) (s : Vst), Grow s (vall A j f T s) := by
  intro T
  induction T with
  | nil => intro s; exact Grow.refl s
  | cons t T ih => intro s; rw [vall_cons]; exact (vis_grow f t.1 t.2 s).trans (ih _)
theorem place_grow (P : Pr) (a j : Nat) (anch : Bool) (T : List Th) (fd : Fd) : Grow (newV fd) (place P a anch j T fd) := by
  unfold place
  dsimp only
  split
  · exact (vall_grow T _).trans (vis_grow _ _ _ _)
  · exact vall_grow T _
/-- an instruction at a place leads to a match -/
inductive Rch (A : Nat → Nat → Ac) : Nat → Nat → Prop
  | fit {i j : Nat} (a : Int) : A j i = .fit a → Rch A i j
  | altx {i j : Nat} (x y : Nat) : A j i = .alt x y → Rch A x j → Rch A i j
  | alty {i j : Nat} (x y : Nat) : A j i = .alt x y → Rch A y j → Rch A i j
  | go {i j : Nat} (x : Nat) : A j i = .go x → Rch A x j → Rch A i j
  | cap {i j : Nat} (x a : Nat) : A j i = .cap x a → Rch A x j → Rch A i j
  | rune {i j : Nat} (x : Nat) : A j i = .rune x → Rch A x (j + 1) → Rch A i j
/-- what a visit leaves of what leads to a match, where it does not lead to one -/
structure Dead (A : Nat → Nat → Ac) (j : Nat) (s t : Vst) : Prop where
  over : t.over = s.over
  found : t.found = s.found
  met : ∀ k, Rch A k j → (k ∈ t.met ↔ k ∈ s.met)
  next : ∃ D, t.next = s.next ++ D ∧ ∀ u ∈ D, ¬ Rch A u.1 (j + 1)
theorem Dead.refl (A : Nat → Nat → Ac) (j : Nat) (s : Vst) : Dead A j s s := ⟨rfl, rfl, fun _ _ => Iff.rfl, [], by simp, by simp⟩
theorem Dead.trans {A : Nat → Nat → Ac} {j : Nat} {s t u : Vst} (h : Dead A j s t) (k : Dead A j t u) : Dead A j s u := by
  obtain ⟨D, hD, hD'⟩ := h.next
  obtain ⟨E, hE, hE'⟩ := k.next
  refine ⟨k.over.trans h.over, k.found.trans h.found, fun x hx => (k.met x hx).trans (h.met x hx), D ++ E, by rw [hE, hD, List.append_assoc], fun v hv => ?_⟩
  rcases List.mem_append.1 hv with hv | hv
  · exact hD' v hv
  · exact hE' v hv
theorem Dead.mark {A : Nat → Nat → Ac} {j i : Nat} (s : Vst) (h : ¬ Rch A i j) : Dead A j s (s.mark i) := by
  refine ⟨rfl, rfl, fun k hk => ?_, [], by simp [Vst.mark], by simp⟩
  simp only [Vst.mark, List.mem_append, List.mem_singleton]
  constructor
  · rintro (h' | rfl)
    · exact h'
    · exact absurd hk h
  · exact .inl
/-- the same threads that lead to a match, in the same order -/
inductive Sim (A : Nat → Nat → Ac) (j : Nat) : List Th → List Th → Prop
  | nil : Sim A j [] []
  | l (t : Th) (T U : List Th) : ¬ Rch A t.1 j → Sim A j T U → Sim A j (t :: T) U
  | r (t : Th) (T U : List Th) : ¬ Rch A t.1 j → Sim A j T U → Sim A j T (t :: U)
  | b (t : Th) (T U : List Th) : Sim A j T U → Sim A j (t :: T) (t :: U)
theorem Sim.append {A : Nat → Nat → Ac} {j : Nat} {T U T' U' : List Th} (h : Sim A j T U) (h' : Sim A j T' U') : Sim A j (T ++ T') (U ++ U') := by
  induction h with
  | nil => exact h'
  | l t T U hd _ ih => exact .l t _ _ hd ih
  | r t T U hd _ ih => exact .r t _ _ hd ih
  | b t T U _ ih => exact .b t _ _ ih
theorem Sim.deadL {A : Nat → Nat → Ac} {j : Nat} : ∀ (D : List Th), (∀ u ∈ D, ¬ Rch A u.1 j) → Sim A j D []
  | [], _ => .nil
  | t :: D, h => .l t _ _ (h t List.mem_cons_self) (Sim.deadL D (fun u hu => h u (List.mem_cons_of_mem _ hu)))
theorem Sim.deadR {A : Nat → Nat → Ac} {j : Nat} : ∀ (D : List Th), (∀ u ∈ D, ¬ Rch A u.1 j) → Sim A j [] D
  | [], _ => .nil
  | t :: D, h => .r t _ _ (h t List.mem_cons_self) (Sim.deadR D (fun u hu => h u (List.mem_cons_of_mem _ hu)))
/-- two visits of one place that are the same in what leads to a match -/
structure Rho (A : Nat → Nat → Ac) (j : Nat) (s t : Vst) : Prop where
  over : s.over = t.over
  found : s.over = true → s.found = t.found
  met : ∀ k, Rch A k j → (k ∈ s.met ↔ k ∈ t.met)
  next : Sim A (j + 1) s.next t.next
theorem Rho.left {A : Nat → Nat → Ac} {j : Nat} {s s' t : Vst} (h : Rho A j s t) (d : Dead A j s s') : Rho A j s' t := by
  obtain ⟨D, hD, hD'⟩ := d.next
  refine ⟨d.over.trans h.over, fun ho => d.found.trans (h.found (d.over ▸ ho)), fun k hk => (d.met k hk).trans (h.met k hk), ?_⟩
  rw [hD]
  have := h.next.append (Sim.deadL D hD')
  simpa using this
theorem Rho.right {A : Nat → Nat → Ac} {j : Nat} {s t t' : Vst} (h : Rho A j s t) (d : Dead A j t t') : Rho A j s t' := by
  obtain ⟨D, hD, hD'⟩ := d.next
  refine ⟨h.over.trans d.over.symm, fun ho => (h.found ho).trans d.found.symm, fun k hk => (h.met k hk).trans (d.met k hk).symm, ?_⟩
  rw [hD]
  have := h.next.append (Sim.deadR D hD')
  simpa using this
theorem Rho.mark {A : Nat → Nat → Ac} {j : Nat} {s t : Vst} (h : Rho A j s t) (i : Nat) : Rho A j (s.mark i) (t.mark i) := by
  refine ⟨h.over, h.found, fun k hk => ?_, h.next⟩
  simp only [Vst.mark, List.mem_append, List.mem_singleton]
  rw [h.met k hk]
theorem place_nil {P : Pr} {a j : Nat} {anch : Bool} {fd : Fd} (hj : j ≠ a) (h : (fd.isSome || anch) = true) : place P a anch j [] fd = newV fd := by
  have : bgB a anch j fd = false := by
    cases fd <;> simp_all [bgB]
  unfold place
  rw [this]
  rfl
theorem itr_nil {P : Pr} {a : Nat} {anch : Bool} {fd : Fd} (h : (fd.isSome || anch) = true) : ∀ (m j : Nat), a < j → (itr P a anch m j [] fd).2 = fd := by
  intro m
  induction m with
  | zero => intro j _; rfl
  | succ m ih =>
    intro j hj
    simp only [itr]
    rw [place_nil (by omega) h]
    exact ih (j + 1) (by omega)
theorem lock_itr (P : Pr) (a : Nat) (anch : Bool) : ∀ (m j : Nat) (T : List Th) (fd : Fd) (st : Nat), a ≤ j → (lock P a anch m j T fd st).1 = (itr P a anch m j T fd).2 := by
  intro m
  induction m with
  | zero => intro j T fd st _; rfl
  | succ m ih =>
    intro j T fd st hj
    simp only [lock, itr]
    split
    · rename_i h
      simp only [Bool.or_eq_true, Bool.and_eq_true, decide_eq_true_eq] at h
      rcases h with rfl | ⟨h1, h2⟩
      · rfl
      · rw [List.isEmpty_iff.1 h1, itr_nil (by simpa using h2) m (j + 1) (by omega)]
    · exact ih _ _ _ _ (by omega)
/-- the run of a program -/
def lockRun (P : Pr) (len a : Nat) (anch : Bool) : Fd × Nat := lock P a anch (len - a + 1) a [] none 0
end Go.Proofs.YtpckbpimgoljoaaGreat
/- HELPERS: depth first with a map, in plain words; what lock step finds is what it finds. -/
namespace Go.Proofs.YtpckbpimgoljoaaGreat
set_option linter.unusedVariables false
set_option linter.unusedSimpArgs false
abbrev Pt := Nat × Nat
/-- to meet a pair of an instruction and a place: what was met ahead, the captures; what is met then, what is found -/
inductive Df (A : Nat → Nat → Ac) : List Pt → Nat → Nat → List Int → List Pt → Fd → Prop
  | old (m : List Pt) (i j : Nat) (c : List Int) : (i, j) ∈ m → Df A m i j c m none
  | fit (m : List Pt) (i j : Nat) (c : List Int) (a : Int) : (i, j) ∉ m → A j i = .fit a → Df A m i j c (m ++ [(i, j)]) (some (a, c))
  | stop (m : List Pt) (i j : Nat) (c : List Int) : (i, j) ∉ m → A j i = .stop → Df A m i j c (m ++ [(i, j)]) none
  | go (m : List Pt) (i j : Nat) (c : List Int) (x : Nat) (m' : List Pt) (r : Fd) : (i, j) ∉ m → A j i = .go x → Df A (m ++ [(i, j)]) x j c m' r → Df A m i j c m' r
  | cap (m : List Pt) (i j : Nat) (c : List Int) (x a : Nat) (m' : List Pt) (r : Fd) : (i, j) ∉ m → A j i = .cap x a → Df A (m ++ [(i, j)]) x j (c.set a (j : Int)) m' r → Df A m i j c m' r
  | rune (m : List Pt) (i j : Nat) (c : List Int) (x : Nat) (m' : List Pt) (r : Fd) : (i, j) ∉ m → A j i = .rune x → Df A (m ++ [(i, j)]) x (j + 1) c m' r → Df A m i j c m' r
  | altx (m : List Pt) (i j : Nat) (c : List Int) (x y : Nat) (m' : List Pt) (z : Int × List Int) : (i, j) ∉ m → A j i = .alt x y → Df A (m ++ [(i, j)]) x j c m' (some z) → Df A m i j c m' (some z)
  | alty (m : List Pt) (i j : Nat) (c : List Int) (x y : Nat) (m1 m' : List Pt) (r : Fd) : (i, j) ∉ m → A j i = .alt x y → Df A (m ++ [(i, j)]) x j c m1 none → Df A m1 y j c m' r → Df A m i j c m' r
theorem df_det {A : Nat → Nat → Ac} {m : List Pt} {i j : Nat} {c : List Int} {m' : List Pt} {r : Fd} (h : Df A m i j c m' r) : ∀ {m2 : List Pt} {r2 : Fd}, Df A m i j c m2 r2 → m' = m2 ∧ r = r2 := by
  induction h with
  | old m i j c hm =>
    intro m2 r2 h2
    cases h2 with
    | old _ _ _ _ h3 => exact ⟨rfl, rfl⟩
    | fit _ _ _ _ a h3 e2 => exact absurd hm h3
    | stop _ _ _ _ h3 e2 => exact absurd hm h3
    | go _ _ _ _ x2 _ _ h3 e2 h4 => exact absurd hm h3
    | cap _ _ _ _ x2 a _ _ h3 e2 h4 => exact absurd hm h3
    | rune _ _ _ _ x2 _ _ h3 e2 h4 => exact absurd hm h3
    | altx _ _ _ _ x2 y _ _ h3 e2 h4 => exact absurd hm h3
    | alty _ _ _ _ x2 y _ _ _ h3 e2 h4 h5 => exact absurd hm h3
  | fit m i j c a hm e =>
    intro m2 r2 h2
    cases h2 <;> simp_all
  | stop m i j c hm e =>
    intro m2 r2 h2
    cases h2 <;> simp_all
  | go m i j c x m' r hm e hd ih =>
    intro m2 r2 h2
    cases h2 with
    | old _ _ _ _ h3 => exact absurd h3 hm
    | fit _ _ _ _ a h3 e2 => rw [e] at e2; cases e2
    | stop _ _ _ _ h3 e2 => rw [e] at e2; cases e2
    | go _ _ _ _ x2 _ _ h3 e2 h4 => rw [e] at e2; cases e2; exact ih h4
    | cap _ _ _ _ x2 a _ _ h3 e2 h4 => rw [e] at e2; cases e2
    | rune _ _ _ _ x2 _ _ h3 e2 h4 => rw [e] at e2; cases e2
    | altx _ _ _ _ x2 y _ _ h3 e2 h4 => rw [e] at e2; cases e2
    | alty _ _ _ _ x2 y _ _ _ h3 e2 h4 h5 => rw [e] at e2; cases e2
  | cap m i j c x a m' r hm e hd ih =>
    intro m2 r2 h2
    cases h2 with
    | old _ _ _ _ h3 => exact absurd h3 hm
    | fit _ _ _ _ a h3 e2 => rw [e] at e2; cases e2
    | stop _ _ _ _ h3 e2 => rw [e] at e2; cases e2
    | go _ _ _ _ x2 _ _ h3 e2 h4 => rw [e] at e2; cases e2
    | cap _ _ _ _ x2 a _ _ h3 e2 h4 => rw [e] at e2; cases e2; exact ih h4
    | rune _ _ _ _ x2 _ _ h3 e2 h4 => rw [e] at e2; cases e2
    | altx _ _ _ _ x2 y _ _ h3 e2 h4 => rw [e] at e2; cases e2
    | alty _ _ _ _ x2 y _ _ _ h3 e2 h4 h5 => rw [e] at e2; cases e2
  | rune m i j c x m' r hm e hd ih =>
    intro m2 r2 h2
    cases h2 with
    | old _ _ _ _ h3 => exact absurd h3 hm
    | fit _ _ _ _ a h3 e2 => rw [e] at e2; cases e2
    | stop _ _ _ _ h3 e2 => rw [e] at e2; cases e2
    | go _ _ _ _ x2 _ _ h3 e2 h4 => rw [e] at e2; cases e2
    | cap _ _ _ _ x2 a _ _ h3 e2 h4 => rw [e] at e2; cases e2
    | rune _ _ _ _ x2 _ _ h3 e2 h4 => rw [e] at e2; cases e2; exact ih h4
    | altx _ _ _ _ x2 y _ _ h3 e2 h4 => rw [e] at e2; cases e2
    | alty _ _ _ _ x2 y _ _ _ h3 e2 h4 h5 => rw [e] at e2; cases e2
  | altx m i j c x y m' z hm e hd ih =>
    intro m2 r2 h2
    cases h2 with
    | old _ _ _ _ h3 => exact absurd h3 hm
    | fit _ _ _ _ a h3 e2 => rw [e] at e2; cases e2
    | stop _ _ _ _ h3 e2 => rw [e] at e2; cases e2
    | go _ _ _ _ x2 _ _ h3 e2 h4 => rw [e] at e2; cases e2
    | cap _ _ _ _ x2 a _ _ h3 e2 h4 => rw [e] at e2; cases e2
    | rune _ _ _ _ x2 _ _ h3 e2 h4 => rw [e] at e2; cases e2
    | altx _ _ _ _ x2 y _ _ h3 e2 h4 => rw [e] at e2; cases e2; exact ih h4
    | alty _ _ _ _ x2 y _ _ _ h3 e2 h4 h5 =>
      rw [e] at e2; cases e2
      cases (ih h4).2
  | alty m i j c x y m1 m' r hm e hd hd2 ih ih2 =>
    intro m2 r2 h2
    cases h2 with
    | old _ _ _ _ h3 => exact absurd h3 hm
    | fit _ _ _ _ a h3 e2 => rw [e] at e2; cases e2
    | stop _ _ _ _ h3 e2 => rw [e] at e2; cases e2
    | go _ _ _ _ x2 _ _ h3 e2 h4 => rw [e] at e2; cases e2
    | cap _ _ _ _ x2 a _ _ h3 e2 h4 => rw [e] at e2; cases e2
    | rune _ _ _ _ x2 _ _ h3 e2 h4 => rw [e] at e2; cases e2
    | altx _ _ _ _ x2 y _ _ h3 e2 h4 => rw [e] at e2; cases e2; cases (ih h4).2
    | alty _ _ _ _ x2 y _ _ _ h3 e2 h4 h5 =>
      rw [e] at e2; cases e2
      obtain ⟨rfl, _⟩ := ih h4
      exact ih2 h5
/-- the same is met from a place on -/
def EqP (k : Nat) (m m2 : List Pt) : Prop := ∀ q, k ≤ q → ∀ i, (i, q) ∈ m ↔ (i, q) ∈ m2
theorem EqP.add {k : Nat} {m m2 : List Pt} (h : EqP k m m2) (p : Pt) : EqP k (m ++ [p]) (m2 ++ [p]) := by
  intro q hq i
  simp only [List.mem_append, h q hq i]
theorem df_cong {A : Nat → Nat → Ac} {m : List Pt} {i j : Nat} {c : List Int} {m' : List Pt} {r : Fd} (h : Df A m i j c m' r) {k : Nat} : ∀ {m2 : List Pt}, k ≤ j → EqP k m m2 → ∃ m2', Df A m2 i j c m2' r ∧ EqP k m' m2' := by
  induction h with
  | old m i j c hm => intro m2 hk he; exact ⟨m2, .old _ _ _ _ ((he j hk i).1 hm), he⟩
  | fit m i j c a hm e => intro m2 hk he; exact ⟨_, .fit _ _ _ _ a (fun h => hm ((he j hk i).2 h)) e, he.add _⟩
  | stop m i j c hm e => intro m2 hk he; exact ⟨_, .stop _ _ _ _ (fun h => hm ((he j hk i).2 h)) e, he.add _⟩
  | go m i j c x m' r hm e hd ih =>
    intro m2 hk he
    obtain ⟨m3, h3, h4⟩ := ih hk (he.add _)
    exact ⟨m3, .go _ _ _ _ x _ _ (fun h => hm ((he j hk i).2 h)) e h3, h4⟩
  | cap m i j c x a m' r hm e hd ih =>
    intro m2 hk he
    obtain ⟨m3, h3, h4⟩ := ih hk (he.add _)
    exact ⟨m3, .cap _ _ _ _ x a _ _ (fun h => hm ((he j hk i).2 h)) e h3, h4⟩
  | rune m i j c x m' r hm e hd ih =>
    intro m2 hk he
    obtain ⟨m3, h3, h4⟩ := ih (by omega) (he.add _)
    exact ⟨m3, .rune _ _ _ _ x _ _ (fun h => hm ((he j hk i).2 h)) e h3, h4⟩
  | altx m i j c x y m' z hm e hd ih =>
    intro m2 hk he
    obtain ⟨m3, h3, h4⟩ := ih hk (he.add _)
    exact ⟨m3, .altx _ _ _ _ x y _ _ (fun h => hm ((he j hk i).2 h)) e h3, h4⟩
  | alty m i j c x y m1 m' r hm e hd hd2 ih ih2 =>
    intro m2 hk he
    obtain ⟨m3, h3, h4⟩ := ih hk (he.add _)
    obtain ⟨m5, h5, h6⟩ := ih2 hk h4
    exact ⟨m5, .alty _ _ _ _ x y _ _ _ (fun h => hm ((he j hk i).2 h)) e h3 h5, h6⟩
/-- nothing ahead of the place is met -/
theorem df_keep {A : Nat → Nat → Ac} {m : List Pt} {i j : Nat} {c : List Int} {m' : List Pt} {r : Fd} (h : Df A m i j c m' r) : ∀ p : Pt, p.2 < j → (p ∈ m' ↔ p ∈ m) := by
  have hx : ∀ (m : List Pt) (i j : Nat) (p : Pt), p.2 < j → (p ∈ m ++ [(i, j)] ↔ p ∈ m) := fun m i j p hp => by
    simp only [List.mem_append, List.mem_singleton]
    constructor
    · rintro (h | rfl)
      · exact h
      · simp at hp
    · exact .inl
  induction h with
  | old m i j c hm => intro p hp; exact Iff.rfl
  | fit m i j c a hm e => exact hx m i j
  | stop m i j c hm e => exact hx m i j
  | go m i j c x m' r hm e hd ih => intro p hp; exact (ih p hp).trans (hx m i j p hp)
  | cap m i j c x a m' r hm e hd ih => intro p hp; exact (ih p hp).trans (hx m i j p hp)
  | rune m i j c x m' r hm e hd ih => intro p hp; exact (ih p (by omega)).trans (hx m i j p hp)
  | altx m i j c x y m' z hm e hd ih => intro p hp; exact (ih p hp).trans (hx m i j p hp)
  | alty m i j c x y m1 m' r hm e hd hd2 ih ih2 => intro p hp; exact (ih2 p hp).trans ((ih p hp).trans (hx m i j p hp))
/-- pairs of the program's instructions and the places from a on, none twice -/
structure OkP (n a len : Nat) (m : List Pt) : Prop where
  nd : m.Nodup
  ok : ∀ p ∈ m, p.1 < n ∧ a ≤ p.2 ∧ p.2 ≤ len
theorem OkP.nil (n a len : Nat) : OkP n a len [] := ⟨by simp, by simp⟩
theorem OkP.add {n a len : Nat} {m : List Pt} (h : OkP n a len m) {i j : Nat} (hm : (i, j) ∉ m) (hi : i < n) (ha : a ≤ j) (hj : j ≤ len) : OkP n a len (m ++ [(i, j)]) := by
  refine ⟨?_, fun p hp => ?_⟩
  · rw [List.nodup_append]
    refine ⟨h.nd, by simp, fun x hx y hy => ?_⟩
    simp at hy
    subst hy
    exact fun e => hm (e ▸ hx)
  · rcases List.mem_append.1 hp with hp | hp
    · exact h.ok p hp
    · simp at hp
      subst hp
      exact ⟨hi, ha, hj⟩
theorem enc_inj {n i i' d d' : Nat} (hi : i < n) (hi' : i' < n) (h : d * n + i = d' * n + i') : d = d' ∧ i = i' := by
  have h1 : (d * n + i) / n = d := by rw [Nat.mul_comm, Nat.mul_add_div (by omega), Nat.div_eq_of_lt hi]; omega
  have h2 : (d' * n + i') / n = d' := by rw [Nat.mul_comm, Nat.mul_add_div (by omega), Nat.div_eq_of_lt hi']; omega
  have : d = d' := by rw [← h1, ← h2, h]
  subst this
  exact ⟨rfl, by omega⟩
theorem enc_lt {n i d q : Nat} (hi : i < n) (hd : d < q) : d * n + i < n * q := by
  have : (d + 1) * n ≤ q * n := Nat.mul_le_mul_right _ hd
  rw [Nat.succ_mul] at this
  rw [Nat.mul_comm n q]
  omega
theorem nodup_map_inj {α : Type} (f : α → Nat) : ∀ (l : List α), l.Nodup → (∀ x ∈ l, ∀ y ∈ l, f x = f y → x = y) → (l.map f).Nodup
  | [], _, _ => by simp
  | x :: l, h, hf => by
    rw [List.map_cons, List.nodup_cons]
    rw [List.nodup_cons] at h
    refine ⟨fun hx => ?_, nodup_map_inj f l h.2 (fun y hy z hz => hf y (List.mem_cons_of_mem _ hy) z (List.mem_cons_of_mem _ hz))⟩
    obtain ⟨y, hy, e⟩ := List.mem_map.1 hx
    have := hf x List.mem_cons_self y (List.mem_cons_of_mem _ hy) e.symm
    exact h.1 (this ▸ hy)
theorem OkP.small {n a len : Nat} {m : List Pt} (h : OkP n a len m) : m.length ≤ n * (len - a + 1) := by
  have h1 := nodup_le (n := n * (len - a + 1)) (l := m.map fun p => (p.2 - a) * n + p.1) (nodup_map_inj _ m h.nd (fun x hx y hy e => by
    have hx' := h.ok x hx
    have hy' := h.ok y hy
    have := enc_inj hx'.1 hy'.1 e
    obtain ⟨x1, x2⟩ := x
    obtain ⟨y1, y2⟩ := y
    simp at this hx' hy' ⊢
    omega)) (fun k hk => by
      obtain ⟨p, hp, rfl⟩ := List.mem_map.1 hk
      have hp' := h.ok p hp
      exact enc_lt hp'.1 (by omega))
  simpa using h1
theorem df_ok {P : Pr} (hP : P.Ok) {a len : Nat} (hlen : ∀ i x, P.A len i ≠ .rune x) {m : List Pt} {i j : Nat} {c : List Int} {m' : List Pt} {r : Fd} (h : Df P.A m i j c m' r) : i < P.n → a ≤ j → j ≤ len → c.length = P.K → OkP P.n a len m → OkP P.n a len m' ∧ m.length ≤ m'.length ∧ (∀ p ∈ m, p ∈ m') ∧ ∀ y, r = some y → y.2.length = P.K := by
  have hsub : ∀ (m : List Pt) (p : Pt) (m' : List Pt), (∀ q ∈ m ++ [p], q ∈ m') → ∀ q ∈ m, q ∈ m' := fun m p m' h q hq => h q (List.mem_append_left _ hq)
  induction h with
  | old m i j c hm => intro hi ha hj hc ho; exact ⟨ho, Nat.le_refl _, fun p hp => hp, by simp⟩
  | fit m i j c a hm e => intro hi ha hj hc ho; exact ⟨ho.add hm hi ha hj, by simp, fun p hp => List.mem_append_left _ hp, fun y hy => by simp at hy; subst hy; exact hc⟩
  | stop m i j c hm e => intro hi ha hj hc ho; exact ⟨ho.add hm hi ha hj, by simp, fun p hp => List.mem_append_left _ hp, by simp⟩
  | go m i j c x m' r hm e hd ih =>
    intro hi ha hj hc ho
    have hx := hP.ok j i hi
    rw [e] at hx
    obtain ⟨h1, h2, h3, h4⟩ := ih hx ha hj hc (ho.add hm hi ha hj)
    exact ⟨h1, by simp at h2; omega, hsub _ _ _ h3, h4⟩
  | cap m i j c x a m' r hm e hd ih =>
    intro hi ha hj hc ho
    have hx := hP.ok j i hi
    rw [e] at hx
    obtain ⟨h1, h2, h3, h4⟩ := ih hx ha hj (by simpa using hc) (ho.add hm hi ha hj)
    exact ⟨h1, by simp at h2; omega, hsub _ _ _ h3, h4⟩
  | rune m i j c x m' r hm e hd ih =>
    intro hi ha hj hc ho
    have hx := hP.ok j i hi
    rw [e] at hx
    have hne : j ≠ len := fun h => hlen i x (h ▸ e)
    obtain ⟨h1, h2, h3, h4⟩ := ih hx (by omega) (by omega) hc (ho.add hm hi ha hj)
    exact ⟨h1, by simp at h2; omega, hsub _ _ _ h3, h4⟩
  | altx m i j c x y m' z hm e hd ih =>
    intro hi ha hj hc ho
    have hx := hP.ok j i hi
    rw [e] at hx
    obtain ⟨h1, h2, h3, h4⟩ := ih hx.1 ha hj hc (ho.add hm hi ha hj)
    exact ⟨h1, by simp at h2; omega, hsub _ _ _ h3, h4⟩
  | alty m i j c x y m1 m' r hm e hd hd2 ih ih2 =>
    intro hi ha hj hc ho
    have hx := hP.ok j i hi
    rw [e] at hx
    obtain ⟨h1, h2, h3, h4⟩ := ih hx.1 ha hj hc (ho.add hm hi ha hj)
    obtain ⟨g1, g2, g3, g4⟩ := ih2 hx.2 ha hj hc h1
    exact ⟨g1, by simp at h2; omega, fun p hp => g3 p (hsub _ _ _ h3 p hp), g4⟩
theorem df_total {P : Pr} (hP : P.Ok) {a len : Nat} (hlen : ∀ i x, P.A len i ≠ .rune x) : ∀ (N : Nat) (m : List Pt), OkP P.n a len m → P.n * (len - a + 1) ≤ N + m.length → ∀ (i j : Nat) (c : List Int), i < P.n → a ≤ j → j ≤ len → c.length = P.K → ∃ m' r, Df P.A m i j c m' r := by
  intro N
  induction N with
  | zero =>
    intro m ho hN i j c hi ha hj hc
    by_cases hm : (i, j) ∈ m
    · exact ⟨_, _, .old _ _ _ _ hm⟩
    · have := (ho.add hm hi ha hj).small
      simp at this
      omega
  | succ N ih =>
    intro m ho hN i j c hi ha hj hc
    by_cases hm : (i, j) ∈ m
    · exact ⟨_, _, .old _ _ _ _ hm⟩
    · have ho' := ho.add hm hi ha hj
      have hx := hP.ok j i hi
      have hN' : P.n * (len - a + 1) ≤ N + (m ++ [(i, j)]).length := by simp; omega
      cases e : P.A j i with
      | fit y => exact ⟨_, _, .fit _ _ _ _ y hm e⟩
      | stop => exact ⟨_, _, .stop _ _ _ _ hm e⟩
      | go x =>
        rw [e] at hx
        obtain ⟨m', r, h⟩ := ih _ ho' hN' x j c hx ha hj hc
        exact ⟨m', r, .go _ _ _ _ x _ _ hm e h⟩
      | cap x b =>
        rw [e] at hx
        obtain ⟨m', r, h⟩ := ih _ ho' hN' x j (c.set b (j : Int)) hx ha hj (by simpa using hc)
        exact ⟨m', r, .cap _ _ _ _ x b _ _ hm e h⟩
      | rune x =>
        rw [e] at hx
        have hne : j ≠ len := fun h => hlen i x (h ▸ e)
        obtain ⟨m', r, h⟩ := ih _ ho' hN' x (j + 1) c hx (by omega) (by omega) hc
        exact ⟨m', r, .rune _ _ _ _ x _ _ hm e h⟩
      | alt x y =>
        rw [e] at hx
        obtain ⟨m', r, h⟩ := ih _ ho' hN' x j c hx.1 ha hj hc
        cases r with
        | some z => exact ⟨m', _, .altx _ _ _ _ x y _ _ hm e h⟩
        | none =>
          obtain ⟨g1, g2, _⟩ := df_ok hP hlen h hx.1 ha hj hc ho'
          obtain ⟨m2, r2, h2⟩ := ih _ g1 (by omega) y j c hx.2 ha hj hc
          exact ⟨m2, r2, .alty _ _ _ _ x y _ _ _ hm e h h2⟩
/-- one pair after another, till something is found -/
inductive Da (A : Nat → Nat → Ac) : List Pt → List (Nat × Nat × List Int) → List Pt → Fd → Prop
  | nil (m : List Pt) : Da A m [] m none
  | hit (m : List Pt) (i j : Nat) (c : List Int) (T : List (Nat × Nat × List Int)) (m' : List Pt) (z : Int × List Int) : Df A m i j c m' (some z) → Da A m ((i, j, c) :: T) m' (some z)
  | miss (m : List Pt) (i j : Nat) (c : List Int) (T : List (Nat × Nat × List Int)) (m1 m' : List Pt) (r : Fd) : Df A m i j c m1 none → Da A m1 T m' r → Da A m ((i, j, c) :: T) m' r
theorem da_det {A : Nat → Nat → Ac} {m : List Pt} {T : List (Nat × Nat × List Int)} {m' : List Pt} {r : Fd} (h : Da A m T m' r) : ∀ {m2 : List Pt} {r2 : Fd}, Da A m T m2 r2 → m' = m2 ∧ r = r2 := by
  induction h with
  | nil m => intro m2 r2 h2; cases h2; exact ⟨rfl, rfl⟩
  | hit m i j c T m' z hd =>
    intro m2 r2 h2
    cases h2 with
    | hit _ _ _ _ _ _ _ h3 => exact df_det hd h3
    | miss _ _ _ _ _ _ _ _ h3 h4 => cases (df_det hd h3).2
  | miss m i j c T m1 m' r hd h ih =>
    intro m2 r2 h2
    cases h2 with
    | hit _ _ _ _ _ _ _ h3 => cases (df_det hd h3).2
    | miss _ _ _ _ _ _ _ _ h3 h4 => obtain ⟨rfl, _⟩ := df_det hd h3; exact ih h4
theorem da_hit {A : Nat → Nat → Ac} {m : List Pt} {T : List (Nat × Nat × List Int)} {m' : List Pt} {r : Fd} (h : Da A m T m' r) : ∀ {z}, r = some z → ∀ U, Da A m (T ++ U) m' r := by
  induction h with
  | nil m => intro z hz; cases hz
  | hit m i j c T m' z hd => intro _ _ U; exact .hit _ _ _ _ _ _ _ hd
  | miss m i j c T m1 m' r hd h ih => intro z hz U; exact .miss _ _ _ _ _ _ _ _ hd (ih hz U)
theorem da_miss {A : Nat → Nat → Ac} {m : List Pt} {T : List (Nat × Nat × List Int)} {m' : List Pt} {r : Fd} (h : Da A m T m' r) : r = none → ∀ {U m2 r2}, Da A m' U m2 r2 → Da A m (T ++ U) m2 r2 := by
  induction h with
  | nil m => intro _ U m2 r2 h2; exact h2
  | hit m i j c T m' z hd => intro hz; cases hz
  | miss m i j c T m1 m' r hd h ih => intro hz U m2 r2 h2; exact .miss _ _ _ _ _ _ _ _ hd (ih hz h2)
theorem da_split {A : Nat → Nat → Ac} : ∀ (T : List (Nat × Nat × List Int)) {m U m2 r2}, Da A m (T ++ U) m2 r2 → (∃ z, r2 = some z ∧ Da A m T m2 r2) ∨ ∃ m1, Da A m T m1 none ∧ Da A m1 U m2 r2
  | [], m, U, m2, r2, h => .inr ⟨m, .nil _, h⟩
  | t :: T, m, U, m2, r2, h => by
    cases h with
    | hit _ i j c _ _ z hd => exact .inl ⟨z, rfl, .hit _ _ _ _ _ _ _ hd⟩
    | miss _ i j c _ m1 _ _ hd h' =>
      rcases da_split T h' with ⟨z, hz, h3⟩ | ⟨m3, h3, h4⟩
      · exact .inl ⟨z, hz, .miss _ _ _ _ _ _ _ _ hd h3⟩
      · exact .inr ⟨m3, .miss _ _ _ _ _ _ _ _ hd h3, h4⟩
theorem da_cong {A : Nat → Nat → Ac} {k : Nat} {m : List Pt} {T : List (Nat × Nat × List Int)} {m' : List Pt} {r : Fd} (h : Da A m T m' r) : ∀ {m2 : List Pt}, (∀ t ∈ T, k ≤ t.2.1) → EqP k m m2 → ∃ m2', Da A m2 T m2' r ∧ EqP k m' m2' := by
  induction h with
  | nil m => intro m2 _ he; exact ⟨m2, .nil _, he⟩
  | hit m i j c T m' z hd =>
    intro m2 hT he
    obtain ⟨m3, h3, h4⟩ := df_cong hd (hT _ List.mem_cons_self) he
    exact ⟨m3, .hit _ _ _ _ _ _ _ h3, h4⟩
  | miss m i j c T m1 m' r hd h ih =>
    intro m2 hT he
    obtain ⟨m3, h3, h4⟩ := df_cong hd (hT _ List.mem_cons_self) he
    obtain ⟨m5, h5, h6⟩ := ih (fun t ht => hT t (List.mem_cons_of_mem _ ht)) h4
    exact ⟨m5, .miss _ _ _ _ _ _ _ _ h3 h5, h6⟩
theorem da_ok {P : Pr} (hP : P.Ok) {a len : Nat} (hlen : ∀ i x, P.A len i ≠ .rune x) {m : List Pt} {T : List (Nat × Nat × List Int)} {m' : List Pt} {r : Fd} (h : Da P.A m T m' r) : (∀ t ∈ T, t.1 < P.n ∧ a ≤ t.2.1 ∧ t.2.1 ≤ len ∧ t.2.2.length = P.K) → OkP P.n a len m → OkP P.n a len m' ∧ m.length ≤ m'.length ∧ (∀ p ∈ m, p ∈ m') ∧ ∀ y, r = some y → y.2.length = P.K := by
  induction h with
  | nil m => intro _ ho; exact ⟨ho, Nat.le_refl _, fun p hp => hp, by simp⟩
  | hit m i j c T m' z hd =>
    intro hT ho
    have ht := hT _ List.mem_cons_self
    exact df_ok hP hlen hd ht.1 ht.2.1 ht.2.2.1 ht.2.2.2 ho
  | miss m i j c T m1 m' r hd h ih =>
    intro hT ho
    have ht := hT _ List.mem_cons_self
    obtain ⟨g1, g2, g3, _⟩ := df_ok hP hlen hd ht.1 ht.2.1 ht.2.2.1 ht.2.2.2 ho
    obtain ⟨f1, f2, f3, f4⟩ := ih (fun t ht => hT t (List.mem_cons_of_mem _ ht)) g1
    exact ⟨f1, by omega, fun p hp => f3 p (g3 p hp), f4⟩
theorem da_total {P : Pr} (hP : P.Ok) {a len : Nat} (hlen : ∀ i x, P.A len i ≠ .rune x) : ∀ (T : List (Nat × Nat × List Int)) (m : List Pt), (∀ t ∈ T, t.1 < P.n ∧ a ≤ t.2.1 ∧ t.2.1 ≤ len ∧ t.2.2.length = P.K) → OkP P.n a len m → ∃ m' r, Da P.A m T m' r
  | [], m, _, _ => ⟨m, none, .nil _⟩
  | (i, j, c) :: T, m, hT, ho => by
    have ht := hT _ List.mem_cons_self
    obtain ⟨m1, r1, h1⟩ := df_total hP hlen (P.n * (len - a + 1)) m ho (by omega) i j c ht.1 ht.2.1 ht.2.2.1 ht.2.2.2
    cases r1 with
    | some z => exact ⟨_, _, .hit _ _ _ _ _ _ _ h1⟩
    | none =>
      have g1 := (df_ok hP hlen h1 ht.1 ht.2.1 ht.2.2.1 ht.2.2.2 ho).1
      obtain ⟨m2, r2, h2⟩ := da_total hP hlen T m1 (fun t ht => hT t (List.mem_cons_of_mem _ ht)) g1
      exact ⟨m2, r2, .miss _ _ _ _ _ _ _ _ h1 h2⟩
end Go.Proofs.YtpckbpimgoljoaaGreat
/- HELPERS: what lock step finds is what depth first finds. -/
namespace Go.Proofs.YtpckbpimgoljoaaGreat
set_option linter.unusedVariables false
set_option linter.unusedSimpArgs false
/-- threads at a place -/
def ats (j : Nat) (T : List Th) : List (Nat × Nat × List Int) := T.map fun t => (t.1, j, t.2)
theorem ats_append (j : Nat) (T U : List Th) : ats j (T ++ U) = ats j T ++ ats j U := by simp [ats]
/-- a visit of a place against depth first from the same threads: what was met ahead of the place is m0 -/
inductive Qv (A : Nat → Nat → Ac) (n a len j : Nat) (m0 : List Pt) (s : Vst) (m : List Pt) : Fd → Prop
  | far (R : List Pt) (y : Int × List Int) : Da A m0 (ats (j + 1) s.next) R (some y) → Qv A n a len j m0 s m (some y)
  | here (R : List Pt) (y : Int × List Int) : Da A m0 (ats (j + 1) s.next) R none → s.over = true → s.found = some y → Qv A n a len j m0 s m (some y)
  | on (R : List Pt) : Da A m0 (ats (j + 1) s.next) R none → s.over = false → (∀ i, (i, j) ∈ m ↔ i ∈ s.met) → EqP (j + 1) m R → OkP n a len m → Qv A n a len j m0 s m none
/-- to go on: nothing, where something is found -/
def Dc (A : Nat → Nat → Ac) (m : List Pt) (r : Fd) (i j : Nat) (c : List Int) (m' : List Pt) (r' : Fd) : Prop := (∃ y, r = some y ∧ m' = m ∧ r' = r) ∨ (r = none ∧ Df A m i j c m' r')
theorem EqP.here {k : Nat} {m R : List Pt} (h : EqP k m R) {i j : Nat} (hj : j < k) : EqP k (m ++ [(i, j)]) R := by
  intro q hq x
  rw [← h q hq x]
  simp only [List.mem_append, List.mem_singleton, Prod.mk.injEq]
  constructor
  · rintro (h | ⟨_, rfl⟩)
    · exact h
    · omega
  · exact .inl
theorem mark_iff {m : List Pt} {s : Vst} {i j : Nat} (h : ∀ i, (i, j) ∈ m ↔ i ∈ s.met) : ∀ x, (x, j) ∈ m ++ [(i, j)] ↔ x ∈ (s.mark i).met := by
  intro x
  simp only [List.mem_append, List.mem_singleton, Prod.mk.injEq, and_true, Vst.mark, h x]
theorem vis_q {P : Pr} (hP : P.Ok) {a len j : Nat} (hlen : ∀ i x, P.A len i ≠ .rune x) (ha : a ≤ j) (hj : j ≤ len) {m0 : List Pt} : ∀ (f i : Nat) (c : List Int) (s : Vst) (m : List Pt) (r : Fd), i < P.n → c.length = P.K → P.n < f + s.met.length → Inv P.n P.K s → Qv P.A P.n a len j m0 s m r →
    ∃ m' r', Dc P.A m r i j c m' r' ∧ Qv P.A P.n a len j m0 (vis (P.A j) j f i c s) m' r' := by
  intro f
  induction f with
  | zero =>
    intro i c s m r hi hc hf hv hq
    have := hv.small
    omega
  | succ f ih =>
    intro i c s m r hi hc hf hv hq
    cases hq with
    | far R y hd =>
      obtain ⟨x, hx⟩ := (vis_grow (A := P.A j) (j := j) (f + 1) i c s).next
      refine ⟨m, some y, .inl ⟨y, rfl, rfl, rfl⟩, .far R y ?_⟩
      rw [hx, ats_append]
      exact da_hit hd rfl _
    | here R y hd ho hfd =>
      refine ⟨m, some y, .inl ⟨y, rfl, rfl, rfl⟩, ?_⟩
      rw [vis_over ho]
      exact .here R y hd ho hfd
    | on R hd ho hm he hok =>
      by_cases him : i ∈ s.met
      · refine ⟨m, none, .inr ⟨rfl, .old _ _ _ _ ((hm i).2 him)⟩, ?_⟩
        have : vis (P.A j) j (f + 1) i c s = s := by
          unfold vis
          rw [if_pos (by simp [him])]
        rw [this]
        exact .on R hd ho hm he hok
      · have hnm : (i, j) ∉ m := fun h => him ((hm i).1 h)
        have hv1 := hv.mark hi him
        have hok1 := hok.add hnm hi ha hj
        have hq1 : Qv P.A P.n a len j m0 (s.mark i) (m ++ [(i, j)]) none := .on R hd ho (mark_iff hm) (he.here (Nat.lt_succ_self j)) hok1
        have hf1 : P.n < f + (s.mark i).met.length := by simp [Vst.mark]; omega
        have hx := hP.ok j i hi
        unfold vis
        rw [if_neg (by simp [ho, him])]
        cases e : P.A j i with
        | fit b =>
          refine ⟨m ++ [(i, j)], some (b, c), .inr ⟨rfl, .fit _ _ _ _ b hnm e⟩, ?_⟩
          exact .here R (b, c) hd rfl rfl
        | stop => exact ⟨m ++ [(i, j)], none, .inr ⟨rfl, .stop _ _ _ _ hnm e⟩, hq1⟩
        | go x =>
          rw [e] at hx
          obtain ⟨m', r', hdc, hq'⟩ := ih x c _ _ _ hx hc hf1 hv1 hq1
          rcases hdc with ⟨y, h, _⟩ | ⟨_, hdf⟩
          · cases h
          · exact ⟨m', r', .inr ⟨rfl, .go _ _ _ _ x _ _ hnm e hdf⟩, hq'⟩
        | cap x b =>
          rw [e] at hx
          obtain ⟨m', r', hdc, hq'⟩ := ih x (c.set b (j : Int)) _ _ _ hx (by simpa using hc) hf1 hv1 hq1
          rcases hdc with ⟨y, h, _⟩ | ⟨_, hdf⟩
          · cases h
          · exact ⟨m', r', .inr ⟨rfl, .cap _ _ _ _ x b _ _ hnm e hdf⟩, hq'⟩
        | rune x =>
          rw [e] at hx
          have hne : j ≠ len := fun h => hlen i x (h ▸ e)
          obtain ⟨m', r', hdf⟩ := df_total hP hlen (P.n * (len - a + 1)) _ hok1 (by omega) x (j + 1) c hx (by omega) (by omega) hc
          obtain ⟨R', hR, hE⟩ := df_cong hdf (Nat.le_refl _) (he.here (i := i) (Nat.lt_succ_self j))
          refine ⟨m', r', .inr ⟨rfl, .rune _ _ _ _ x _ _ hnm e hdf⟩, ?_⟩
          have hone : Da P.A R (ats (j + 1) [(x, c)]) R' r' := by
            cases r' with
            | some y => exact .hit _ _ _ _ _ _ _ hR
            | none => exact .miss _ _ _ _ _ _ _ _ hR (.nil _)
          have hall : Da P.A m0 (ats (j + 1) (s.next ++ [(x, c)])) R' r' := by
            rw [ats_append]
            exact da_miss hd rfl hone
          cases r' with
          | some y => exact .far R' y hall
          | none =>
            refine .on R' hall ho (fun k => ?_) hE (df_ok hP hlen hdf hx (by omega) (by omega) hc hok1).1
            rw [df_keep hdf (k, j) (Nat.lt_succ_self j)]
            exact mark_iff hm k
        | alt x y =>
          rw [e] at hx
          obtain ⟨m1, r1, hdc, hq2⟩ := ih x c _ _ _ hx.1 hc hf1 hv1 hq1
          rcases hdc with ⟨z, h, _⟩ | ⟨_, hdf⟩
          · cases h
          · obtain ⟨g, hg⟩ := (vis_grow (A := P.A j) (j := j) f x c (s.mark i)).met
            obtain ⟨m2, r2, hdc2, hq3⟩ := ih y c _ m1 r1 hx.2 hc (by rw [hg, List.length_append]; omega) (vis_inv (hP.ok j) f x c _ hx.1 hc hv1) hq2
            rcases hdc2 with ⟨z, rfl, rfl, rfl⟩ | ⟨rfl, hdf2⟩
            · exact ⟨_, _, .inr ⟨rfl, .altx _ _ _ _ x y _ _ hnm e hdf⟩, hq3⟩
            · exact ⟨_, _, .inr ⟨rfl, .alty _ _ _ _ x y _ _ _ hnm e hdf hdf2⟩, hq3⟩
/-- to go on with threads -/
def Dd (A : Nat → Nat → Ac) (m : List Pt) (r : Fd) (T : List (Nat × Nat × List Int)) (m' : List Pt) (r' : Fd) : Prop := (∃ y, r = some y ∧ m' = m ∧ r' = r) ∨ (r = none ∧ Da A m T m' r')
theorem vall_q {P : Pr} (hP : P.Ok) {a len j f : Nat} (hlen : ∀ i x, P.A len i ≠ .rune x) (ha : a ≤ j) (hj : j ≤ len) {m0 : List Pt} (hf : P.n < f) : ∀ (T : List Th) (s : Vst) (m : List Pt) (r : Fd), (∀ t ∈ T, t.1 < P.n ∧ t.2.length = P.K) → Inv P.n P.K s → Qv P.A P.n a len j m0 s m r →
    ∃ m' r', Dd P.A m r (ats j T) m' r' ∧ Qv P.A P.n a len j m0 (vall (P.A j) j f T s) m' r' := by
  intro T
  induction T with
  | nil =>
    intro s m r _ hv hq
    refine ⟨m, r, ?_, hq⟩
    cases r with
    | some y => exact .inl ⟨y, rfl, rfl, rfl⟩
    | none => exact .inr ⟨rfl, .nil _⟩
  | cons t T ih =>
    intro s m r hT hv hq
    have ht := hT t List.mem_cons_self
    obtain ⟨m1, r1, hd1, hq1⟩ := vis_q hP hlen ha hj f t.1 t.2 s m r ht.1 ht.2 (by omega) hv hq
    obtain ⟨m2, r2, hd2, hq2⟩ := ih _ m1 r1 (fun u hu => hT u (List.mem_cons_of_mem _ hu)) (vis_inv (hP.ok j) f t.1 t.2 s ht.1 ht.2 hv) hq1
    rw [vall_cons]
    refine ⟨m2, r2, ?_, hq2⟩
    rcases hd1 with ⟨y, rfl, rfl, rfl⟩ | ⟨rfl, hdf⟩
    · rcases hd2 with ⟨z, h1, h2, h3⟩ | ⟨h, _⟩
      · exact .inl ⟨z, h1, h2, h3⟩
      · cases h
    · refine .inr ⟨rfl, ?_⟩
      rcases hd2 with ⟨y, rfl, rfl, rfl⟩ | ⟨rfl, hda⟩
      · exact .hit _ _ _ _ _ _ _ hdf
      · exact .miss _ _ _ _ _ _ _ _ hdf hda
/-- the beginnings of so many places -/
def bgs (P : Pr) (a : Nat) (anch : Bool) (fd : Fd) : Nat → Nat → List (Nat × Nat × List Int)
  | 0, _ => []
  | m + 1, j => (if bgB a anch j fd = true then [(P.S, j, List.replicate P.K (-1))] else []) ++ bgs P a anch fd m (j + 1)
theorem bgs_some (P : Pr) (a : Nat) (anch : Bool) (y : Int × List Int) : ∀ (m j : Nat), a < j → bgs P a anch (some y) m j = []
  | 0, _, _ => rfl
  | m + 1, j, h => by
    have hn : ¬ bgB a anch j (some y) = true := by simp [bgB]; omega
    simp only [bgs]
    rw [if_neg hn, bgs_some P a anch y m (j + 1) (by omega)]
    rfl
theorem bgs_from (P : Pr) (a : Nat) (anch : Bool) (fd : Fd) : ∀ (m j : Nat), ∀ t ∈ bgs P a anch fd m j, t.1 = P.S ∧ j ≤ t.2.1 ∧ t.2.1 < j + m ∧ t.2.2 = List.replicate P.K (-1)
  | 0, _ => by simp [bgs]
  | m + 1, j => by
    intro t ht
    simp only [bgs] at ht
    rcases List.mem_append.1 ht with h | h
    · split at h
      · simp at h; subst h; exact ⟨rfl, Nat.le_refl _, by show j < _; omega, rfl⟩
      · simp at h
    · have := bgs_from P a anch fd m (j + 1) t h
      exact ⟨this.1, by omega, by omega, this.2.2.2⟩
theorem place_q {P : Pr} (hP : P.Ok) {a len j : Nat} {anch : Bool} (hlen : ∀ i x, P.A len i ≠ .rune x) (ha : a ≤ j) (hj : j ≤ len) {m0 : List Pt} (hok : OkP P.n a len m0) (h0 : ∀ p ∈ m0, p.2 < j) {T : List Th} {fd : Fd} (hT : ∀ t ∈ T, t.1 < P.n ∧ t.2.length = P.K) (hfd : ∀ y, fd = some y → y.2.length = P.K) :
    ∃ m' r', Da P.A m0 (ats j T ++ (if bgB a anch j fd = true then [(P.S, j, List.replicate P.K (-1))] else [])) m' r' ∧ Qv P.A P.n a len j m0 (place P a anch j T fd) m' r' := by
  have hv := new_inv P.n P.K fd hfd
  have hq : Qv P.A P.n a len j m0 (newV fd) m0 none := .on m0 (.nil _) rfl (fun i => by
    simp only [newV, List.not_mem_nil, iff_false]
    intro h
    have := h0 _ h
    simp at this) (fun q hq i => Iff.rfl) hok
  obtain ⟨m1, r1, hd1, hq1⟩ := vall_q hP hlen ha hj (Nat.lt_succ_self P.n) T (newV fd) m0 none hT hv hq
  have hd1' : Da P.A m0 (ats j T) m1 r1 := by
    rcases hd1 with ⟨y, h, _⟩ | ⟨_, h⟩
    · cases h
    · exact h
  unfold place
  dsimp only
  split
  · obtain ⟨m2, r2, hd2, hq2⟩ := vis_q hP hlen ha hj (P.n + 1) P.S (List.replicate P.K (-1)) _ m1 r1 hP.S (by simp) (by omega) (vall_inv (hP.ok j) T (newV fd) hT hv) hq1
    refine ⟨m2, r2, ?_, hq2⟩
    rcases hd2 with ⟨y, rfl, rfl, rfl⟩ | ⟨rfl, hdf⟩
    · exact da_hit hd1' rfl _
    · refine da_miss hd1' rfl ?_
      cases r2 with
      | some y => exact .hit _ _ _ _ _ _ _ hdf
      | none => exact .miss _ _ _ _ _ _ _ _ hdf (.nil _)
  · refine ⟨m1, r1, ?_, hq1⟩
    rw [List.append_nil]
    exact hd1'
theorem vis_end {A : Nat → Ac} {j : Nat} (hA : ∀ i x, A i ≠ .rune x) : ∀ (f i : Nat) (c : List Int) (s : Vst), s.next = [] → (vis A j f i c s).next = [] := by
  intro f
  induction f with
  | zero => intro i c s h; exact h
  | succ f ihf =>
    intro i c s h
    unfold vis
    split
    · exact h
    · split
      · exact ihf _ _ _ (ihf _ _ _ h)
      · exact ihf _ _ _ h
      · exact ihf _ _ _ h
      · rename_i x e; exact absurd e (hA _ _)
      · exact h
      · exact h
theorem vall_end {A : Nat → Ac} {j f : Nat} (hA : ∀ i x, A i ≠ .rune x) : ∀ (T : List Th) (s : Vst), s.next = [] → (vall A j f T s).next = [] := by
  intro T
  induction T with
  | nil => intro s h; exact h
  | cons t T ih => intro s h; rw [vall_cons]; exact ih _ (vis_end hA _ _ _ _ h)
theorem place_end {P : Pr} {a j : Nat} {anch : Bool} (hlen : ∀ i x, P.A j i ≠ .rune x) (T : List Th) (fd : Fd) : (place P a anch j T fd).next = [] := by
  unfold place
  dsimp only
  split
  · exact vis_end hlen _ _ _ _ (vall_end hlen _ _ rfl)
  · exact vall_end hlen _ _ rfl
theorem itr_q {P : Pr} (hP : P.Ok) {a len : Nat} {anch : Bool} (hlen : ∀ i x, P.A len i ≠ .rune x) : ∀ (m j : Nat) (T : List Th) (fd : Fd) (m0 : List Pt), j + m = len + 1 → a ≤ j → (m = 0 → T = []) → OkP P.n a len m0 → (∀ p ∈ m0, p.2 < j) → (∀ t ∈ T, t.1 < P.n ∧ t.2.length = P.K) → (∀ y, fd = some y → y.2.length = P.K) →
    ∃ m' r', Da P.A m0 (ats j T ++ bgs P a anch fd m j) m' r' ∧ (itr P a anch m j T fd).2 = r'.or fd := by
  intro m
  induction m with
  | zero =>
    intro j T fd m0 hj ha hT0 hok h0 hT hfd
    rw [hT0 rfl]
    exact ⟨m0, none, .nil _, rfl⟩
  | succ m ih =>
    intro j T fd m0 hj ha _ hok h0 hT hfd
    obtain ⟨m1, r1, hd1, hq⟩ := place_q (anch := anch) hP hlen ha (by omega) hok h0 hT hfd
    have hiv := place_inv hP (a := a) (j := j) (anch := anch) hT hfd
    have hnx : m = 0 → (place P a anch j T fd).next = [] := fun e => by
      subst e
      obtain rfl : j = len := by omega
      exact place_end hlen T fd
    obtain ⟨m2, r2, hd2, hr2⟩ := ih (j + 1) (place P a anch j T fd).next (place P a anch j T fd).found m0 (by omega) (by omega) hnx hok (fun p hp => by have := h0 p hp; omega) hiv.nx hiv.fd
    have hfo := (place_grow P a j anch T fd).found
    simp only [itr, bgs]
    rw [hr2, ← List.append_assoc]
    generalize place P a anch j T fd = s at hq hd2 hfo ⊢
    cases hq with
    | far R y hd =>
      refine ⟨m1, some y, da_hit hd1 rfl _, ?_⟩
      obtain ⟨_, rfl⟩ := da_det (da_hit hd rfl _) hd2
      rfl
    | here R y hd ho hf =>
      refine ⟨m1, some y, da_hit hd1 rfl _, ?_⟩
      rw [hf, bgs_some P a anch y m (j + 1) (by omega), List.append_nil] at hd2
      obtain ⟨_, rfl⟩ := da_det hd hd2
      rw [hf]
      rfl
    | on R hd ho hm he hok' =>
      have hf : s.found = fd := (hfo ho).1
      rw [hf] at hd2 ⊢
      rcases da_split _ hd2 with ⟨z, hz, h3⟩ | ⟨m3, h3, h4⟩
      · have := (da_det hd h3).2
        rw [hz] at this
        cases this
      · obtain ⟨rfl, _⟩ := da_det hd h3
        obtain ⟨m5, h5, _⟩ := da_cong (k := j + 1) h4 (fun t ht => (bgs_from P a anch fd m (j + 1) t ht).2.1) (fun q hq i => (he q hq i).symm)
        exact ⟨m5, r2, da_miss hd1 rfl h5, rfl⟩
/-- what lock step finds -/
theorem lock_da {P : Pr} (hP : P.Ok) {a len : Nat} {anch : Bool} (hlen : ∀ i x, P.A len i ≠ .rune x) (ha : a ≤ len) {m' : List Pt} {r : Fd} (h : Da P.A [] (bgs P a anch none (len - a + 1) a) m' r) : (lockRun P len a anch).1 = r := by
  obtain ⟨m2, r2, hd, hr⟩ := itr_q (anch := anch) hP hlen (len - a + 1) a [] none [] (by omega) (Nat.le_refl _) (fun _ => rfl) (OkP.nil _ _ _) (by simp) (by simp) (by simp)
  obtain ⟨_, rfl⟩ := da_det h hd
  unfold lockRun
  rw [lock_itr P a anch _ _ _ _ _ (Nat.le_refl _), hr]
  cases r <;> rfl
end Go.Proofs.YtpckbpimgoljoaaGreat
/- HELPERS: depth first with a stack, in plain words. -/
namespace Go.Proofs.YtpckbpimgoljoaaGreat
set_option linter.unusedVariables false
set_option linter.unusedSimpArgs false
/-- what is still to be done: a pair to be met; a capture to be old again -/
inductive Tk where
  | go (i j : Nat)
  | un (a : Nat) (o : Int)
/-- what an instruction leaves to be done, and the captures -/
def nx (A : Nat → Nat → Ac) (i j : Nat) (c : List Int) : List Tk × List Int :=
  match A j i with
  | .alt x y => ([.go x j, .go y j], c)
  | .go x => ([.go x j], c)
  | .cap x a => ([.go x j, .un a (c.getD a 0)], c.set a (j : Int))
  | .rune x => ([.go x (j + 1)], c)
  | .fit _ => ([], c)
  | .stop => ([], c)
/-- the stack's work: so many rounds, what is to be done (the next first), what was met, the captures; what is found, what is met then -/
inductive Ev (A : Nat → Nat → Ac) : Nat → List Tk → List Pt → List Int → Fd → List Pt → Prop
  | nil (m : List Pt) (c : List Int) : Ev A 0 [] m c none m
  | un (n a : Nat) (o : Int) (st : List Tk) (m : List Pt) (c : List Int) (r : Fd) (m' : List Pt) : Ev A n st m (c.set a o) r m' → Ev A (n + 1) (.un a o :: st) m c r m'
  | old (n i j : Nat) (st : List Tk) (m : List Pt) (c : List Int) (r : Fd) (m' : List Pt) : (i, j) ∈ m → Ev A n st m c r m' → Ev A (n + 1) (.go i j :: st) m c r m'
  | fit (i j : Nat) (st : List Tk) (m : List Pt) (c : List Int) (a : Int) : (i, j) ∉ m → A j i = .fit a → Ev A 0 (.go i j :: st) m c (some (a, c)) (m ++ [(i, j)])
  | step (n i j : Nat) (st : List Tk) (m : List Pt) (c : List Int) (r : Fd) (m' : List Pt) : (i, j) ∉ m → (∀ a, A j i ≠ .fit a) → Ev A n ((nx A i j c).1 ++ st) (m ++ [(i, j)]) (nx A i j c).2 r m' → Ev A (n + 1) (.go i j :: st) m c r m'
theorem set_old (c : List Int) (a : Nat) (v : Int) : (c.set a v).set a (c.getD a 0) = c := by
  rw [List.set_set]
  by_cases h : a < c.length
  · simp [List.getD_eq_getElem?_getD, List.getElem?_eq_getElem h]
  · rw [List.set_eq_of_length_le (by omega)]
theorem df_ev {A : Nat → Nat → Ac} {m : List Pt} {i j : Nat} {c : List Int} {m' : List Pt} {r : Fd} (h : Df A m i j c m' r) : ∀ st, (∀ y, r = some y → ∃ n, Ev A n (.go i j :: st) m c (some y) m') ∧ (r = none → ∀ k r2 m2, Ev A k st m' c r2 m2 → ∃ n, Ev A n (.go i j :: st) m c r2 m2) := by
  induction h with
  | old m i j c hm => intro st; exact ⟨fun y h => (by cases h), fun _ k r2 m2 h => ⟨_, .old _ _ _ _ _ _ _ _ hm h⟩⟩
  | fit m i j c a hm e => intro st; exact ⟨fun y h => (by cases h; exact ⟨_, .fit _ _ _ _ _ _ hm e⟩), fun h => (by cases h)⟩
  | stop m i j c hm e =>
    intro st
    refine ⟨fun y h => (by cases h), fun _ k r2 m2 h => ⟨_, .step k _ _ _ _ _ _ _ hm (by simp [e]) ?_⟩⟩
    simp only [nx, e]; exact h
  | go m i j c x m' r hm e hd ih =>
    intro st
    obtain ⟨h1, h2⟩ := ih st
    refine ⟨fun y h => ?_, fun h k r2 m2 hk => ?_⟩
    · obtain ⟨n, hn⟩ := h1 y h
      exact ⟨_, .step n _ _ _ _ _ _ _ hm (by simp [e]) (by simp only [nx, e]; exact hn)⟩
    · obtain ⟨n, hn⟩ := h2 h k r2 m2 hk
      exact ⟨_, .step n _ _ _ _ _ _ _ hm (by simp [e]) (by simp only [nx, e]; exact hn)⟩
  | cap m i j c x a m' r hm e hd ih =>
    intro st
    obtain ⟨h1, h2⟩ := ih (.un a (c.getD a 0) :: st)
    refine ⟨fun y h => ?_, fun h k r2 m2 hk => ?_⟩
    · obtain ⟨n, hn⟩ := h1 y h
      exact ⟨_, .step n _ _ _ _ _ _ _ hm (by simp [e]) (by simp only [nx, e]; exact hn)⟩
    · obtain ⟨n, hn⟩ := h2 h (k + 1) r2 m2 (.un _ _ _ _ _ _ _ _ (by rw [set_old]; exact hk))
      exact ⟨_, .step n _ _ _ _ _ _ _ hm (by simp [e]) (by simp only [nx, e]; exact hn)⟩
  | rune m i j c x m' r hm e hd ih =>
    intro st
    obtain ⟨h1, h2⟩ := ih st
    refine ⟨fun y h => ?_, fun h k r2 m2 hk => ?_⟩
    · obtain ⟨n, hn⟩ := h1 y h
      exact ⟨_, .step n _ _ _ _ _ _ _ hm (by simp [e]) (by simp only [nx, e]; exact hn)⟩
    · obtain ⟨n, hn⟩ := h2 h k r2 m2 hk
      exact ⟨_, .step n _ _ _ _ _ _ _ hm (by simp [e]) (by simp only [nx, e]; exact hn)⟩
  | altx m i j c x y m' z hm e hd ih =>
    intro st
    obtain ⟨h1, _⟩ := ih (.go y j :: st)
    refine ⟨fun y h => ?_, fun h => by cases h⟩
    obtain ⟨n, hn⟩ := h1 y h
    exact ⟨_, .step n _ _ _ _ _ _ _ hm (by simp [e]) (by simp only [nx, e]; exact hn)⟩
  | alty m i j c x y m1 m' r hm e hd hd2 ih ih2 =>
    intro st
    obtain ⟨_, h2⟩ := ih (.go y j :: st)
    obtain ⟨g1, g2⟩ := ih2 st
    refine ⟨fun z h => ?_, fun h k r2 m2 hk => ?_⟩
    · obtain ⟨n, hn⟩ := g1 z h
      obtain ⟨n2, hn2⟩ := h2 rfl _ _ _ hn
      exact ⟨_, .step n2 _ _ _ _ _ _ _ hm (by simp [e]) (by simp only [nx, e]; exact hn2)⟩
    · obtain ⟨n, hn⟩ := g2 h k r2 m2 hk
      obtain ⟨n2, hn2⟩ := h2 rfl _ _ _ hn
      exact ⟨_, .step n2 _ _ _ _ _ _ _ hm (by simp [e]) (by simp only [nx, e]; exact hn2)⟩
/-- one beginning -/
theorem df_ev1 {A : Nat → Nat → Ac} {m : List Pt} {i j : Nat} {c : List Int} {m' : List Pt} {r : Fd} (h : Df A m i j c m' r) : ∃ n, Ev A n [.go i j] m c r m' := by
  obtain ⟨h1, h2⟩ := df_ev h []
  cases r with
  | some y => exact h1 y rfl
  | none => exact h2 rfl _ _ _ (.nil _ _)
/-- the captures when all is undone -/
def base : List Tk → List Int → List Int
  | [], c => c
  | .un a o :: st, c => base st (c.set a o)
  | .go _ _ :: st, c => base st c
/-- a task of a program of n instructions over the places a to len, with K captures -/
def Tk.ok (n a len K : Nat) : Tk → Prop
  | .go i j => i < n ∧ a ≤ j ∧ j ≤ len
  | .un b o => b < K ∧ -1 ≤ o ∧ o ≤ (len : Int)
def okCZ (len : Nat) (c : List Int) : Prop := ∀ v ∈ c, -1 ≤ v ∧ v ≤ (len : Int)
theorem okCZ.set {len : Nat} {c : List Int} (h : okCZ len c) (a : Nat) {v : Int} (hv : -1 ≤ v ∧ v ≤ (len : Int)) : okCZ len (c.set a v) := fun u hu => by
  rcases List.mem_or_eq_of_mem_set hu with h1 | rfl
  · exact h u h1
  · exact hv
theorem okCZ.get {len : Nat} {c : List Int} (h : okCZ len c) (a : Nat) : -1 ≤ c.getD a 0 ∧ c.getD a 0 ≤ (len : Int) := by
  by_cases ha : a < c.length
  · rw [List.getD_eq_getElem?_getD, List.getElem?_eq_getElem ha]
    exact h _ (List.getElem_mem ha)
  · rw [List.getD_eq_getElem?_getD, List.getElem?_eq_none (by omega)]
    simp
theorem okCZ.rep (len K : Nat) : okCZ len (List.replicate K (-1)) := fun v hv => by
  have := List.eq_of_mem_replicate hv
  omega
end Go.Proofs.YtpckbpimgoljoaaGreat
/- HELPERS: depth first from one place after another finds what it finds from that place alone; where a run begins. -/
namespace Go.Proofs.YtpckbpimgoljoaaGreat
set_option linter.unusedVariables false
set_option linter.unusedSimpArgs false
/-- where an instruction goes on -/
def Goes (A : Nat → Nat → Ac) (p q : Pt) : Prop :=
  match A p.2 p.1 with
  | .alt x y => q = (x, p.2) ∨ q = (y, p.2)
  | .go x => q = (x, p.2)
  | .cap x _ => q = (x, p.2)
  | .rune x => q = (x, p.2 + 1)
  | .fit _ => False
  | .stop => False
/-- nothing fits in it, and all that follows is in it -/
def Cl (A : Nat → Nat → Ac) (m D : List Pt) : Prop := ∀ p ∈ D, p ∈ m ∨ ((∀ a, A p.2 p.1 ≠ .fit a) ∧ ∀ q, Goes A p q → q ∈ D)
theorem df_sub {A : Nat → Nat → Ac} {m : List Pt} {i j : Nat} {c : List Int} {m' : List Pt} {r : Fd} (h : Df A m i j c m' r) : (∀ p ∈ m, p ∈ m') ∧ (i, j) ∈ m' ∧ m.length ≤ m'.length := by
  induction h with
  | old m i j c h => exact ⟨fun p hp => hp, h, Nat.le_refl _⟩
  | fit m i j c a h e => exact ⟨fun p hp => by simp [hp], by simp, by simp⟩
  | stop m i j c h e => exact ⟨fun p hp => by simp [hp], by simp, by simp⟩
  | go m i j c x m' r h e hd ih => exact ⟨fun p hp => ih.1 p (by simp [hp]), ih.1 _ (by simp), by have := ih.2.2; simp at this; omega⟩
  | cap m i j c x a m' r h e hd ih => exact ⟨fun p hp => ih.1 p (by simp [hp]), ih.1 _ (by simp), by have := ih.2.2; simp at this; omega⟩
  | rune m i j c x m' r h e hd ih => exact ⟨fun p hp => ih.1 p (by simp [hp]), ih.1 _ (by simp), by have := ih.2.2; simp at this; omega⟩
  | altx m i j c x y m' z h e hd ih => exact ⟨fun p hp => ih.1 p (by simp [hp]), ih.1 _ (by simp), by have := ih.2.2; simp at this; omega⟩
  | alty m i j c x y m1 m' r h e hd hd2 ih ih2 => exact ⟨fun p hp => ih2.1 p (ih.1 p (by simp [hp])), ih2.1 _ (ih.1 _ (by simp)), by have := ih.2.2; have := ih2.2.2; simp at *; omega⟩
/-- what was met and led nowhere is closed -/
theorem df_closed {A : Nat → Nat → Ac} {m : List Pt} {i j : Nat} {c : List Int} {m' : List Pt} {r : Fd} (h : Df A m i j c m' r) : r = none → Cl A m m' := by
  induction h with
  | old m i j c h => intro _ p hp; exact .inl hp
  | fit m i j c a h e => intro h0; cases h0
  | stop m i j c h e =>
    intro _ p hp
    rcases List.mem_append.1 hp with hp | hp
    · exact .inl hp
    · rw [List.mem_singleton] at hp
      subst hp
      right
      exact ⟨fun a => by simp [e], fun q hq => by simp [Goes, e] at hq⟩
  | go m i j c x m' r h e hd ih =>
    intro h0 p hp
    rcases ih h0 p hp with h1 | h1
    · rcases List.mem_append.1 h1 with h2 | h2
      · exact .inl h2
      · rw [List.mem_singleton] at h2
        subst h2
        right
        refine ⟨fun a => by simp [e], fun q hq => ?_⟩
        simp [Goes, e] at hq
        subst hq
        exact (df_sub hd).2.1
    · exact .inr h1
  | cap m i j c x a m' r h e hd ih =>
    intro h0 p hp
    rcases ih h0 p hp with h1 | h1
    · rcases List.mem_append.1 h1 with h2 | h2
      · exact .inl h2
      · rw [List.mem_singleton] at h2
        subst h2
        right
        refine ⟨fun a => by simp [e], fun q hq => ?_⟩
        simp [Goes, e] at hq
        subst hq
        exact (df_sub hd).2.1
    · exact .inr h1
  | rune m i j c x m' r h e hd ih =>
    intro h0 p hp
    rcases ih h0 p hp with h1 | h1
    · rcases List.mem_append.1 h1 with h2 | h2
      · exact .inl h2
      · rw [List.mem_singleton] at h2
        subst h2
        right
        refine ⟨fun a => by simp [e], fun q hq => ?_⟩
        simp [Goes, e] at hq
        subst hq
        exact (df_sub hd).2.1
    · exact .inr h1
  | altx m i j c x y m' z h e hd ih => intro h0; cases h0
  | alty m i j c x y m1 m' r h e hd hd2 ih ih2 =>
    intro h0 p hp
    rcases ih2 h0 p hp with h1 | h1
    · rcases ih rfl p h1 with h2 | h2
      · rcases List.mem_append.1 h2 with h3 | h3
        · exact .inl h3
        · rw [List.mem_singleton] at h3
          subst h3
          right
          refine ⟨fun a => by simp [e], fun q hq => ?_⟩
          simp [Goes, e] at hq
          rcases hq with rfl | rfl
          · exact (df_sub hd2).1 _ (df_sub hd).2.1
          · exact (df_sub hd2).2.1
      · exact .inr ⟨h2.1, fun q hq => (df_sub hd2).1 q (h2.2 q hq)⟩
    · exact .inr h1
theorem da_sub {A : Nat → Nat → Ac} {m : List Pt} {T : List (Nat × Nat × List Int)} {m' : List Pt} {r : Fd} (h : Da A m T m' r) : (∀ p ∈ m, p ∈ m') ∧ m.length ≤ m'.length := by
  induction h with
  | nil m => exact ⟨fun p h => h, Nat.le_refl _⟩
  | hit m i j c T m' z hd => exact ⟨(df_sub hd).1, (df_sub hd).2.2⟩
  | miss m i j c T m1 m' r hd h ih => exact ⟨fun p hp => ih.1 p ((df_sub hd).1 p hp), Nat.le_trans (df_sub hd).2.2 ih.2⟩
theorem da_closed {A : Nat → Nat → Ac} {m : List Pt} {T : List (Nat × Nat × List Int)} {m' : List Pt} {r : Fd} (h : Da A m T m' r) : r = none → Cl A m m' := by
  induction h with
  | nil m => exact fun _ p hp => .inl hp
  | hit m i j c T m' z hd => exact fun h => by cases h
  | miss m i j c T m1 m' r hd h ih =>
    intro h0 p hp
    rcases ih h0 p hp with h1 | h1
    · rcases df_closed hd rfl p h1 with h2 | h2
      · exact .inl h2
      · exact .inr ⟨h2.1, fun q hq => (da_sub h).1 q (h2.2 q hq)⟩
    · exact .inr h1
/-- within what is closed nothing is found -/
theorem df_dead {A : Nat → Nat → Ac} {D : List Pt} (hD : Cl A [] D) {m : List Pt} {i j : Nat} {c : List Int} {m' : List Pt} {r : Fd} (h : Df A m i j c m' r) : (i, j) ∈ D → r = none ∧ ∀ p ∈ m', p ∈ m ∨ p ∈ D := by
  have step : ∀ {p q : Pt}, p ∈ D → Goes A p q → q ∈ D := fun hp hq => by
    rcases hD _ hp with h | h
    · cases h
    · exact h.2 _ hq
  induction h with
  | old m i j c h => exact fun _ => ⟨rfl, fun p hp => .inl hp⟩
  | fit m i j c a h e =>
    intro hd
    rcases hD _ hd with h1 | h1
    · cases h1
    · exact absurd e (h1.1 a)
  | stop m i j c h e =>
    intro hd
    refine ⟨rfl, fun p hp => ?_⟩
    rcases List.mem_append.1 hp with hp | hp
    · exact .inl hp
    · rw [List.mem_singleton] at hp; subst hp; exact .inr hd
  | go m i j c x m' r h e hd ih =>
    intro hp
    obtain ⟨h1, h2⟩ := ih (step hp (by simp [Goes, e]))
    refine ⟨h1, fun p hp' => ?_⟩
    rcases h2 p hp' with h3 | h3
    · rcases List.mem_append.1 h3 with h4 | h4
      · exact .inl h4
      · rw [List.mem_singleton] at h4; subst h4; exact .inr hp
    · exact .inr h3
  | cap m i j c x a m' r h e hd ih =>
    intro hp
    obtain ⟨h1, h2⟩ := ih (step hp (by simp [Goes, e]))
    refine ⟨h1, fun p hp' => ?_⟩
    rcases h2 p hp' with h3 | h3
    · rcases List.mem_append.1 h3 with h4 | h4
      · exact .inl h4
      · rw [List.mem_singleton] at h4; subst h4; exact .inr hp
    · exact .inr h3
  | rune m i j c x m' r h e hd ih =>
    intro hp
    obtain ⟨h1, h2⟩ := ih (step hp (by simp [Goes, e]))
    refine ⟨h1, fun p hp' => ?_⟩
    rcases h2 p hp' with h3 | h3
    · rcases List.mem_append.1 h3 with h4 | h4
      · exact .inl h4
      · rw [List.mem_singleton] at h4; subst h4; exact .inr hp
    · exact .inr h3
  | altx m i j c x y m' z h e hd ih =>
    intro hp
    obtain ⟨h1, h2⟩ := ih (step hp (by simp [Goes, e]))
    cases h1
  | alty m i j c x y m1 m' r h e hd hd2 ih ih2 =>
    intro hp
    obtain ⟨h1, h2⟩ := ih (step hp (by simp [Goes, e]))
    obtain ⟨g1, g2⟩ := ih2 (step hp (by simp [Goes, e]))
    refine ⟨g1, fun p hp' => ?_⟩
    rcases g2 p hp' with h3 | h3
    · rcases h2 p h3 with h4 | h4
      · rcases List.mem_append.1 h4 with h5 | h5
        · exact .inl h5
        · rw [List.mem_singleton] at h5; subst h5; exact .inr hp
      · exact .inr h4
    · exact .inr h3
/-- two maps that are alike but for what is closed -/
def Lik (D m1 m2 : List Pt) : Prop := ∀ p, p ∈ m1 ↔ p ∈ m2 ∨ p ∈ D
theorem Lik.add {D m1 m2 : List Pt} (h : Lik D m1 m2) (q : Pt) : Lik D (m1 ++ [q]) (m2 ++ [q]) := fun p => by
  simp only [List.mem_append, List.mem_singleton, h p]
  constructor
  · rintro ((h1 | h1) | h1)
    · exact .inl (.inl h1)
    · exact .inr h1
    · exact .inl (.inr h1)
  · rintro ((h1 | h1) | h1)
    · exact .inl (.inl h1)
    · exact .inr h1
    · exact .inl (.inr h1)
/-- what is found is the same, whether or not what led nowhere is kept in mind -/
theorem df_fresh {P : Pr} (hP : P.Ok) {a len : Nat} (hlen : ∀ i x, P.A len i ≠ .rune x) {D : List Pt} (hD : Cl P.A [] D) {m1 : List Pt} {i j : Nat} {c : List Int} {m1' : List Pt} {r : Fd} (h : Df P.A m1 i j c m1' r) : i < P.n → a ≤ j → j ≤ len → c.length = P.K → ∀ m2, Lik D m1 m2 → OkP P.n a len m2 → ∃ m2', Df P.A m2 i j c m2' r ∧ Lik D m1' m2' := by
  have dead : ∀ {i j : Nat} {c : List Int} {m1 m2 : List Pt}, i < P.n → a ≤ j → j ≤ len → c.length = P.K → Lik D m1 m2 → OkP P.n a len m2 → (i, j) ∈ m1 → ∃ m2', Df P.A m2 i j c m2' none ∧ Lik D m1 m2' := fun {i j c m1 m2} hi ha hj hc hL ho hm => by
    by_cases h2 : (i, j) ∈ m2
    · exact ⟨m2, .old _ _ _ _ h2, hL⟩
    · have hd : (i, j) ∈ D := ((hL _).1 hm).resolve_left h2
      obtain ⟨m', r, h⟩ := df_total hP hlen (P.n * (len - a + 1)) m2 ho (by omega) i j c hi ha hj hc
      obtain ⟨rfl, h3⟩ := df_dead hD h hd
      refine ⟨m', h, fun p => ?_⟩
      rw [hL p]
      constructor
      · rintro (h4 | h4)
        · exact .inl ((df_sub h).1 p h4)
        · exact .inr h4
      · rintro (h4 | h4)
        · exact h3 p h4
        · exact .inr h4
  induction h with
  | old m i j c h => exact fun hi ha hj hc m2 hL ho => dead hi ha hj hc hL ho h
  | fit m i j c b h e => exact fun hi ha hj hc m2 hL ho => ⟨_, .fit _ _ _ _ b (fun h2 => h ((hL _).2 (.inl h2))) e, hL.add _⟩
  | stop m i j c h e => exact fun hi ha hj hc m2 hL ho => ⟨_, .stop _ _ _ _ (fun h2 => h ((hL _).2 (.inl h2))) e, hL.add _⟩
  | go m i j c x m' r h e hd ih =>
    intro hi ha hj hc m2 hL ho
    have hx := hP.ok j i hi
    rw [e] at hx
    have hn : (i, j) ∉ m2 := fun h2 => h ((hL _).2 (.inl h2))
    obtain ⟨m2', g1, g2⟩ := ih hx ha hj hc _ (hL.add _) (ho.add hn hi ha hj)
    exact ⟨m2', .go _ _ _ _ x _ _ hn e g1, g2⟩
  | cap m i j c x b m' r h e hd ih =>
    intro hi ha hj hc m2 hL ho
    have hx := hP.ok j i hi
    rw [e] at hx
    have hn : (i, j) ∉ m2 := fun h2 => h ((hL _).2 (.inl h2))
    obtain ⟨m2', g1, g2⟩ := ih hx ha hj (by simpa using hc) _ (hL.add _) (ho.add hn hi ha hj)
    exact ⟨m2', .cap _ _ _ _ x b _ _ hn e g1, g2⟩
  | rune m i j c x m' r h e hd ih =>
    intro hi ha hj hc m2 hL ho
    have hx := hP.ok j i hi
    rw [e] at hx
    have hne : j ≠ len := fun h => hlen i x (h ▸ e)
    have hn : (i, j) ∉ m2 := fun h2 => h ((hL _).2 (.inl h2))
    obtain ⟨m2', g1, g2⟩ := ih hx (by omega) (by omega) hc _ (hL.add _) (ho.add hn hi ha hj)
    exact ⟨m2', .rune _ _ _ _ x _ _ hn e g1, g2⟩
  | altx m i j c x y m' z h e hd ih =>
    intro hi ha hj hc m2 hL ho
    have hx := hP.ok j i hi
    rw [e] at hx
    have hn : (i, j) ∉ m2 := fun h2 => h ((hL _).2 (.inl h2))
    obtain ⟨m2', g1, g2⟩ := ih hx.1 ha hj hc _ (hL.add _) (ho.add hn hi ha hj)
    exact ⟨m2', .altx _ _ _ _ x y _ _ hn e g1, g2⟩
  | alty m i j c x y m1 m' r h e hd hd2 ih ih2 =>
    intro hi ha hj hc m2 hL ho
    have hx := hP.ok j i hi
    rw [e] at hx
    have hn : (i, j) ∉ m2 := fun h2 => h ((hL _).2 (.inl h2))
    have ho' := ho.add hn hi ha hj
    obtain ⟨m2', g1, g2⟩ := ih hx.1 ha hj hc _ (hL.add _) ho'
    obtain ⟨o1, _, _⟩ := df_ok hP hlen g1 hx.1 ha hj hc ho'
    obtain ⟨m3', k1, k2⟩ := ih2 hx.2 ha hj hc _ g2 o1
    exact ⟨m3', .alty _ _ _ _ x y _ _ _ hn e g1 k1, k2⟩
/-- the runs from one place after another, each with a map of its own: the first that finds something -/
theorem da_first {P : Pr} (hP : P.Ok) {a len : Nat} (hlen : ∀ i x, P.A len i ≠ .rune x) : ∀ (T : List (Nat × Nat × List Int)) (D m' : List Pt) (r : Fd), (∀ t ∈ T, t.1 < P.n ∧ a ≤ t.2.1 ∧ t.2.1 ≤ len ∧ t.2.2.length = P.K) → Cl P.A [] D → Da P.A D T m' r →
    (r = none ∧ ∀ t ∈ T, ∃ m2, Df P.A [] t.1 t.2.1 t.2.2 m2 none) ∨ ∃ z T1 t T2 m2, r = some z ∧ T = T1 ++ t :: T2 ∧ (∀ u ∈ T1, ∃ m3, Df P.A [] u.1 u.2.1 u.2.2 m3 none) ∧ Df P.A [] t.1 t.2.1 t.2.2 m2 (some z)
  | [], D, m', r, hT, hD, h => by cases h; exact .inl ⟨rfl, fun t ht => by cases ht⟩
  | (i, j, c) :: T, D, m', r, hT, hD, h => by
    have h1 := hT (i, j, c) (by simp)
    have hL : Lik D D [] := fun p => by simp
    cases h with
    | hit _ _ _ _ _ _ z hd =>
      obtain ⟨m2, g, _⟩ := df_fresh hP hlen hD hd h1.1 h1.2.1 h1.2.2.1 h1.2.2.2 [] hL (OkP.nil _ _ _)
      exact .inr ⟨z, [], (i, j, c), T, m2, rfl, rfl, (fun u hu => absurd hu (by simp)), g⟩
    | miss _ _ _ _ _ m1 _ _ hd hda =>
      obtain ⟨m2, g, _⟩ := df_fresh hP hlen hD hd h1.1 h1.2.1 h1.2.2.1 h1.2.2.2 [] hL (OkP.nil _ _ _)
      have hD1 : Cl P.A [] m1 := fun p hp => by
        rcases df_closed hd rfl p hp with h2 | h2
        · rcases hD p h2 with h3 | h3
          · cases h3
          · exact .inr ⟨h3.1, fun q hq => (df_sub hd).1 q (h3.2 q hq)⟩
        · exact .inr h2
      rcases da_first hP hlen T m1 m' r (fun t ht => hT t (by simp [ht])) hD1 hda with ⟨e, h2⟩ | ⟨z, T1, t, T2, m3, e1, e2, e3, e4⟩
      · refine .inl ⟨e, fun t ht => ?_⟩
        rcases List.mem_cons.1 ht with rfl | ht
        · exact ⟨m2, g⟩
        · exact h2 t ht
      · refine .inr ⟨z, (i, j, c) :: T1, t, T2, m3, e1, by rw [e2]; rfl, fun u hu => ?_, e4⟩
        rcases List.mem_cons.1 hu with rfl | hu
        · exact ⟨m2, g⟩
        · exact e3 u hu
/-- where capture 0 is written at the start alone, it tells where what is found begins -/
theorem df_caps {A : Nat → Nat → Ac} {S : Nat} (h0 : ∀ i j x b, A j i = .cap x b → b = 0 → i = S) (hback : ∀ i j q, Goes A (i, j) q → q.1 ≠ S) {m : List Pt} {i j : Nat} {c : List Int} {m' : List Pt} {r : Fd} (h : Df A m i j c m' r) : i ≠ S → ∀ z, r = some z → z.2[0]? = c[0]? := by
  induction h with
  | old m i j c h => intro _ z hz; cases hz
  | fit m i j c a h e => intro _ z hz; cases hz; rfl
  | stop m i j c h e => intro _ z hz; cases hz
  | go m i j c x m' r h e hd ih => exact fun hi z hz => ih (hback i j (x, j) (by simp [Goes, e])) z hz
  | cap m i j c x b m' r h e hd ih =>
    intro hi z hz
    have hb : b ≠ 0 := fun h => hi (h0 i j x b e h)
    rw [ih (hback i j (x, j) (by simp [Goes, e])) z hz, List.getElem?_set_ne hb]
  | rune m i j c x m' r h e hd ih => exact fun hi z hz => ih (hback i j (x, j + 1) (by simp [Goes, e])) z hz
  | altx m i j c x y m' z h e hd ih => exact fun hi z' hz => ih (hback i j (x, j) (by simp [Goes, e])) z' hz
  | alty m i j c x y m1 m' r h e hd hd2 ih ih2 => exact fun hi z hz => ih2 (hback i j (y, j) (by simp [Goes, e])) z hz
/-- so a run that begins with capture 0 -/
theorem df_begin {A : Nat → Nat → Ac} {S x0 : Nat} (h0 : ∀ i j x b, A j i = .cap x b → b = 0 → i = S) (hback : ∀ i j q, Goes A (i, j) q → q.1 ≠ S) {m : List Pt} {j : Nat} (hS : A j S = .cap x0 0) {c : List Int} (hc : 0 < c.length) {m' : List Pt} {z : Int × List Int} (h : Df A m S j c m' (some z)) : z.2[0]? = some (j : Int) := by
  cases h with
  | fit _ _ _ _ a _ e => rw [hS] at e; cases e
  | go _ _ _ _ _ _ _ _ e => rw [hS] at e; cases e
  | cap _ _ _ _ x b _ _ _ e hd =>
    rw [hS] at e
    cases e
    rw [df_caps h0 hback hd (hback S j (x0, j) (by simp [Goes, hS])) z rfl]
    simp [hc]
  | rune _ _ _ _ _ _ _ _ e => rw [hS] at e; cases e
  | altx _ _ _ _ _ _ _ _ _ e => rw [hS] at e; cases e
  | alty _ _ _ _ _ _ _ _ _ _ e => rw [hS] at e; cases e
end Go.Proofs.YtpckbpimgoljoaaGreat
namespace Go.Proofs.YtpckbpimgoljoaaGreat
set_option linter.unusedVariables false
set_option linter.unusedSimpArgs false
theorem bgs_anchG (P : Pr) (a : Nat) : ∀ (m j : Nat), a < j → bgs P a true none m j = []
  | 0, _, _ => rfl
  | m + 1, j, h => by
    have hn : ¬ bgB a true j none = true := by simp [bgB]; omega
    simp only [bgs]
    rw [if_neg hn, bgs_anchG P a m (j + 1) (by omega)]
    rfl
theorem bgs_oneG (P : Pr) (a m : Nat) : bgs P a true none (m + 1) a = [(P.S, a, List.replicate P.K (-1))] := by
  simp only [bgs]
  rw [if_pos (by simp [bgB]), bgs_anchG P a m (a + 1) (by omega)]
  rfl
theorem bgs_allG (P : Pr) (a m j : Nat) : bgs P a false none (m + 1) j = (P.S, j, List.replicate P.K (-1)) :: bgs P a false none m (j + 1) := by
  simp only [bgs]
  rw [if_pos (by simp [bgB])]
  rfl
theorem bgs_mapG (P : Pr) (a : Nat) : ∀ m j : Nat, bgs P a false none m j = (List.range' j m).map fun i => (P.S, i, List.replicate P.K (-1))
  | 0, _ => rfl
  | m + 1, j => by rw [bgs_allG, bgs_mapG P a m (j + 1), List.range'_succ]; rfl
/-- a run from one place alone -/
theorem da_single {A : Nat → Nat → Ac} {m : List Pt} {i j : Nat} {c : List Int} {m' : List Pt} {r : Fd} (h : Da A m [(i, j, c)] m' r) : Df A m i j c m' r := by
  cases h with
  | hit _ _ _ _ _ _ _ hd => exact hd
  | miss _ _ _ _ _ m1 _ _ hd hn => cases hn; exact hd
/-- steps: at least one; of a run from one place alone no more than of one from all -/
theorem steps_plain {P : Pr} {a m : Nat} {r r1 : Fd} {m' m1 : List Pt} (hf : Da P.A [] (bgs P a false none (m + 1) a) m' r) (hg : Da P.A [] (bgs P a true none (m + 1) a) m1 r1) : 1 ≤ m1.length ∧ m1.length ≤ m'.length ∧ (r1.isSome = true → r.isSome = true) := by
  rw [bgs_oneG] at hg
  rw [bgs_allG] at hf
  have hd := da_single hg
  have h1 : 1 ≤ m1.length := by
    have h := (df_sub hd).2.1
    cases m1 with
    | nil => cases h
    | cons _ _ => simp
  cases hf with
  | hit _ _ _ _ _ _ z hd2 =>
    obtain ⟨e1, e2⟩ := df_det hd hd2
    subst e1
    exact ⟨h1, Nat.le_refl _, fun _ => rfl⟩
  | miss _ _ _ _ _ m2 _ _ hd2 hda =>
    obtain ⟨e1, e2⟩ := df_det hd hd2
    subst e1; subst e2
    exact ⟨h1, (da_sub hda).2, fun h => by cases h⟩
/-- a run from all places finds what the first of them finds alone -/
theorem first_plain {P : Pr} (hP : P.Ok) {a len : Nat} (hlen : ∀ i x, P.A len i ≠ .rune x) (ha : a ≤ len) {m' : List Pt} {r : Fd} (hf : Da P.A [] (bgs P a false none (len + 1 - a) a) m' r) :
    (r = none ∧ ∀ i, a ≤ i → i ≤ len → ∃ m2, Df P.A [] P.S i (List.replicate P.K (-1)) m2 none) ∨
    ∃ z j m2, r = some z ∧ a ≤ j ∧ j ≤ len ∧ (∀ i, a ≤ i → i < j → ∃ m3, Df P.A [] P.S i (List.replicate P.K (-1)) m3 none) ∧ Df P.A [] P.S j (List.replicate P.K (-1)) m2 (some z) := by
  have hT : ∀ t ∈ bgs P a false none (len + 1 - a) a, t.1 < P.n ∧ a ≤ t.2.1 ∧ t.2.1 ≤ len ∧ t.2.2.length = P.K := fun t ht => by
    obtain ⟨g1, g2, g3, g4⟩ := bgs_from _ _ _ _ _ _ t ht
    exact ⟨by rw [g1]; exact hP.S, g2, by omega, by rw [g4]; simp⟩
  rcases da_first hP hlen _ [] m' r hT (fun p hp => by cases hp) hf with ⟨e, h⟩ | ⟨z, T1, t, T2, m2, e1, e2, e3, e4⟩
  · refine .inl ⟨e, fun i h1 h2 => ?_⟩
    exact h (P.S, i, List.replicate P.K (-1)) (by rw [bgs_mapG]; exact List.mem_map.2 ⟨i, List.mem_range'_1.2 ⟨h1, by omega⟩, rfl⟩)
  · have hq : ∀ k, k < len + 1 - a → (T1 ++ t :: T2)[k]? = some (P.S, a + k, List.replicate P.K (-1)) := fun k hk => by
      rw [← e2, bgs_mapG, List.getElem?_map, List.getElem?_range' hk]
      simp
    have hl : T1.length < len + 1 - a := by
      have h := congrArg List.length e2
      rw [bgs_mapG] at h
      simp at h
      omega
    have ht : t = (P.S, a + T1.length, List.replicate P.K (-1)) := by
      have h := hq T1.length hl
      simpa using h
    subst ht
    refine .inr ⟨z, a + T1.length, m2, e1, by omega, by omega, fun i h1 h2 => ?_, e4⟩
    have h := hq (i - a) (by omega)
    rw [List.getElem?_append_left (by omega), show a + (i - a) = i by omega] at h
    exact e3 _ (List.mem_of_getElem? h)
end Go.Proofs.YtpckbpimgoljoaaGreat
