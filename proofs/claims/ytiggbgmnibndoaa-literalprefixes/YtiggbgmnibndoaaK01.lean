/- HELPERS: Va, Ta, Tb, Ob, Tc, Ri, Td, Ca, Tg, Cb, Cc, Te, Th, Bh, Ua, Xh, Lb, Lx. -/
import Derived.Deep.SlicePairs
import Derived.RowKit
import Derived.Test.YtiggbgmnibndoaaProg
import Derived.WalkKit
import Derived.ProofKit
import Derived.BigQuiet
import Derived.WalkSmall
import Derived.Deep.QuietTactic
import Derived.Deep.RegionWith
import Derived.Lib.SmallJoins
import Derived.Lib.MinMax
import Derived.Maps.AppendAt
import Derived.Laws.AppendOwnNone
import Derived.Lib.Small
import Derived.Deep.Cut
import Derived.Deep.CutRange
import Derived.Deep.RegionHeld3
import Derived.Laws.EntriesVeiled
import Derived.OrdersHeld
import Derived.StillTail
import Derived.Tactics
import Derived.Below
import Derived.Deep.MidRow
import Derived.Deep.OwnRows
import Derived.Laws.Rows
import Derived.WalkLawsBesides
import Derived.Deep.RegionLaw
import Derived.Laws.CopyOwn
import Derived.Lib.LazyBuf
/- HELPERS: lock step in plain words. -/
namespace Go.Proofs.Ytiggbgmnibndoaa
set_option linter.unusedVariables false
set_option linter.unusedSimpArgs false
/-- what an instruction does at a place -/
inductive Ac where
  | alt (x y : Nat)
  | go (x : Nat)
  | cap (x a : Nat)
  | rune (x : Nat)
  | fit (a : Int)
  | stop
abbrev Th := Nat × List Int
abbrev Fd := Option (Int × List Int)
/-- what there is while a place is visited -/
structure Vst where
  met : List Nat
  next : List Th
  found : Fd
  over : Bool
def Vst.mark (s : Vst) (i : Nat) : Vst := { s with met := s.met ++ [i] }
def vis (A : Nat → Ac) (j : Nat) : Nat → Nat → List Int → Vst → Vst
  | 0, _, _, s => s
  | f + 1, i, c, s =>
    if (s.over || s.met.contains i) = true then s else
    match A i with
    | .alt x y => vis A j f y c (vis A j f x c (s.mark i))
    | .go x => vis A j f x c (s.mark i)
    | .cap x a => vis A j f x (c.set a (j : Int)) (s.mark i)
    | .rune x => { s.mark i with next := s.next ++ [(x, c)] }
    | .fit a => { s.mark i with found := some (a, c), over := true }
    | .stop => s.mark i
def vall (A : Nat → Ac) (j f : Nat) (T : List Th) (s : Vst) : Vst := T.foldl (fun s t => vis A j f t.1 t.2 s) s
def newV (fd : Fd) : Vst := ⟨[], [], fd, false⟩
/-- a program over a text -/
structure Pr where
  A : Nat → Nat → Ac
  n : Nat
  S : Nat
  K : Nat
def bgB (a : Nat) (anch : Bool) (j : Nat) (fd : Fd) : Bool := decide (j = a) || (!anch && fd.isNone)
def place (P : Pr) (a : Nat) (anch : Bool) (j : Nat) (T : List Th) (fd : Fd) : Vst :=
  let s := vall (P.A j) j (P.n + 1) T (newV fd)
  if bgB a anch j fd = true then vis (P.A j) j (P.n + 1) P.S (List.replicate P.K (-1)) s else s
/-- lock step: so many places are left, what is found, how many steps -/
def lock (P : Pr) (a : Nat) (anch : Bool) : Nat → Nat → List Th → Fd → Nat → Fd × Nat
  | 0, _, _, fd, st => (fd, st)
  | m + 1, j, T, fd, st =>
    let s := place P a anch j T fd
    if (decide (m = 0) || (s.next.isEmpty && (s.found.isSome || anch))) = true then (s.found, st + s.met.length)
    else lock P a anch m (j + 1) s.next s.found (st + s.met.length)
/-- the same with no early end -/
def itr (P : Pr) (a : Nat) (anch : Bool) : Nat → Nat → List Th → Fd → List Th × Fd
  | 0, _, T, fd => (T, fd)
  | m + 1, j, T, fd => itr P a anch m (j + 1) (place P a anch j T fd).next (place P a anch j T fd).found
theorem vis_over {A : Nat → Ac} {j f i : Nat} {c : List Int} {s : Vst} (h : s.over = true) : vis A j f i c s = s := by
  cases f with
  | zero => rfl
  | succ f => simp [vis, h]
theorem vall_over {A : Nat → Ac} {j f : Nat} (T : List Th) {s : Vst} (h : s.over = true) : vall A j f T s = s := by
  induction T generalizing s with
  | nil => rfl
  | cons t T ih => simp only [vall, List.foldl_cons]; rw [vis_over h]; exact ih h
theorem vall_cons (A : Nat → Ac) (j f : Nat) (t : Th) (T : List Th) (s : Vst) : vall A j f (t :: T) s = vall A j f T (vis A j f t.1 t.2 s) := rfl
theorem vall_append (A : Nat → Ac) (j f : Nat) (T U : List Th) (s : Vst) : vall A j f (T ++ U) s = vall A j f U (vall A j f T s) := by simp [vall, List.foldl_append]
/-- the program's instructions lead to instructions of it -/
def Ac.ok (n : Nat) : Ac → Prop
  | .alt x y => x < n ∧ y < n
  | .go x => x < n
  | .cap x _ => x < n
  | .rune x => x < n
  | .fit _ => True
  | .stop => True
structure Inv (n K : Nat) (s : Vst) : Prop where
  nd : s.met.Nodup
  lt : ∀ k ∈ s.met, k < n
  nx : ∀ t ∈ s.next, t.1 < n ∧ t.2.length = K
  le : s.next.length ≤ s.met.length
  fd : ∀ y, s.found = some y → y.2.length = K
theorem nodup_le {n : Nat} {l : List Nat} (h : l.Nodup) (hl : ∀ k ∈ l, k < n) : l.length ≤ n := by
  induction n generalizing l with
  | zero =>
    cases l with
    | nil => simp
    | cons a l => exact absurd (hl a List.mem_cons_self) (by omega)
  | succ n ih =>
    have h1 := ih (l := l.erase n) (h.erase n) (fun k hk => by
      have h2 := (List.Nodup.mem_erase_iff h).1 hk
      have := hl k h2.2
      have := h2.1
      omega)
    have := List.length_erase (a := n) (l := l)
    split at this <;> omega
theorem Inv.small {n K : Nat} {s : Vst} (h : Inv n K s) : s.met.length ≤ n := nodup_le h.nd h.lt
theorem Inv.mark {n K : Nat} {s : Vst} (h : Inv n K s) {i : Nat} (hi : i < n) (hm : i ∉ s.met) : Inv n K (s.mark i) := by
  refine ⟨?_, fun k hk => ?_, h.nx, ?_, h.fd⟩
  · simp only [Vst.mark]
    rw [List.nodup_append]
    refine ⟨h.nd, by simp, fun a ha b hb => ?_⟩
    simp at hb
    subst hb
    exact fun e => hm (e ▸ ha)
  · simp only [Vst.mark, List.mem_append, List.mem_singleton] at hk
    rcases hk with hk | rfl
    · exact h.lt k hk
    · exact hi
  · have := h.le
    simp only [Vst.mark, List.length_append, List.length_singleton]
    omega
theorem new_inv (n K : Nat) (fd : Fd) (hfd : ∀ y, fd = some y → y.2.length = K) : Inv n K (newV fd) := ⟨by simp [newV], by simp [newV], by simp [newV], by simp [newV], hfd⟩
theorem not_met {s : Vst} {i : Nat} (h : ¬ (s.over || s.met.contains i) = true) : s.over = false ∧ i ∉ s.met := by
  simp at h
  exact h
theorem vis_inv {A : Nat → Ac} {j n K : Nat} (hA : ∀ i, i < n → (A i).ok n) : ∀ (f i : Nat) (c : List Int) (s : Vst), i < n → c.length = K → Inv n K s → Inv n K (vis A j f i c s) := by
  intro f
  induction f with
  | zero => intro i c s _ _ h; exact h
  | succ f ih =>
    intro i c s hi hc h
    unfold vis
    split
    · exact h
    · rename_i hm
      obtain ⟨ho, hm⟩ := not_met hm
      have h1 := h.mark hi hm
      have hok := hA i hi
      split
      · rename_i x y e
        rw [e] at hok
        exact ih _ _ _ hok.2 hc (ih _ _ _ hok.1 hc h1)
      · rename_i x e
        rw [e] at hok
        exact ih _ _ _ hok hc h1
      · rename_i x a e
        rw [e] at hok
        exact ih _ _ _ hok (by simpa using hc) h1
      · rename_i x e
        rw [e] at hok
        refine ⟨h1.nd, h1.lt, fun t ht => ?_, ?_, h1.fd⟩
        · simp only [List.mem_append, List.mem_singleton] at ht
          rcases ht with ht | rfl
          · exact h.nx t ht
          · exact ⟨hok, hc⟩
        · have := h.le
          simp only [Vst.mark, List.length_append, List.length_singleton]
          omega
      · refine ⟨h1.nd, h1.lt, h1.nx, h1.le, fun y hy => ?_⟩
        simp only [Option.some.injEq] at hy
        subst hy
        exact hc
      · exact h1
theorem vall_inv {A : Nat → Ac} {j n K f : Nat} (hA : ∀ i, i < n → (A i).ok n) : ∀ (T : List Th) (s : Vst), (∀ t ∈ T, t.1 < n ∧ t.2.length = K) → Inv n K s → Inv n K (vall A j f T s) := by
  intro T
  induction T with
  | nil => intro s _ h; exact h
  | cons t T ih =>
    intro s hT h
    rw [vall_cons]
    exact ih _ (fun u hu => hT u (List.mem_cons_of_mem _ hu)) (vis_inv hA f t.1 t.2 s (hT t List.mem_cons_self).1 (hT t List.mem_cons_self).2 h)
structure Pr.Ok (P : Pr) : Prop where
  ok : ∀ j i, i < P.n → (P.A j i).ok P.n
  S : P.S < P.n
theorem place_inv {P : Pr} (hP : P.Ok) {a j : Nat} {anch : Bool} {T : List Th} {fd : Fd} (hT : ∀ t ∈ T, t.1 < P.n ∧ t.2.length = P.K) (hfd : ∀ y, fd = some y → y.2.length = P.K) : Inv P.n P.K (place P a anch j T fd) := by
  have h := vall_inv (j := j) (f := P.n + 1) (hP.ok j) T (newV fd) hT (new_inv P.n P.K fd hfd)
  unfold place
  dsimp only
  split
  · exact vis_inv (hP.ok j) _ _ _ _ hP.S (by simp) h
  · exact h
/-- what a visit leaves as it was -/
structure Grow (s t : Vst) : Prop where
  met : ∃ m, t.met = s.met ++ m
  next : ∃ x, t.next = s.next ++ x
  found : t.over = false → t.found = s.found ∧ s.over = false
  some : s.found.isSome = true → t.found.isSome = true
theorem Grow.refl (s : Vst) : Grow s s := ⟨⟨[], by simp⟩, ⟨[], by simp⟩, fun h => ⟨rfl, h⟩, id⟩
theorem Grow.trans {s t u : Vst} (h : Grow s t) (k : Grow t u) : Grow s u := by
  obtain ⟨m, hm⟩ := h.met
  obtain ⟨m2, hm2⟩ := k.met
  obtain ⟨x, hx⟩ := h.next
  obtain ⟨x2, hx2⟩ := k.next
  refine ⟨⟨m ++ m2, by rw [hm2, hm, List.append_assoc]⟩, ⟨x ++ x2, by rw [hx2, hx, List.append_assoc]⟩, fun ho => ?_, fun hs => k.some (h.some hs)⟩
  obtain ⟨h1, h2⟩ := k.found ho
  obtain ⟨h3, h4⟩ := h.found h2
  exact ⟨h1.trans h3, h4⟩
theorem Grow.mark (s : Vst) (i : Nat) : Grow s (s.mark i) := ⟨⟨[i], rfl⟩, ⟨[], by simp [Vst.mark]⟩, fun h => ⟨rfl, h⟩, id⟩
theorem vis_grow {A : Nat → Ac} {j : Nat} : ∀ (f i : Nat) (c : List Int) (s : Vst), Grow s (vis A j f i c s) := by
  intro f
  induction f with
  | zero => intro i c s; exact Grow.refl s
  | succ f ih =>
    intro i c s
    unfold vis
    split
    · exact Grow.refl s
    · rename_i hm
      obtain ⟨ho, hm⟩ := not_met hm
      have h1 := Grow.mark s i
      split
      · exact h1.trans ((ih _ _ _).trans (ih _ _ _))
      · exact h1.trans (ih _ _ _)
      · exact h1.trans (ih _ _ _)
      · exact ⟨⟨[i], rfl⟩, ⟨[_], rfl⟩, fun h => ⟨rfl, h⟩, id⟩
      · exact ⟨⟨[i], rfl⟩, ⟨[], by simp [Vst.mark]⟩, fun h => by simp at h, fun _ => rfl⟩
      · exact h1
theorem vall_grow {A : Nat → Ac} {j f : Nat} : ∀ (T : List Th) (s : Vst), Grow s (vall A j f T s) := by
  intro T
  induction T with
  | nil => intro s; exact Grow.refl s
  | cons t T ih => intro s; rw [vall_cons]; exact (vis_grow f t.1 t.2 s).trans (ih _)
theorem place_grow (P : Pr) (a j : Nat) (anch : Bool) (T : List Th) (fd : Fd) : Grow (newV fd) (place P a anch j T fd) := by
  unfold place
  dsimp only
  split
  · exact (vall_grow T _).trans (vis_grow _ _ _ _)
  · exact vall_grow T _
/-- an instruction at a place leads to a match -/
inductive Rch (A : Nat → Nat → Ac) : Nat → Nat → Prop
  | fit {i j : Nat} (a : Int) : A j i = .fit a → Rch A i j
  | altx {i j : Nat} (x y : Nat) : A j i = .alt x y → Rch A x j → Rch A i j
  | alty {i j : Nat} (x y : Nat) : A j i = .alt x y → Rch A y j → Rch A i j
  | go {i j : Nat} (x : Nat) : A j i = .go x → Rch A x j → Rch A i j
  | cap {i j : Nat} (x a : Nat) : A j i = .cap x a → Rch A x j → Rch A i j
  | rune {i j : Nat} (x : Nat) : A j i = .rune x → Rch A x (j + 1) → Rch A i j
/-- what a visit leaves of what leads to a match, where it does not lead to one -/
structure Dead (A : Nat → Nat → Ac) (j : Nat) (s t : Vst) : Prop where
  over : t.over = s.over
  found : t.found = s.found
  met : ∀ k, Rch A k j → (k ∈ t.met ↔ k ∈ s.met)
  next : ∃ D, t.next = s.next ++ D ∧ ∀ u ∈ D, ¬ Rch A u.1 (j + 1)
theorem Dead.refl (A : Nat → Nat → Ac) (j : Nat) (s : Vst) : Dead A j s s := ⟨rfl, rfl, fun _ _ => Iff.rfl, [], by simp, by simp⟩
theorem Dead.trans {A : Nat → Nat → Ac} {j : Nat} {s t u : Vst} (h : Dead A j s t) (k : Dead A j t u) : Dead A j s u := by
  obtain ⟨D, hD, hD'⟩ := h.next
  obtain ⟨E, hE, hE'⟩ := k.next
  refine ⟨k.over.trans h.over, k.found.trans h.found, fun x hx => (k.met x hx).trans (h.met x hx), D ++ E, by rw [hE, hD, List.append_assoc], fun v hv => ?_⟩
  rcases List.mem_append.1 hv with hv | hv
  · exact hD' v hv
  · exact hE' v hv
theorem Dead.mark {A : Nat → Nat → Ac} {j i : Nat} (s : Vst) (h : ¬ Rch A i j) : Dead A j s (s.mark i) := by
  refine ⟨rfl, rfl, fun k hk => ?_, [], by simp [Vst.mark], by simp⟩
  simp only [Vst.mark, List.mem_append, List.mem_singleton]
  constructor
  · rintro (h' | rfl)
    · exact h'
    · exact absurd hk h
  · exact .inl
theorem vis_dead {A : Nat → Nat → Ac} {j : Nat} : ∀ (f i : Nat) (c : List Int) (s : Vst), ¬ Rch A i j → Dead A j s (vis (A j) j f i c s) := by
  intro f
  induction f with
  | zero => intro i c s _; exact Dead.refl A j s
  | succ f ih =>
    intro i c s hd
    unfold vis
    split
    · exact Dead.refl A j s
    · have h1 := Dead.mark s hd
      split
      · rename_i x y e
        exact h1.trans ((ih _ _ _ (fun h => hd (.altx x y e h))).trans (ih _ _ _ (fun h => hd (.alty x y e h))))
      · rename_i x e
        exact h1.trans (ih _ _ _ (fun h => hd (.go x e h)))
      · rename_i x a e
        exact h1.trans (ih _ _ _ (fun h => hd (.cap x a e h)))
      · rename_i x e
        refine ⟨rfl, rfl, h1.met, [(x, c)], rfl, fun u hu => ?_⟩
        simp at hu
        subst hu
        exact fun h => hd (.rune x e h)
      · rename_i a e
        exact absurd (.fit a e) hd
      · exact h1
theorem vall_dead {A : Nat → Nat → Ac} {j f : Nat} : ∀ (T : List Th) (s : Vst), (∀ t ∈ T, ¬ Rch A t.1 j) → Dead A j s (vall (A j) j f T s) := by
  intro T
  induction T with
  | nil => intro s _; exact Dead.refl A j s
  | cons t T ih =>
    intro s h
    rw [vall_cons]
    exact (vis_dead f t.1 t.2 s (h t List.mem_cons_self)).trans (ih _ (fun u hu => h u (List.mem_cons_of_mem _ hu)))
/-- the same threads that lead to a match, in the same order -/
inductive Sim (A : Nat → Nat → Ac) (j : Nat) : List Th → List Th → Prop
  | nil : Sim A j [] []
  | l (t : Th) (T U : List Th) : ¬ Rch A t.1 j → Sim A j T U → Sim A j (t :: T) U
  | r (t : Th) (T U : List Th) : ¬ Rch A t.1 j → Sim A j T U → Sim A j T (t :: U)
  | b (t : Th) (T U : List Th) : Sim A j T U → Sim A j (t :: T) (t :: U)
theorem Sim.append {A : Nat → Nat → Ac} {j : Nat} {T U T' U' : List Th} (h : Sim A j T U) (h' : Sim A j T' U') : Sim A j (T ++ T') (U ++ U') := by
  induction h with
  | nil => exact h'
  | l t T U hd _ ih => exact .l t _ _ hd ih
  | r t T U hd _ ih => exact .r t _ _ hd ih
  | b t T U _ ih => exact .b t _ _ ih
theorem Sim.deadL {A : Nat → Nat → Ac} {j : Nat} : ∀ (D : List Th), (∀ u ∈ D, ¬ Rch A u.1 j) → Sim A j D []
  | [], _ => .nil
  | t :: D, h => .l t _ _ (h t List.mem_cons_self) (Sim.deadL D (fun u hu => h u (List.mem_cons_of_mem _ hu)))
theorem Sim.deadR {A : Nat → Nat → Ac} {j : Nat} : ∀ (D : List Th), (∀ u ∈ D, ¬ Rch A u.1 j) → Sim A j [] D
  | [], _ => .nil
  | t :: D, h => .r t _ _ (h t List.mem_cons_self) (Sim.deadR D (fun u hu => h u (List.mem_cons_of_mem _ hu)))
/-- two visits of one place that are the same in what leads to a match -/
structure Rho (A : Nat → Nat → Ac) (j : Nat) (s t : Vst) : Prop where
  over : s.over = t.over
  found : s.over = true → s.found = t.found
  met : ∀ k, Rch A k j → (k ∈ s.met ↔ k ∈ t.met)
  next : Sim A (j + 1) s.next t.next
theorem Rho.left {A : Nat → Nat → Ac} {j : Nat} {s s' t : Vst} (h : Rho A j s t) (d : Dead A j s s') : Rho A j s' t := by
  obtain ⟨D, hD, hD'⟩ := d.next
  refine ⟨d.over.trans h.over, fun ho => d.found.trans (h.found (d.over ▸ ho)), fun k hk => (d.met k hk).trans (h.met k hk), ?_⟩
  rw [hD]
  have := h.next.append (Sim.deadL D hD')
  simpa using this
theorem Rho.right {A : Nat → Nat → Ac} {j : Nat} {s t t' : Vst} (h : Rho A j s t) (d : Dead A j t t') : Rho A j s t' := by
  obtain ⟨D, hD, hD'⟩ := d.next
  refine ⟨h.over.trans d.over.symm, fun ho => (h.found ho).trans d.found.symm, fun k hk => (h.met k hk).trans (d.met k hk).symm, ?_⟩
  rw [hD]
  have := h.next.append (Sim.deadR D hD')
  simpa using this
theorem Rho.mark {A : Nat → Nat → Ac} {j : Nat} {s t : Vst} (h : Rho A j s t) (i : Nat) : Rho A j (s.mark i) (t.mark i) := by
  refine ⟨h.over, h.found, fun k hk => ?_, h.next⟩
  simp only [Vst.mark, List.mem_append, List.mem_singleton]
  rw [h.met k hk]
theorem vis_rho {A : Nat → Nat → Ac} {j : Nat} : ∀ (f i : Nat) (c : List Int) (s t : Vst), Rho A j s t → Rho A j (vis (A j) j f i c s) (vis (A j) j f i c t) := by
  intro f
  induction f with
  | zero => intro i c s t h; exact h
  | succ f ih =>
    intro i c s t h
    by_cases hr : Rch A i j
    · have hm := h.met i hr
      have ho := h.over
      have e : (s.over || s.met.contains i) = (t.over || t.met.contains i) := by
        rw [ho]
        congr 1
        rw [Bool.eq_iff_iff]
        simpa using hm
      unfold vis
      rw [e]
      split
      · exact h
      · have h1 := h.mark i
        split
        · exact ih _ _ _ _ (ih _ _ _ _ h1)
        · exact ih _ _ _ _ h1
        · exact ih _ _ _ _ h1
        · exact ⟨h1.over, h1.found, h1.met, h1.next.append (.b _ _ _ .nil)⟩
        · exact ⟨rfl, fun _ => rfl, h1.met, h1.next⟩
        · exact h1
    · exact (h.left (vis_dead _ _ _ _ hr)).right (vis_dead _ _ _ _ hr)
theorem vall_rho {A : Nat → Nat → Ac} {j f : Nat} {T U : List Th} (hS : Sim A j T U) : ∀ (s t : Vst), Rho A j s t → Rho A j (vall (A j) j f T s) (vall (A j) j f U t) := by
  induction hS with
  | nil => intro s t h; exact h
  | l u T U hd _ ih => intro s t h; rw [vall_cons]; exact ih _ _ (h.left (vis_dead _ _ _ _ hd))
  | r u T U hd _ ih => intro s t h; rw [vall_cons]; exact ih _ _ (h.right (vis_dead _ _ _ _ hd))
  | b u T U _ ih => intro s t h; rw [vall_cons, vall_cons]; exact ih _ _ (vis_rho _ _ _ _ _ h)
/-- an anchored run's threads and found beside those of one that is not -/
def Beside (A : Nat → Nat → Ac) (j : Nat) (TA TU : List Th) (fa fu : Fd) : Prop :=
  ∃ U X, TU = U ++ X ∧ Sim A j TA U ∧ (fa.isSome = true → X = [] ∧ fu = fa)
theorem place_beside {P : Pr} {a b j : Nat} {TA TU : List Th} {fa fu : Fd} (hj : b < j) (ha : a ≤ b) (h : Beside P.A j TA TU fa fu) :
    Beside P.A (j + 1) (place P b true j TA fa).next (place P a false j TU fu).next (place P b true j TA fa).found (place P a false j TU fu).found := by
  obtain ⟨U, X, rfl, hS, hF⟩ := h
  have h0 : Rho P.A j (newV fa) (newV fu) := ⟨rfl, fun h => by simp [newV] at h, fun k _ => by simp [newV], .nil⟩
  have h1 := vall_rho (f := P.n + 1) hS _ _ h0
  have e1 : place P b true j TA fa = vall (P.A j) j (P.n + 1) TA (newV fa) := by
    unfold place
    have : bgB b true j fa = false := by simp [bgB]; omega
    rw [this]; simp
  obtain ⟨t', e2, ht'⟩ : ∃ t', place P a false j (U ++ X) fu = t' ∧ Grow (vall (P.A j) j (P.n + 1) U (newV fu)) t' ∧ ((vall (P.A j) j (P.n + 1) U (newV fu)).over = true ∨ fa.isSome = true → t' = vall (P.A j) j (P.n + 1) U (newV fu)) := by
    refine ⟨_, rfl, ?_, ?_⟩
    · unfold place
      dsimp only
      rw [vall_append]
      split
      · exact (vall_grow X _).trans (vis_grow _ _ _ _)
      · exact vall_grow X _
    · rintro (ho | hs)
      · unfold place
        dsimp only
        rw [vall_append, vall_over X ho, vis_over ho]
        simp
      · obtain ⟨rfl, rfl⟩ := hF hs
        unfold place
        have : bgB a false j fu = false := by
          have : fu.isNone = false := by cases fu <;> simp_all
          simp [bgB, this]; omega
        rw [this]; simp
  rw [e1, e2]
  generalize hs : vall (P.A j) j (P.n + 1) TA (newV fa) = s at h1 ⊢
  generalize ht : vall (P.A j) j (P.n + 1) U (newV fu) = t at h1 ht' ⊢
  have gs : Grow (newV fa) s := hs ▸ vall_grow TA _
  have gt : Grow (newV fu) t := ht ▸ vall_grow U _
  obtain ⟨g1, g2⟩ := ht'
  by_cases ho : t.over = true
  · rw [g2 (.inl ho)]
    exact ⟨t.next, [], by simp, h1.next, fun _ => ⟨rfl, (h1.found (h1.over.trans ho)).symm⟩⟩
  · have hto : t.over = false := by simpa using ho
    have hso : s.over = false := h1.over.trans hto
    have hsf : s.found = fa := (gs.found hso).1
    by_cases hs' : fa.isSome = true
    · rw [g2 (.inr hs')]
      exact ⟨t.next, [], by simp, h1.next, fun _ => ⟨rfl, by rw [(gt.found hto).1, hsf]; exact (hF hs').2⟩⟩
    · obtain ⟨x, hx⟩ := g1.next
      exact ⟨t.next, x, hx, h1.next, fun h => absurd (hsf ▸ h) hs'⟩
theorem itr_beside {P : Pr} {a b : Nat} (ha : a ≤ b) : ∀ (m j : Nat) (TA TU : List Th) (fa fu : Fd), b < j → Beside P.A j TA TU fa fu → ((itr P b true m j TA fa).2.isSome = true → (itr P a false m j TU fu).2 = (itr P b true m j TA fa).2) := by
  intro m
  induction m with
  | zero =>
    intro j TA TU fa fu _ h hs
    obtain ⟨U, X, _, _, hF⟩ := h
    exact (hF hs).2
  | succ m ih =>
    intro j TA TU fa fu hj h hs
    exact ih _ _ _ _ _ (by omega) (place_beside hj ha h) hs
theorem itr_add (P : Pr) (a : Nat) (anch : Bool) : ∀ (m k j : Nat) (T : List Th) (fd : Fd), itr P a anch (m + k) j T fd = itr P a anch k (j + m) (itr P a anch m j T fd).1 (itr P a anch m j T fd).2 := by
  intro m
  induction m with
  | zero => intro k j T fd; simp [itr]
  | succ m ih =>
    intro k j T fd
    rw [show m + 1 + k = (m + k) + 1 by omega]
    simp only [itr]
    rw [ih]
    rw [show j + 1 + m = j + (m + 1) by omega]
/-- where nothing leads to a match nothing is found -/
theorem itr_dead {P : Pr} {a : Nat} {anch : Bool} : ∀ (m j : Nat) (T : List Th), (∀ t ∈ T, ¬ Rch P.A t.1 j) → (∀ b, j ≤ b → b < j + m → (b = a ∨ anch = false) → ¬ Rch P.A P.S b) →
    (itr P a anch m j T none).2 = none ∧ ∀ t ∈ (itr P a anch m j T none).1, ¬ Rch P.A t.1 (j + m) := by
  intro m
  induction m with
  | zero => intro j T h _; exact ⟨rfl, h⟩
  | succ m ih =>
    intro j T h hb
    have hd : Dead P.A j (newV none) (place P a anch j T none) := by
      unfold place
      dsimp only
      have h1 := vall_dead (f := P.n + 1) T (newV none) h
      split
      · rename_i hbeg
        refine h1.trans (vis_dead _ _ _ _ (hb j (Nat.le_refl _) (by omega) ?_))
        simp [bgB] at hbeg
        exact hbeg
      · exact h1
    obtain ⟨D, hD, hD'⟩ := hd.next
    have hf : (place P a anch j T none).found = none := hd.found
    simp only [itr]
    rw [hf]
    have := ih (j + 1) (place P a anch j T none).next (fun t ht => hD' t (by rw [hD] at ht; simpa [newV] using ht)) (fun b h1 h2 => hb b (by omega) (by omega))
    rw [show j + (m + 1) = j + 1 + m by omega]
    exact this
/-- what was visited is closed -/
def Shut (A : Nat → Nat → Ac) (j : Nat) (s : Vst) (k : Nat) : Prop :=
  match A j k with
  | .alt x y => x ∈ s.met ∧ y ∈ s.met
  | .go x => x ∈ s.met
  | .cap x _ => x ∈ s.met
  | .rune x => ∃ c, (x, c) ∈ s.next
  | .fit _ => False
  | .stop => True
theorem Shut.grow {A : Nat → Nat → Ac} {j k : Nat} {s t : Vst} (h : Shut A j s k) (g : Grow s t) : Shut A j t k := by
  obtain ⟨m, hm⟩ := g.met
  obtain ⟨x, hx⟩ := g.next
  unfold Shut at h ⊢
  split <;> rename_i e <;> rw [e] at h <;> simp only at h
  · rw [hm]; exact ⟨List.mem_append_left _ h.1, List.mem_append_left _ h.2⟩
  · rw [hm]; exact List.mem_append_left _ h
  · rw [hm]; exact List.mem_append_left _ h
  · obtain ⟨c, hc⟩ := h
    exact ⟨c, by rw [hx]; exact List.mem_append_left _ hc⟩
  · trivial
theorem vis_shut {A : Nat → Nat → Ac} {j n K : Nat} (hA : ∀ i, i < n → (A j i).ok n) : ∀ (f i : Nat) (c : List Int) (s : Vst), i < n → c.length = K → Inv n K s → n < f + s.met.length → (vis (A j) j f i c s).over = false →
    i ∈ (vis (A j) j f i c s).met ∧ ∀ k ∈ (vis (A j) j f i c s).met, k ∈ s.met ∨ Shut A j (vis (A j) j f i c s) k := by
  intro f
  induction f with
  | zero => intro i c s hi hc h hf ho; have := h.small; omega
  | succ f ih =>
    intro i c s hi hc h hf ho
    unfold vis at ho ⊢
    split at ho
    · rename_i hm
      rw [if_pos hm]
      have hso : s.over = false := ho
      rw [hso] at hm
      simp at hm
      exact ⟨hm, fun k hk => .inl hk⟩
    · rename_i hm
      rw [if_neg hm]
      obtain ⟨hso, hm⟩ := not_met hm
      have h1 := h.mark hi hm
      have hok := hA i hi
      have hl1 : (s.mark i).met.length = s.met.length + 1 := by simp [Vst.mark]
      have hi1 : i ∈ (s.mark i).met := by simp [Vst.mark]
      split at ho
      · rename_i x y e
        rw [e] at hok
        have hiv := vis_inv (j := j) hA f x c _ hok.1 hc h1
        have g2 := vis_grow (A := A j) (j := j) f y c (vis (A j) j f x c (s.mark i))
        have g1 := vis_grow (A := A j) (j := j) f x c (s.mark i)
        have hox := (g2.found ho).2
        obtain ⟨m1, hm1⟩ := g1.met
        obtain ⟨m2, hm2⟩ := g2.met
        obtain ⟨p1, p2⟩ := ih x c (s.mark i) hok.1 hc h1 (by omega) hox
        obtain ⟨q1, q2⟩ := ih y c _ hok.2 hc hiv (by rw [hm1]; simp; omega) ho
        refine ⟨by rw [hm2, hm1]; exact List.mem_append_left _ (List.mem_append_left _ hi1), fun k hk => ?_⟩
        rcases q2 k hk with hk | hk
        · rcases p2 k hk with hk | hk
          · simp only [Vst.mark, List.mem_append, List.mem_singleton] at hk
            rcases hk with hk | rfl
            · exact .inl hk
            · right
              unfold Shut
              rw [e]
              exact ⟨by rw [hm2]; exact List.mem_append_left _ p1, q1⟩
          · exact .inr (hk.grow g2)
        · exact .inr hk
      · rename_i x e
        rw [e] at hok
        have g1 := vis_grow (A := A j) (j := j) f x c (s.mark i)
        obtain ⟨m1, hm1⟩ := g1.met
        obtain ⟨p1, p2⟩ := ih x c (s.mark i) hok hc h1 (by omega) ho
        refine ⟨by rw [hm1]; exact List.mem_append_left _ hi1, fun k hk => ?_⟩
        rcases p2 k hk with hk | hk
        · simp only [Vst.mark, List.mem_append, List.mem_singleton] at hk
          rcases hk with hk | rfl
          · exact .inl hk
          · right; unfold Shut; rw [e]; exact p1
        · exact .inr hk
      · rename_i x a e
        rw [e] at hok
        have g1 := vis_grow (A := A j) (j := j) f x (c.set a (j : Int)) (s.mark i)
        obtain ⟨m1, hm1⟩ := g1.met
        obtain ⟨p1, p2⟩ := ih x (c.set a (j : Int)) (s.mark i) hok (by simpa using hc) h1 (by omega) ho
        refine ⟨by rw [hm1]; exact List.mem_append_left _ hi1, fun k hk => ?_⟩
        rcases p2 k hk with hk | hk
        · simp only [Vst.mark, List.mem_append, List.mem_singleton] at hk
          rcases hk with hk | rfl
          · exact .inl hk
          · right; unfold Shut; rw [e]; exact p1
        · exact .inr hk
      · rename_i x e
        refine ⟨hi1, fun k hk => ?_⟩
        simp only [Vst.mark, List.mem_append, List.mem_singleton] at hk
        rcases hk with hk | rfl
        · exact .inl hk
        · right; unfold Shut; rw [e]; exact ⟨c, by simp⟩
      · simp at ho
      · rename_i e
        refine ⟨hi1, fun k hk => ?_⟩
        simp only [Vst.mark, List.mem_append, List.mem_singleton] at hk
        rcases hk with hk | rfl
        · exact .inl hk
        · right; unfold Shut; rw [e]; trivial
theorem vall_shut {A : Nat → Nat → Ac} {j n K f : Nat} (hA : ∀ i, i < n → (A j i).ok n) (hf : n < f) : ∀ (T : List Th) (s : Vst), (∀ t ∈ T, t.1 < n ∧ t.2.length = K) → Inv n K s → (vall (A j) j f T s).over = false →
    (∀ t ∈ T, t.1 ∈ (vall (A j) j f T s).met) ∧ ∀ k ∈ (vall (A j) j f T s).met, k ∈ s.met ∨ Shut A j (vall (A j) j f T s) k := by
  intro T
  induction T with
  | nil => intro s _ _ _; exact ⟨by simp, fun k hk => .inl hk⟩
  | cons t T ih =>
    intro s hT h ho
    rw [vall_cons] at ho ⊢
    have ht := hT t List.mem_cons_self
    have g := vall_grow (A := A j) (j := j) (f := f) T (vis (A j) j f t.1 t.2 s)
    obtain ⟨m, hm⟩ := g.met
    obtain ⟨p1, p2⟩ := vis_shut hA f t.1 t.2 s ht.1 ht.2 h (by omega) (g.found ho).2
    obtain ⟨q1, q2⟩ := ih _ (fun u hu => hT u (List.mem_cons_of_mem _ hu)) (vis_inv hA f t.1 t.2 s ht.1 ht.2 h) ho
    refine ⟨fun u hu => ?_, fun k hk => ?_⟩
    · rcases List.mem_cons.1 hu with rfl | hu
      · rw [hm]; exact List.mem_append_left _ p1
      · exact q1 u hu
    · rcases q2 k hk with hk | hk
      · rcases p2 k hk with hk | hk
        · exact .inl hk
        · exact .inr (hk.grow g)
      · exact .inr hk
/-- where a place finds no match: all threads, and the one that begins, are met, and what is met is shut -/
theorem place_shut {P : Pr} (hP : P.Ok) {a j : Nat} {anch : Bool} {T : List Th} {fd : Fd} (hT : ∀ t ∈ T, t.1 < P.n ∧ t.2.length = P.K) (hfd : ∀ y, fd = some y → y.2.length = P.K) (ho : (place P a anch j T fd).over = false) :
    (∀ t ∈ T, t.1 ∈ (place P a anch j T fd).met) ∧ (bgB a anch j fd = true → P.S ∈ (place P a anch j T fd).met) ∧ ∀ k ∈ (place P a anch j T fd).met, Shut P.A j (place P a anch j T fd) k := by
  have hi := vall_inv (j := j) (f := P.n + 1) (hP.ok j) T (newV fd) hT (new_inv P.n P.K fd hfd)
  unfold place at ho ⊢
  dsimp only at ho ⊢
  split at ho
  · rename_i hb
    rw [if_pos hb]
    have g := vis_grow (A := P.A j) (j := j) (P.n + 1) P.S (List.replicate P.K (-1)) (vall (P.A j) j (P.n + 1) T (newV fd))
    obtain ⟨m, hm⟩ := g.met
    obtain ⟨p1, p2⟩ := vall_shut (hP.ok j) (Nat.lt_succ_self _) T (newV fd) hT (new_inv P.n P.K fd hfd) (g.found ho).2
    obtain ⟨q1, q2⟩ := vis_shut (hP.ok j) _ _ _ _ hP.S (by simp) hi (by omega) ho
    refine ⟨fun t ht => by rw [hm]; exact List.mem_append_left _ (p1 t ht), fun _ => q1, fun k hk => ?_⟩
    rcases q2 k hk with hk | hk
    · rcases p2 k hk with hk | hk
      · simp [newV] at hk
      · exact hk.grow g
    · exact hk
  · rename_i hb
    rw [if_neg hb]
    obtain ⟨p1, p2⟩ := vall_shut (hP.ok j) (Nat.lt_succ_self _) T (newV fd) hT (new_inv P.n P.K fd hfd) ho
    refine ⟨p1, fun h => absurd h hb, fun k hk => ?_⟩
    rcases p2 k hk with hk | hk
    · simp [newV] at hk
    · exact hk
theorem shut_dead {A : Nat → Nat → Ac} {j : Nat} {s : Vst} (hs : ∀ k ∈ s.met, Shut A j s k) (hn : ∀ t ∈ s.next, ¬ Rch A t.1 (j + 1)) : ∀ {i j' : Nat}, Rch A i j' → j' = j → i ∉ s.met := by
  intro i j' h
  induction h with
  | fit a e => intro hj hm; subst hj; have := hs _ hm; unfold Shut at this; rw [e] at this; exact this
  | altx x y e _ ih => intro hj hm; subst hj; have := hs _ hm; unfold Shut at this; rw [e] at this; exact ih rfl this.1
  | alty x y e _ ih => intro hj hm; subst hj; have := hs _ hm; unfold Shut at this; rw [e] at this; exact ih rfl this.2
  | go x e _ ih => intro hj hm; subst hj; have := hs _ hm; unfold Shut at this; rw [e] at this; exact ih rfl this
  | cap x a e _ ih => intro hj hm; subst hj; have := hs _ hm; unfold Shut at this; rw [e] at this; exact ih rfl this
  | rune x e hr ih =>
    intro hj hm
    subst hj
    have := hs _ hm
    unfold Shut at this
    rw [e] at this
    obtain ⟨c, hc⟩ := this
    exact hn _ hc hr
theorem itr_some {P : Pr} {a : Nat} {anch : Bool} : ∀ (m j : Nat) (T : List Th) (fd : Fd), fd.isSome = true → (itr P a anch m j T fd).2.isSome = true := by
  intro m
  induction m with
  | zero => intro j T fd h; exact h
  | succ m ih => intro j T fd h; exact ih _ _ _ ((place_grow P a j anch T fd).some h)
theorem over_found {A : Nat → Ac} {j : Nat} : ∀ (f i : Nat) (c : List Int) (s : Vst), (s.over = true → s.found.isSome = true) → (vis A j f i c s).over = true → (vis A j f i c s).found.isSome = true := by
  intro f
  induction f with
  | zero => intro i c s h; exact h
  | succ f ih =>
    intro i c s h
    unfold vis
    split
    · exact h
    · split
      · exact ih _ _ _ (ih _ _ _ h)
      · exact ih _ _ _ h
      · exact ih _ _ _ h
      · exact h
      · intro _; rfl
      · exact h
theorem vall_over_found {A : Nat → Ac} {j f : Nat} : ∀ (T : List Th) (s : Vst), (s.over = true → s.found.isSome = true) → (vall A j f T s).over = true → (vall A j f T s).found.isSome = true := by
  intro T
  induction T with
  | nil => intro s h; exact h
  | cons t T ih => intro s h; rw [vall_cons]; exact ih _ (over_found _ _ _ _ h)
theorem place_over {P : Pr} {a j : Nat} {anch : Bool} {T : List Th} {fd : Fd} (h : (place P a anch j T fd).found = none) : (place P a anch j T fd).over = false := by
  cases ho : (place P a anch j T fd).over
  · rfl
  · exfalso
    have : (place P a anch j T fd).found.isSome = true := by
      unfold place at ho ⊢
      dsimp only at ho ⊢
      have h0 := vall_over_found (A := P.A j) (j := j) (f := P.n + 1) T (newV fd) (fun h => by simp [newV] at h)
      split at ho
      · rename_i hb
        rw [if_pos hb]
        exact over_found _ _ _ _ h0 ho
      · rename_i hb
        rw [if_neg hb]
        exact h0 ho
    rw [h] at this
    cases this
/-- where nothing is found nothing leads to a match -/
theorem itr_none {P : Pr} (hP : P.Ok) {a len : Nat} {anch : Bool} (hlen : ∀ i x, P.A len i ≠ .rune x) : ∀ (m j : Nat) (T : List Th), j + m = len + 1 → (m = 0 → T = []) → (∀ t ∈ T, t.1 < P.n ∧ t.2.length = P.K) → (itr P a anch m j T none).2 = none →
    (∀ t ∈ T, ¬ Rch P.A t.1 j) ∧ ∀ b, j ≤ b → b ≤ len → (b = a ∨ anch = false) → ¬ Rch P.A P.S b := by
  intro m
  induction m with
  | zero => intro j T hj h0 _ _; exact ⟨by rw [h0 rfl]; simp, fun b h1 h2 => by omega⟩
  | succ m ih =>
    intro j T hj _ hT hn
    have hiv := place_inv hP (a := a) (j := j) (anch := anch) (fd := none) hT (by simp)
    simp only [itr] at hn
    have hf : (place P a anch j T none).found = none := by
      cases hf : (place P a anch j T none).found
      · rfl
      · have := itr_some (P := P) (a := a) (anch := anch) m (j + 1) (place P a anch j T none).next (place P a anch j T none).found (by rw [hf]; rfl)
        rw [hn] at this
        cases this
    have ho := place_over hf
    obtain ⟨p1, p2, p3⟩ := place_shut hP hT (by simp) ho
    rw [hf] at hn
    have hm0 : m = 0 → (place P a anch j T none).next = [] := fun e => by
      subst e
      obtain rfl : j = len := by omega
      cases hx : (place P a anch j T none).next with
      | nil => rfl
      | cons t X =>
        exfalso
        have : ∀ (f i : Nat) (c : List Int) (s : Vst), s.next = [] → (vis (P.A j) j f i c s).next = [] := by
          intro f
          induction f with
          | zero => intro i c s h; exact h
          | succ f ihf =>
            intro i c s h
            unfold vis
            split
            · exact h
            · split
              · exact ihf _ _ _ (ihf _ _ _ h)
              · exact ihf _ _ _ h
              · exact ihf _ _ _ h
              · rename_i x e; exact absurd e (hlen _ _)
              · exact h
              · exact h
        have h2 : ∀ (T : List Th) (s : Vst), s.next = [] → (vall (P.A j) j (P.n + 1) T s).next = [] := by
          intro T
          induction T with
          | nil => intro s h; exact h
          | cons t T iht => intro s h; rw [vall_cons]; exact iht _ (this _ _ _ _ h)
        have h3 : (place P a anch j T none).next = [] := by
          unfold place
          dsimp only
          split
          · exact this _ _ _ _ (h2 _ _ rfl)
          · exact h2 _ _ rfl
        rw [h3] at hx
        cases hx
    obtain ⟨q1, q2⟩ := ih (j + 1) (place P a anch j T none).next (by omega) hm0 hiv.nx hn
    have hdead : ∀ {i : Nat}, i ∈ (place P a anch j T none).met → ¬ Rch P.A i j := fun hm hr => shut_dead p3 q1 hr rfl hm
    refine ⟨fun t ht => hdead (p1 t ht), fun b h1 h2 h3 => ?_⟩
    by_cases e : b = j
    · subst e
      refine hdead (p2 ?_)
      simp [bgB]
      exact h3
    · exact q2 b (by omega) h2 h3
theorem place_nil {P : Pr} {a j : Nat} {anch : Bool} {fd : Fd} (hj : j ≠ a) (h : (fd.isSome || anch) = true) : place P a anch j [] fd = newV fd := by
  have : bgB a anch j fd = false := by
    cases fd <;> simp_all [bgB]
  unfold place
  rw [this]
  rfl
theorem itr_nil {P : Pr} {a : Nat} {anch : Bool} {fd : Fd} (h : (fd.isSome || anch) = true) : ∀ (m j : Nat), a < j → (itr P a anch m j [] fd).2 = fd := by
  intro m
  induction m with
  | zero => intro j _; rfl
  | succ m ih =>
    intro j hj
    simp only [itr]
    rw [place_nil (by omega) h]
    exact ih (j + 1) (by omega)
theorem lock_itr (P : Pr) (a : Nat) (anch : Bool) : ∀ (m j : Nat) (T : List Th) (fd : Fd) (st : Nat), a ≤ j → (lock P a anch m j T fd st).1 = (itr P a anch m j T fd).2 := by
  intro m
  induction m with
  | zero => intro j T fd st _; rfl
  | succ m ih =>
    intro j T fd st hj
    simp only [lock, itr]
    split
    · rename_i h
      simp only [Bool.or_eq_true, Bool.and_eq_true, decide_eq_true_eq] at h
      rcases h with rfl | ⟨h1, h2⟩
      · rfl
      · rw [List.isEmpty_iff.1 h1, itr_nil (by simpa using h2) m (j + 1) (by omega)]
    · exact ih _ _ _ _ (by omega)
/-- the run of a program -/
def lockRun (P : Pr) (len a : Nat) (anch : Bool) : Fd × Nat := lock P a anch (len - a + 1) a [] none 0
/-- something is found just if a match can be come to -/
theorem lock_reach {P : Pr} (hP : P.Ok) {len a : Nat} {anch : Bool} (hlen : ∀ i x, P.A len i ≠ .rune x) (ha : a ≤ len) : (lockRun P len a anch).1.isSome = true ↔ ∃ b, a ≤ b ∧ b ≤ len ∧ (b = a ∨ anch = false) ∧ Rch P.A P.S b := by
  unfold lockRun
  rw [lock_itr P a anch _ _ _ _ _ (Nat.le_refl _)]
  constructor
  · intro h
    refine Classical.byContradiction fun hn => ?_
    have := (itr_dead (P := P) (a := a) (anch := anch) (len - a + 1) a [] (by simp) (fun b h1 h2 h3 h4 => hn ⟨b, h1, by omega, h3, h4⟩)).1
    rw [this] at h
    cases h
  · rintro ⟨b, h1, h2, h3, h4⟩
    cases hf : (itr P a anch (len - a + 1) a [] none).2 with
    | some y => rfl
    | none =>
      exfalso
      exact (itr_none hP hlen (len - a + 1) a [] (by omega) (fun h => rfl) (by simp) hf).2 b h1 h2 h3 h4
/-- not anchored it finds what the least anchored one finds that finds something -/
theorem lock_least {P : Pr} (hP : P.Ok) {len a b : Nat} (hlen : ∀ i x, P.A len i ≠ .rune x) (ha : a ≤ b) (hb : b ≤ len) (hl : ∀ k, a ≤ k → k < b → (lockRun P len k true).1 = none) (hs : (lockRun P len b true).1.isSome = true) :
    (lockRun P len a false).1 = (lockRun P len b true).1 := by
  have hd : ∀ k, a ≤ k → k < b → ¬ Rch P.A P.S k := fun k h1 h2 hr => by
    have := (lock_reach hP hlen (a := k) (anch := true) (by omega)).2 ⟨k, Nat.le_refl _, by omega, .inl rfl, hr⟩
    rw [hl k h1 h2] at this
    cases this
  unfold lockRun at hs ⊢
  rw [lock_itr P a false _ _ _ _ _ (Nat.le_refl _), lock_itr P b true _ _ _ _ _ (Nat.le_refl _)]
  rw [lock_itr P b true _ _ _ _ _ (Nat.le_refl _)] at hs
  obtain ⟨d1, d2⟩ := itr_dead (P := P) (a := a) (anch := false) (b - a) a [] (by simp) (fun k h1 h2 _ => hd k h1 (by omega))
  rw [show len - a + 1 = (b - a) + (len - b + 1) by omega, itr_add, d1]
  rw [show a + (b - a) = b by omega] at d2 ⊢
  generalize (itr P a false (b - a) a [] none).1 = TU at d2 ⊢
  simp only [itr] at hs ⊢
  refine itr_beside ha _ _ _ _ _ _ (Nat.lt_succ_self _) ?_ hs
  have e1 : place P b true b [] none = vis (P.A b) b (P.n + 1) P.S (List.replicate P.K (-1)) (newV none) := by
    unfold place; simp [bgB, vall]
  have e2 : place P a false b TU none = vis (P.A b) b (P.n + 1) P.S (List.replicate P.K (-1)) (vall (P.A b) b (P.n + 1) TU (newV none)) := by
    unfold place; simp [bgB]
  rw [e1, e2]
  have h0 : Rho P.A b (newV none) (newV none) := ⟨rfl, fun h => by simp [newV] at h, fun k _ => Iff.rfl, .nil⟩
  have h1 := vis_rho (P.n + 1) P.S (List.replicate P.K (-1)) _ _ (h0.right (vall_dead (f := P.n + 1) TU (newV none) d2))
  refine ⟨_, [], by simp, h1.next, fun hs => ⟨rfl, ?_⟩⟩
  cases ho : (vis (P.A b) b (P.n + 1) P.S (List.replicate P.K (-1)) (newV none)).over
  · have g := vis_grow (A := P.A b) (j := b) (P.n + 1) P.S (List.replicate P.K (-1)) (newV none)
    rw [(g.found ho).1] at hs
    simp [newV] at hs
  · exact (h1.found ho).symm
/-- steps -/
theorem lock_steps {P : Pr} (hP : P.Ok) (a : Nat) (anch : Bool) : ∀ (m j : Nat) (T : List Th) (fd : Fd) (st : Nat), (∀ t ∈ T, t.1 < P.n ∧ t.2.length = P.K) → (∀ y, fd = some y → y.2.length = P.K) → st ≤ (lock P a anch m j T fd st).2 ∧ (lock P a anch m j T fd st).2 ≤ st + P.n * m ∧ ∀ y, (lock P a anch m j T fd st).1 = some y → y.2.length = P.K := by
  intro m
  induction m with
  | zero => intro j T fd st _ hf; exact ⟨Nat.le_refl _, by simp [lock], hf⟩
  | succ m ih =>
    intro j T fd st hT hf
    have hi := place_inv hP (a := a) (j := j) (anch := anch) hT hf
    have hs := hi.small
    have hmul : P.n * (m + 1) = P.n * m + P.n := by rw [Nat.mul_succ]
    simp only [lock]
    split
    · exact ⟨by omega, by omega, hi.fd⟩
    · obtain ⟨h1, h2, h3⟩ := ih (j + 1) (place P a anch j T fd).next (place P a anch j T fd).found (st + (place P a anch j T fd).met.length) hi.nx hi.fd
      exact ⟨by omega, by omega, h3⟩
theorem vis_first {A : Nat → Ac} {j f i : Nat} {c : List Int} {fd : Fd} : 1 ≤ (vis A j (f + 1) i c (newV fd)).met.length := by
  unfold vis
  split
  · rename_i h; simp [newV] at h
  · have h1 : ∀ t, Grow ((newV fd).mark i) t → 1 ≤ t.met.length := fun t g => by
      obtain ⟨m, hm⟩ := g.met
      rw [hm]; simp [Vst.mark, newV]
    split
    · exact h1 _ ((vis_grow _ _ _ _).trans (vis_grow _ _ _ _))
    · exact h1 _ (vis_grow _ _ _ _)
    · exact h1 _ (vis_grow _ _ _ _)
    · simp [Vst.mark, newV]
    · simp [Vst.mark, newV]
    · simp [Vst.mark, newV]
theorem lockRun_steps {P : Pr} (hP : P.Ok) (len a : Nat) (anch : Bool) : 1 ≤ (lockRun P len a anch).2 ∧ (lockRun P len a anch).2 ≤ P.n * (len - a + 1) ∧ ∀ y, (lockRun P len a anch).1 = some y → y.2.length = P.K := by
  have h := lock_steps hP a anch (len - a + 1) a [] none 0 (by simp) (by simp)
  unfold lockRun
  refine ⟨?_, by have := h.2.1; omega, h.2.2⟩
  simp only [lock]
  have hp : 1 ≤ (place P a anch a [] none).met.length := by
    unfold place
    simp only [bgB, vall, List.foldl_nil, decide_true, Bool.true_or, if_true]
    exact vis_first
  have hi := place_inv hP (a := a) (j := a) (anch := anch) (T := []) (fd := none) (by simp) (by simp)
  split
  · simp only; omega
  · have := (lock_steps hP a anch (len - a) (a + 1) (place P a anch a [] none).next (place P a anch a [] none).found (0 + (place P a anch a [] none).met.length) hi.nx hi.fd).1
    omega
end Go.Proofs.Ytiggbgmnibndoaa
/- HELPERS: trees that are handed in: what is read of one, as data; where it lies. -/
namespace Go.Proofs.Ytiggbgmnibndoaa
open Go.RowKit Go.Deep Go.ChangeShapes Go.WideShapes
set_option linter.unusedVariables false
set_option linter.unusedSimpArgs false
/-- a node's nine cells -/
structure Nv where
  k : Int
  r1 : Option Addr
  r2 : Nat
  r3 : Nat
  a2 : Int
  s1 : Option Addr
  s2 : Nat
  s3 : Nat
  a4 : Int
  a5 : Int
  a6 : Bool
  a7 : Int
  a8 : ByteArray
instance : Inhabited Nv := ⟨⟨0, none, 0, 0, 0, none, 0, 0, 0, 0, false, 0, ⟨#[]⟩⟩⟩
abbrev Nv.cs (N : Nv) : List Value := [.int .i64 N.k, .slice N.r1 N.r2 N.r3, .int .i64 N.a2, .slice N.s1 N.s2 N.s3, .int .i64 N.a4, .int .i64 N.a5, .bool N.a6, .int .i64 N.a7, .string N.a8]
abbrev Nv.v (N : Nv) : Value := .agg #[.int .i64 N.k, .slice N.r1 N.r2 N.r3, .int .i64 N.a2, .slice N.s1 N.s2 N.s3, .int .i64 N.a4, .int .i64 N.a5, .bool N.a6, .int .i64 N.a7, .string N.a8]
/-- a tree -/
inductive Tn where
  | mk (k : Int) (R : List (Int × Int)) (a : Int) (s : List Tn) (mn mx : Int) (lz : Bool) (ix : Int) (nm : ByteArray)
instance : Inhabited Tn := ⟨.mk 0 [] 0 [] 0 0 false 0 ⟨#[]⟩⟩
/-- the nine cells of the i-th node of a row -/
def N9 (w : World) (b o i : Nat) (N : Nv) : Prop := w.cell? ⟨b, o + i * 9, none⟩ = some (.int .i64 N.k) ∧ w.cell? ⟨b, o + i * 9 + 1, none⟩ = some (.slice N.r1 N.r2 N.r3) ∧ w.cell? ⟨b, o + i * 9 + 2, none⟩ = some (.int .i64 N.a2) ∧ w.cell? ⟨b, o + i * 9 + 3, none⟩ = some (.slice N.s1 N.s2 N.s3) ∧
  w.cell? ⟨b, o + i * 9 + 4, none⟩ = some (.int .i64 N.a4) ∧ w.cell? ⟨b, o + i * 9 + 5, none⟩ = some (.int .i64 N.a5) ∧ w.cell? ⟨b, o + i * 9 + 6, none⟩ = some (.bool N.a6) ∧ w.cell? ⟨b, o + i * 9 + 7, none⟩ = some (.int .i64 N.a7) ∧ w.cell? ⟨b, o + i * 9 + 8, none⟩ = some (.string N.a8)
/-- a row of ranges at an address -/
def R2 (w : World) (B : Nat) (ad : Option Addr) (R : List (Int × Int)) : Prop :=
  R ≠ [] → ∃ b o, ad = some ⟨b, o, none⟩ ∧ b < B ∧ ∀ i (hi : i < R.length), w.cell? ⟨b, o + i * 2, none⟩ = some (.int .i64 R[i].1) ∧ w.cell? ⟨b, o + i * 2 + 1, none⟩ = some (.int .i64 R[i].2)
/-- a number that may be one -/
abbrev I64ok (x : Int) : Prop := -9223372036854775808 ≤ x ∧ x ≤ 9223372036854775807
structure Nv.ok (N : Nv) : Prop where
  k : I64ok N.k
  a2 : I64ok N.a2
  a4 : I64ok N.a4
  a5 : I64ok N.a5
  a7 : I64ok N.a7
  a8 : N.a8.size ≤ maxLen
  r : N.r2 ≤ N.r3 ∧ N.r3 ≤ maxLen
  s : N.s2 ≤ N.s3 ∧ N.s3 ≤ maxLen
/-- a tree lies in memory, below a block -/
inductive TI (w : World) (B : Nat) : Nv → Tn → Prop
  | mk {N : Nv} {R : List (Int × Int)} {ts : List Tn} {ND : Nat → Nv} (ok : N.ok) (hr : N.r2 = R.length) (hR : R2 w B N.r1 R) (hRk : ∀ x ∈ R, I64ok x.1 ∧ I64ok x.2) (hs : N.s2 = ts.length)
      (hS : 0 < ts.length → ∃ b o, N.s1 = some ⟨b, o, none⟩ ∧ b < B ∧ ∀ i, i < ts.length → N9 w b o i (ND i)) (hk : ∀ i (hi : i < ts.length), TI w B (ND i) ts[i]) :
      TI w B N (.mk N.k R N.a2 ts N.a4 N.a5 N.a6 N.a7 N.a8)
theorem cell_eq {w w' : World} {b : Nat} (h : w'.heap[b]? = w.heap[b]?) (o : Nat) : w'.cell? ⟨b, o, none⟩ = w.cell? ⟨b, o, none⟩ := by simp only [World.cell?, h]
theorem N9.kept {w w' : World} {b o i : Nat} {N : Nv} (h : N9 w b o i N) (hk : w'.heap[b]? = w.heap[b]?) : N9 w' b o i N := by
  obtain ⟨h0, h1, h2, h3, h4, h5, h6, h7, h8⟩ := h
  exact ⟨(cell_eq hk _).trans h0, (cell_eq hk _).trans h1, (cell_eq hk _).trans h2, (cell_eq hk _).trans h3, (cell_eq hk _).trans h4, (cell_eq hk _).trans h5, (cell_eq hk _).trans h6, (cell_eq hk _).trans h7, (cell_eq hk _).trans h8⟩
theorem R2.kept {w w' : World} {B : Nat} {ad : Option Addr} {R : List (Int × Int)} (h : R2 w B ad R) (hk : ∀ b, b < B → w'.heap[b]? = w.heap[b]?) : R2 w' B ad R := fun hn => by
  obtain ⟨b, o, h1, h2, h3⟩ := h hn
  exact ⟨b, o, h1, h2, fun i hi => ⟨(cell_eq (hk b h2) _).trans (h3 i hi).1, (cell_eq (hk b h2) _).trans (h3 i hi).2⟩⟩
theorem R2.le {w : World} {B B' : Nat} {ad : Option Addr} {R : List (Int × Int)} (h : R2 w B ad R) (hB : B ≤ B') : R2 w B' ad R := fun hn => by
  obtain ⟨b, o, h1, h2, h3⟩ := h hn
  exact ⟨b, o, h1, by omega, h3⟩
theorem TI.kept {w w' : World} {B : Nat} {N : Nv} {t : Tn} (h : TI w B N t) (hk : ∀ b, b < B → w'.heap[b]? = w.heap[b]?) : TI w' B N t := by
  induction h with
  | mk ok hr hR hRk hs hS hkk ih =>
    refine .mk ok hr (hR.kept hk) hRk hs (fun hp => ?_) ih
    obtain ⟨b, o, h1, h2, h3⟩ := hS hp
    exact ⟨b, o, h1, h2, fun i hi => (h3 i hi).kept (hk b h2)⟩
theorem TI.le {w : World} {B B' : Nat} {N : Nv} {t : Tn} (h : TI w B N t) (hB : B ≤ B') : TI w B' N t := by
  induction h with
  | mk ok hr hR hRk hs hS hkk ih =>
    refine .mk ok hr (hR.le hB) hRk hs (fun hp => ?_) ih
    obtain ⟨b, o, h1, h2, h3⟩ := hS hp
    exact ⟨b, o, h1, by omega, h3⟩
theorem i64ok {n : Int} (h : (Lit.int .i64 n).wf = true) : I64ok n := by
  simp [Lit.wf, IntKind.min, IntKind.signed, IntKind.bits] at h
  exact h
section
variable {H : Type} {enc : TypeId × Value → H} {P : Program} {w : World} {base : Nat} {spare : Nat → Bool} {held : Bool} {tn ts tr te ti tb tg : TypeId} {f : Nat → Field} {g0 g1 : Field}
end
end Go.Proofs.Ytiggbgmnibndoaa
/- HELPERS: how many nodes a tree has; what a count down of them leaves. -/
namespace Go.Proofs.Ytiggbgmnibndoaa
open Go.RowKit
set_option linter.unusedVariables false
set_option linter.unusedSimpArgs false
mutual
/-- how many one below another -/
def Tn.depth : Tn → Nat
  | .mk _ _ _ s _ _ _ _ _ => 1 + depthL s
def depthL : List Tn → Nat
  | [] => 0
  | t :: ts => max t.depth (depthL ts)
end
mutual
/-- what a count down leaves: it ends below nought -/
def Tn.gr : Tn → Int → Int
  | .mk _ _ _ s _ _ _ _ _, l => grL s (l - 1)
def grL : List Tn → Int → Int
  | [], l => l
  | t :: ts, l => if l < 0 then l else grL ts (t.gr l)
end
end Go.Proofs.Ytiggbgmnibndoaa
/- HELPERS: objects in memory of the call's own: what a call leaves of them, and of all else. -/
namespace Go.Proofs.Ytiggbgmnibndoaa
open Go.RowKit
set_option linter.unusedVariables false
set_option linter.unusedSimpArgs false
abbrev I64 (l : List Int) : List Value := l.map (Value.int .i64)
theorem info3 : (Try.prog.info? 3).map (fun i => (i.zero, i.size, i.bytes)) = some (some (.int .i64 0), 1, 8) := by kernel_rfl
theorem one_cell_ints (l : List Int) : ∀ u ∈ I64 l, u.oneCell' = true := by
  intro u hu
  obtain ⟨x, _, rfl⟩ := List.mem_map.1 hu
  rfl
theorem ret_bool {a b : Bool} (h : a = b) : Ending.returned (.bool a) = .returned (.bool b) := by rw [h]
theorem ret_int {a b : Int} (h : a = b) : Ending.returned (.int .i64 a) = .returned (.int .i64 b) := by rw [h]
/-- what an append onto an owned row leaves: in its place, or in a new block and nothing else turned -/
def Moved (w w' : World) (v v' : Value) : Prop := (v'.ownBlock = v.ownBlock ∧ w.grownBy w' v.ownBlock) ∨ (v'.ownBlock = some w.heap.size ∧ w.grownBy w' none)
theorem run_append_move {P : Program} (w : World) (base : Nat) (t ty e : TypeId) (i : TypeInfo) (z : Value) (bytes : Nat) (ht : P.underlying t = some (.slice e)) (hi : P.info? e = some i) (hz : i.zero = some z)
    (hsize : i.size = 1) (hby : i.bytes = bytes) (hzs : z.cells.size = 1)
    (v : Value) (n : Nat) (xs : List Value) (hown : w.ownsRow base e 1 v n xs)
    (a : Addr) (m c : Nat) (news : List Value) (hl : news.length = m) (hm : 0 < m) (hnews : ∀ j u, news[j]? = some u → w.cell? (a.add j) = some u) (h1 : ∀ u ∈ news, u.oneCell' = true)
    (h63 : n + m ≤ maxLen) (hbytes : (n + m) * bytes ≤ 140737488355328) (hbase : base ≤ w.heap.size) :
    ∃ v' w', (Builtin.append_ #[t, t] ty #[v, .slice (some a) m c]).run P w = .ok v' w' ∧ w'.ownsRow base e 1 v' (n + m) (xs ++ news) ∧ Moved w w' v v' := by
  obtain ⟨v', w', hrun, h2, h3, h4, h5⟩ := run_append_own_at (P := P) w base t ty e i z 1 bytes ht hi hz hsize hby hzs (by decide) v n xs hown a m c news (by omega) hnews h1 h63 hbytes hbase
  refine ⟨v', w', hrun, h2, ?_⟩
  rcases hown.2 with ⟨rfl, rfl⟩ | ⟨g, cap, cur, rfl, hbg, hg, hnc, hcm, hcs, htake⟩
  · rcases h5 with h5 | h5
    · exact .inl ⟨h5, h3⟩
    · exact .inr ⟨h5, h3⟩
  · by_cases hroom : n + m ≤ cap
    · have hr := run_append_room (P := P) w t ty e i ht hi g n cap cur hg a m c news (by rw [hsize]; omega) hnews h1 hroom (by rw [hsize, hcs]; omega)
      have he := hrun.symm.trans hr
      injection he with e1 e2
      left
      exact ⟨by rw [e1]; rfl, h3⟩
    · have holds : ∀ j u, xs[j]? = some u → w.cell? ((⟨g, 0, none⟩ : Addr).add j) = some u := hown.cells (g := g) rfl
      have hr := run_append_grow (P := P) w t ty e i z ht hi hz ⟨g, 0, none⟩ n cap xs (by rw [hsize]; exact hown.1) holds a m c news (by rw [hsize]; omega) hnews (by omega) (by unfold maxLen at h63; omega) (growslice_fits (by omega) (by rw [hby]; exact hbytes))
      have he := hrun.symm.trans hr
      injection he with e1 e2
      right
      refine ⟨by rw [e1]; rfl, ?_⟩
      rw [e2]
      exact ⟨rfl, rfl, rfl, by simp, fun k hk _ => heap_alloc_old w.drew _ hk⟩
theorem wpList_append_move {P : Program} {w : World} {ops : Array Oper} {rest : List Oper} {o : Oper} {a : Act} {Q : Exit → Act → World → Prop} (hgd : o.guard = none) (s x : Operand) (t : TypeId)
    (ho : o.op = .call { callee := .builtin .append, args := #[s, x], argTypes := #[t, t] })
    (base : Nat) (e : TypeId) (i : TypeInfo) (z : Value) (bytes : Nat) (ht : P.underlying t = some (.slice e)) (hi : P.info? e = some i) (hz : i.zero = some z)
    (hsize : i.size = 1) (hby : i.bytes = bytes) (hzs : z.cells.size = 1)
    (v : Value) (n : Nat) (xs : List Value) (hs : a.eval s = v) (hown : w.ownsRow base e 1 v n xs)
    (ad : Addr) (m c : Nat) (news : List Value) (hx : a.eval x = .slice (some ad) m c) (hl : news.length = m) (hm : 0 < m) (hnews : ∀ j u, news[j]? = some u → w.cell? (ad.add j) = some u) (h1 : ∀ u ∈ news, u.oneCell' = true)
    (h63 : n + m ≤ maxLen) (hbytes : (n + m) * bytes ≤ 140737488355328) (hbase : base ≤ w.heap.size)
    (h : ∀ v' w', Hid (w'.ownsRow base e 1 v' (n + m) (xs ++ news)) → Hid (Moved w w' v v') → wpList P ops Q rest (a.put o.dst v') w') : wpList P ops Q (o :: rest) a w := by
  refine wpList_plain hgd fun K hK => ?_
  obtain ⟨v', w', hr, h2, h3⟩ := run_append_move (P := P) w base t o.type e i z bytes ht hi hz hsize hby hzs v n xs hown ad m c news hl hm hnews h1 h63 hbytes hbase
  unfold Oper.wp execOp
  simp only [ho, resolve, invoke, builtin, Sem.run_bind, Sem.run_pure, Result.andThen_ok, List.map_toArray, List.map_cons, List.map_nil, hs, hx, hr]
  exact hK _ _ (h v' w' h2 h3)
/-- what a call turned: the blocks of F alone; what stands for them now are they, or new ones -/
structure Chg (w w' : World) (F F' : List Nat) : Prop where
  os : w'.os = w.os
  tape : w'.tape = w.tape
  output : w'.output = w.output
  size : w.heap.size ≤ w'.heap.size
  block : ∀ k, k < w.heap.size → k ∉ F → w'.heap[k]? = w.heap[k]?
  new : ∀ k, k ∈ F' → k ∈ F ∨ w.heap.size ≤ k
theorem Chg.below {B : Nat} {w w' : World} {F F' : List Nat} (h : Chg w w' F F') (hB : B ≤ w.heap.size) (hF : ∀ k ∈ F, B ≤ k) : Below B w w' :=
  ⟨h.os, h.tape, h.output, h.size, fun k hk => h.block k (by omega) (fun hm => by have := hF k hm; omega)⟩
theorem Chg.low {B : Nat} {w w' : World} {F F' : List Nat} (h : Chg w w' F F') (hB : B ≤ w.heap.size) (hF : ∀ k ∈ F, B ≤ k) : ∀ k ∈ F', B ≤ k := fun k hk => by
  rcases h.new k hk with h | h
  · exact hF k h
  · omega
theorem Chg.row {w w' : World} {F F' : List Nat} {base e size n : Nat} {v : Value} {xs : List Value} (h : Chg w w' F F') (ho : w.ownsRow base e size v n xs) (hd : ∀ k, v.ownBlock = some k → k ∉ F) : w'.ownsRow base e size v n xs := by
  refine ⟨ho.1, ?_⟩
  rcases ho.2 with hn | ⟨g, cap, cur, rfl, hb, hgg, rest⟩
  · exact .inl hn
  · refine .inr ⟨g, cap, cur, rfl, hb, ?_, rest⟩
    rw [h.block g (Array.getElem?_eq_some_iff.1 hgg).1 (hd g rfl)]
    exact hgg
theorem Chg.away {w w' : World} {F F' G : List Nat} (h : Chg w w' F F') (hG : ∀ k ∈ G, k < w.heap.size) (hd : ∀ k ∈ G, k ∉ F) : ∀ k ∈ G, k ∉ F' := fun k hk hm => by
  rcases h.new k hm with h | h
  · exact hd k hk h
  · have := hG k hk; omega
theorem Chg.of_below {w w' : World} {F : List Nat} (h : Below w.heap.size w w') : Chg w w' F F := ⟨h.os, h.tape, h.output, h.size, fun k hk _ => h.block k hk, fun k hk => .inl hk⟩
theorem Chg.set {w w' : World} {F F' : List Nat} (h : Chg w w' F F') {a : Addr} (u : Value) (ha : a.block ∈ F) : Chg w (w'.setCell a u) F F' :=
  ⟨h.os, h.tape, h.output, by have := h.size; simp [World.setCell]; exact this, fun k hk hn => (Below.heap_setCell _ _ _ _ (fun e => hn (by rw [e]; exact ha))).trans (h.block k hk hn), h.new⟩
theorem Chg.drew {w w' : World} {F F' : List Nat} (h : Chg w w' F F') : Chg w w'.drew F F' := ⟨h.os, h.tape, h.output, h.size, h.block, h.new⟩
theorem own_setCell {w : World} {base e size n : Nat} {v u : Value} {xs : List Value} {a : Addr} (h : w.ownsRow base e size v n xs) (hne : v.ownBlock ≠ some a.block) : (w.setCell a u).ownsRow base e size v n xs := by
  refine ⟨h.1, ?_⟩
  rcases h.2 with hn | ⟨g, cap, cur, rfl, hb, hgg, rest⟩
  · exact .inl hn
  · refine .inr ⟨g, cap, cur, rfl, hb, ?_, rest⟩
    rw [Below.heap_setCell _ _ _ _ (fun e => hne (by simp [Value.ownBlock, e]))]
    exact hgg
/-- two blocks of other types are two blocks -/
theorem own_ne {w : World} {base e size n g : Nat} {v : Value} {xs : List Value} {c : Array Value} {t : TypeId} {fr : Nat × Nat} (ho : w.ownsRow base e size v n xs) (hg : w.heap[g]? = some (.cells c t fr)) (ht : t ≠ e) : v.ownBlock ≠ some g := by
  intro h
  rcases ho.2 with ⟨rfl, _⟩ | ⟨b, cap, cur, rfl, hb, hgg, rest⟩
  · simp [Value.ownBlock] at h
  · simp [Value.ownBlock] at h
    subst h
    rw [hgg] at hg
    simp at hg
    exact ht hg.2.1.symm
end Go.Proofs.Ytiggbgmnibndoaa
/- HELPERS: is a tree too great, too deep? -/
namespace Go.Proofs.Ytiggbgmnibndoaa
open Go.RowKit
set_option linter.unusedVariables false
set_option linter.unusedSimpArgs false
theorem hid' {p : Prop} (h : p) : Hid p := h
end Go.Proofs.Ytiggbgmnibndoaa
/- HELPERS: runes.Right and runes.Has. -/
namespace Go.Proofs.Ytiggbgmnibndoaa
open Go.RowKit Go.Lib
set_option linter.unusedVariables false
set_option linter.unusedSimpArgs false
def dom (r : Int) : Bool := decide (0 ≤ r ∧ r < 55296 ∨ 57343 < r ∧ r ≤ 1114111)
theorem dom41 (r : Int) (w : World) : Calls Try.prog 53 #[.int .i64 r] w fun e w' => e = .returned (.bool (dom r)) ∧ w' = w := by
  go_enter Try.func53, Try.ntmps53
  go_wp2
  all_goals go_ret
  all_goals exact ⟨ret_bool (by rw [Bool.eq_iff_iff]; simp [dom]; omega), rfl⟩
/-- a slice value whose cells hold ranges, in a block below N -/
def RowAt (N : Nat) (w : World) (v : Value) (L : List (Int × Int)) : Prop := ∃ ad cap, v = .slice ad L.length cap ∧ (L.length = 0 ∨ ∃ b off, ad = some ⟨b, off, none⟩ ∧ b < N ∧
  (∀ k, k < L.length → w.cell? ⟨b, off + k * 2, none⟩ = some (.int .i64 (L.getD k (0, 0)).1)) ∧ (∀ k, k < L.length → w.cell? ⟨b, off + k * 2 + 1, none⟩ = some (.int .i64 (L.getD k (0, 0)).2)))
theorem RowAt.below {N N' B : Nat} {w w' : World} {v : Value} {L : List (Int × Int)} (h : RowAt N w v L) (hb : Below B w w') (hB : N ≤ B) (hN : N ≤ N') : RowAt N' w' v L := by
  obtain ⟨ad, cap, hv, h | ⟨b, off, ha, hbN, h0, h1⟩⟩ := h
  · exact ⟨ad, cap, hv, .inl h⟩
  · exact ⟨ad, cap, hv, .inr ⟨b, off, ha, by omega, fun k hk => (hb.cell (p := ⟨b, off + k * 2, none⟩) (by show b < B; omega)).trans (h0 k hk), fun k hk => (hb.cell (p := ⟨b, off + k * 2 + 1, none⟩) (by show b < B; omega)).trans (h1 k hk)⟩⟩
def gapB (g : Int × Int) : Bool := decide (g.1 < 55296 ∧ 57343 < g.2)
def okG (least : Int) (g : Int × Int) : Bool := decide (least ≤ g.1) && decide (g.1 ≤ g.2) && dom g.1 && dom g.2 && !gapB g
def rightFrom : Int → List (Int × Int) → Bool
  | _, [] => true
  | least, g :: t => okG least g && rightFrom (g.2 + 2) t
def rightB (L : List (Int × Int)) : Bool := decide (L.length ≤ 5000) && rightFrom 0 L
theorem drop_consR (L : List (Int × Int)) (k : Nat) (h : k < L.length) : L.drop k = L.getD k (0, 0) :: L.drop (k + 1) := by
  rw [List.drop_eq_getElem_cons h]; simp [h]
theorem gap46 (lo hi : Int) (w : World) : Calls Try.prog 54 #[.agg #[.int .i64 lo, .int .i64 hi]] w fun e w' => e = .returned (.bool (gapB (lo, hi))) ∧ w' = w.alloc (.cells #[.int .i64 lo, .int .i64 hi] 62) := by
  go_enter Try.func54, Try.ntmps54
  go_wp2
  all_goals go_ret
  all_goals exact ⟨ret_bool (by rw [Bool.eq_iff_iff]; simp [gapB]; omega), rfl⟩
set_option maxHeartbeats 2000000 in
set_option maxRecDepth 1000000 in
theorem right_short (L : List (Int × Int)) (ad : Option Addr) (n cap : Nat) (w : World) (hn : Hid (n = L.length)) (hS : n ≤ 5000) (hl : Hid (RowAt w.heap.size w (.slice ad n cap) L)) :
    Calls Try.prog 52 #[.slice ad n cap] w fun e w' => e = .returned (.bool (rightFrom 0 L)) ∧ Below w.heap.size w w' := by
  go_enter Try.func52, Try.ntmps52
  go_wp2
  go_loopw [3, 11] (fun lv i wr => ∃ (k : Nat) (ls : Int), k ≤ n ∧ 0 ≤ ls ∧ ls ≤ 1114113 ∧ lv = .int .i64 ls ∧ i = .int .i64 k ∧ Below w.heap.size w wr ∧ Hid (rightFrom 0 L = rightFrom ls (L.drop k)))
    (fun _ i _ => n - (intOf i).toNat)
  case atStart => exact ⟨0, 0, by omega, by omega, by omega, rfl, rfl, Below.refl _ _, by exact rfl⟩
  case round =>
    obtain ⟨k, ls, hk, hs0, hs1, rfl, rfl, hbw, HR⟩ := hrel
    have hsz := hbw.size
    by_cases hlt : k < n
    · obtain ⟨ad', cap', he, h | ⟨b, off, rfl, hbN, hc0, hc1⟩⟩ := hl.out
      · exact absurd h (by rw [← hn.out]; omega)
      · have hn' := hn.out
        simp only [Value.slice.injEq] at he
        obtain ⟨rfl, -, rfl⟩ := he
        have d0 := (hbw.cell (p := ⟨b, off + k * 2, none⟩) hbN).trans (hc0 k (by omega))
        have d1 := (hbw.cell (p := ⟨b, off + k * 2 + 1, none⟩) hbN).trans (hc1 k (by omega))
        have hdr := drop_consR L k (by omega)
        have hR := HR.out
        rw [hdr] at hR
        generalize L.getD k (0, 0) = g at d0 d1 hR
        obtain ⟨lo, hi⟩ := g
        simp only at d0 d1
        have HR2 : Hid (rightFrom 0 L = (okG ls (lo, hi) && rightFrom (hi + 2) (L.drop (k + 1)))) := hR
        clear hdr hR HR hc0 hc1 hn'
        have hd0 := dom41 lo
        have hd1 := dom41 hi
        have hgp := gap46 lo hi
        generalize ho : okG ls (lo, hi) = ok at HR2
        have hok : ok = (decide (ls ≤ lo) && decide (lo ≤ hi) && dom lo && dom hi && !gapB (lo, hi)) := ho.symm
        clear ho
        generalize h3 : dom lo = e3 at hd0 hok
        generalize h4 : dom hi = e4 at hd1 hok
        generalize h5 : gapB (lo, hi) = e5 at hgp hok
        have H4 : Hid (dom hi = e4) := h4
        clear h3 h4 h5
        have HOK : Hid (ok = (decide (ls ≤ lo) && decide (lo ≤ hi) && e3 && e4 && !e5)) := hok
        clear hok
        by_cases g1 : ls ≤ lo
        · by_cases g2 : lo ≤ hi
          · cases e3
            · have hE : Hid (rightFrom 0 L = false) := by show rightFrom 0 L = _; rw [HR2.out, HOK.out]; simp
              go_wp2_with (first | (go_at_call_of 40 (.int .i64 lo); refine (hd0 _).mono ?_; rintro e w' ⟨rfl, rfl⟩) | (go_at_call 53; refine (hd0 _).mono ?_; rintro e w' ⟨rfl, rfl⟩))
              go_ret
              exact ⟨ret_bool hE.out.symm, hbw.alloc hsz _⟩
            · cases e4
              · have hE : Hid (rightFrom 0 L = false) := by show rightFrom 0 L = _; rw [HR2.out, HOK.out]; simp
                go_wp2_with fail
                refine (hd0 _).mono ?_
                rintro e w' ⟨rfl, rfl⟩
                go_wp2_with fail
                refine (hd1 _).mono ?_
                rintro e w' ⟨rfl, rfl⟩
                go_wp2
                go_ret
                exact ⟨ret_bool hE.out.symm, hbw.alloc hsz _⟩
              · cases e5
                · have hE : Hid (rightFrom 0 L = rightFrom (hi + 2) (L.drop (k + 1))) := by show rightFrom 0 L = _; rw [HR2.out, HOK.out]; simp [g1, g2]
                  obtain ⟨hh0, hh1⟩ : 0 ≤ hi ∧ hi ≤ 1114111 := by have := H4.out; simp [dom] at this; omega
                  go_wp2_with fail
                  refine (hd0 _).mono ?_
                  rintro e w' ⟨rfl, rfl⟩
                  go_wp2_with fail
                  refine (hd1 _).mono ?_
                  rintro e w' ⟨rfl, rfl⟩
                  go_wp2_with fail
                  refine (hgp _).mono ?_
                  rintro e w' ⟨rfl, rfl⟩
                  go_wp2
                  go_roundw
                  case rel => exact ⟨k + 1, hi + 2, by omega, by omega, by omega, rfl, by go_num, (hbw.alloc hsz _).alloc (by simp; omega) _, hE⟩
                  case measure => simp [intOf]; omega
                · have hE : Hid (rightFrom 0 L = false) := by show rightFrom 0 L = _; rw [HR2.out, HOK.out]; simp
                  go_wp2_with fail
                  refine (hd0 _).mono ?_
                  rintro e w' ⟨rfl, rfl⟩
                  go_wp2_with fail
                  refine (hd1 _).mono ?_
                  rintro e w' ⟨rfl, rfl⟩
                  go_wp2_with fail
                  refine (hgp _).mono ?_
                  rintro e w' ⟨rfl, rfl⟩
                  go_wp2
                  go_ret
                  exact ⟨ret_bool hE.out.symm, (hbw.alloc hsz _).alloc (by simp; omega) _⟩
          · have hE : Hid (rightFrom 0 L = false) := by show rightFrom 0 L = _; rw [HR2.out, HOK.out]; simp [g2]
            clear hd0 hd1 hgp
            go_wp2
            go_ret
            exact ⟨ret_bool hE.out.symm, hbw.alloc hsz _⟩
        · have hE : Hid (rightFrom 0 L = false) := by show rightFrom 0 L = _; rw [HR2.out, HOK.out]; simp [g1]
          clear hd0 hd1 hgp
          go_wp2
          go_ret
          exact ⟨ret_bool hE.out.symm, hbw.alloc hsz _⟩
    · obtain rfl : k = n := by omega
      have hE : Hid (rightFrom 0 L = true) := by
        show rightFrom 0 L = _
        rw [HR.out, List.drop_of_length_le (by rw [← hn.out]; exact Nat.le_refl _)]; rfl
      clear HR
      go_wp2
      go_ret
      exact ⟨ret_bool hE.out.symm, hbw⟩
set_option maxHeartbeats 1000000 in
theorem right_long (L : List (Int × Int)) (ad : Option Addr) (n cap : Nat) (w : World) (hS : 5000 < n) (hS2 : n ≤ 17592186044416) :
    Calls Try.prog 52 #[.slice ad n cap] w fun e w' => e = .returned (.bool false) ∧ Below w.heap.size w w' := by
  go_enter Try.func52, Try.ntmps52
  go_wp2
  go_ret
  exact ⟨rfl, Below.refl _ _⟩
theorem right25 (L : List (Int × Int)) (ad : Option Addr) (n cap : Nat) (w : World) (hn : n = L.length) (hS2 : n ≤ 17592186044416) (hl : RowAt w.heap.size w (.slice ad n cap) L) :
    Calls Try.prog 52 #[.slice ad n cap] w fun e w' => e = .returned (.bool (rightB L)) ∧ Below w.heap.size w w' := by
  by_cases h : n ≤ 5000
  · have e : rightB L = rightFrom 0 L := by unfold rightB; rw [← hn]; simp [h]
    rw [e]
    exact right_short L ad n cap w hn h hl
  · have e : rightB L = false := by unfold rightB; rw [← hn]; simp [h]
    rw [e]
    exact right_long L ad n cap w (by omega) hS2
end Go.Proofs.Ytiggbgmnibndoaa
/- HELPERS: which nodes may be, by the document's answer. -/
namespace Go.Proofs.Ytiggbgmnibndoaa
open Go.RowKit
set_option linter.unusedVariables false
set_option linter.unusedSimpArgs false
/-- all is nought but what is named -/
def assertB (n : Int) : Bool := n == 1 || n == 2 || n == 4 || n == 8 || n == 16 || n == 32
end Go.Proofs.Ytiggbgmnibndoaa
/- HELPERS: the small tests of a program's instructions. -/

namespace Go.Proofs.Ytiggbgmnibndoaa
open Go.RowKit
set_option linter.unusedVariables false
set_option linter.unusedSimpArgs false
def belowB (n c : Int) : Bool := decide (0 ≤ n) && decide (n < c)
def capsB (c : Int) : Bool := decide (2 ≤ c) && decide (c ≤ 1002) && (c % 2 == 0)
def hasXB (op : Int) : Bool := op == 1 || op == 2 || op == 3 || op == 4 || op == 7
def hasYB (op : Int) : Bool := op == 2
def isTargetB (too : Int) (has : Bool) (c : Int) : Bool := if has then belowB too c else too == 0
def isArgB (op arg caps : Int) : Bool := if op == 3 then belowB arg caps else if op == 4 then assertB arg else if op == 5 then belowB arg 100 else if op == 1 || op == 2 || op == 6 || op == 7 then arg == 0 else false
def isRangesB (op : Int) (R : List (Int × Int)) : Bool := if op == 1 then decide (0 < R.length) && rightB R else R.length == 0
theorem below38 (n c : Int) (w : World) : Calls Try.prog 40 #[.int .i64 n, .int .i64 c] w fun e w' => e = .returned (.bool (belowB n c)) ∧ w' = w := by
  go_enter Try.func40, Try.ntmps40
  go_wp2
  all_goals go_ret
  all_goals exact ⟨ret_bool (by (simp_all [belowB]) <;> (intros; omega)), rfl⟩
theorem caps39 (c : Int) (w : World) : Calls Try.prog 41 #[.int .i64 c] w fun e w' => e = .returned (.bool (capsB c)) ∧ w' = w := by
  go_enter Try.func41, Try.ntmps41
  go_wp2
  all_goals go_ret
  all_goals refine ⟨ret_bool ?_, rfl⟩
  all_goals first | (simp_all [capsB]; done) | (simp [capsB, Int.tmod_eq_emod] <;> omega)
theorem hasX61 (op : Int) (w : World) : Calls Try.prog 47 #[.int .i64 op] w fun e w' => e = .returned (.bool (hasXB op)) ∧ w' = w := by
  go_enter Try.func47, Try.ntmps47
  go_wp2
  all_goals go_ret
  all_goals exact ⟨ret_bool (by simp_all [hasXB]), rfl⟩
theorem hasY62 (op : Int) (w : World) : Calls Try.prog 48 #[.int .i64 op] w fun e w' => e = .returned (.bool (hasYB op)) ∧ w' = w := by
  go_enter Try.func48, Try.ntmps48
  go_wp2
  all_goals go_ret
  all_goals exact ⟨ret_bool (by simp_all [hasYB]), rfl⟩
theorem target60 (too : Int) (has : Bool) (c : Int) (w : World) : Calls Try.prog 46 #[.int .i64 too, .bool has, .int .i64 c] w fun e w' => e = .returned (.bool (isTargetB too has c)) ∧ w' = w := by
  have HC := below38 too c w
  cases has
  · go_enter Try.func46, Try.ntmps46
    go_wp2
    all_goals go_ret
    all_goals exact ⟨ret_bool (by simp_all [isTargetB]), rfl⟩
  · go_enter Try.func46, Try.ntmps46
    go_wp2_with (first | (go_at_call 40; (with_reducible refine HC.mono ?_); rintro e w2 ⟨rfl, rfl⟩))
    all_goals go_ret
    all_goals exact ⟨ret_bool (by simp [isTargetB]), rfl⟩
theorem assert80 (n : Int) (w : World) : Calls Try.prog 51 #[.int .i64 n] w fun e w' => e = .returned (.bool (assertB n)) ∧ w' = w := by
  go_enter Try.func51, Try.ntmps51
  go_wp2
  all_goals go_ret
  all_goals exact ⟨ret_bool (by simp_all [assertB]), rfl⟩
theorem arg63 (op arg caps : Int) (w : World) : Calls Try.prog 49 #[.int .i64 op, .int .i64 arg, .int .i64 caps] w fun e w' => e = .returned (.bool (isArgB op arg caps)) ∧ w' = w := by
  have H1 := below38 arg caps w
  have H2 := below38 arg 100 w
  have H3 := assert80 arg w
  go_enter Try.func49, Try.ntmps49
  go_wp2_with (first | (go_at_call 40; (first | (with_reducible refine H1.mono ?_) | (with_reducible refine H2.mono ?_)); rintro e w2 ⟨rfl, rfl⟩) | (go_at_call 51; (with_reducible refine H3.mono ?_); rintro e w2 ⟨rfl, rfl⟩))
  all_goals go_ret
  all_goals exact ⟨ret_bool (by simp_all [isArgB]), rfl⟩
theorem ranges64 (op : Int) (R : List (Int × Int)) (ad : Option Addr) (n cap : Nat) (w : World) (hn : n = R.length) (hS : n * 16 ≤ 140737488351232) (hl : RowAt w.heap.size w (.slice ad n cap) R) :
    Calls Try.prog 50 #[.int .i64 op, .slice ad n cap] w fun e w' => e = .returned (.bool (isRangesB op R)) ∧ Below w.heap.size w w' := by
  have HC := right25 R ad n cap w hn (by omega) hl
  have HN := hid' hn
  clear hn hl
  by_cases h1 : op = 1
  · subst h1
    by_cases h0 : n = 0
    · subst h0
      go_enter Try.func50, Try.ntmps50
      go_wp2
      all_goals go_ret
      all_goals exact ⟨ret_bool (by simp [isRangesB, ← HN.out]), Below.refl _ _⟩
    · have b1 : decide ((n : Int) > 0) = true := by simp; omega
      have b2 : decide ((0 : Int) < (n : Int)) = true := by simp; omega
      go_enter Try.func50, Try.ntmps50
      go_wp2_with (first | (go_at_call 52; (with_reducible refine HC.mono ?_); rintro e w2 ⟨rfl, hb⟩; have HB := hid' hb; clear hb HC))
      all_goals go_ret
      all_goals exact ⟨ret_bool (by simp [isRangesB, ← HN.out]; intro h; omega), HB.out⟩
  · have b0 : (op != 1) = true := by simpa using h1
    go_enter Try.func50, Try.ntmps50
    go_wp2
    all_goals go_ret
    all_goals exact ⟨ret_bool (by simp only [isRangesB, ← HN.out]; rw [if_neg (by simpa using h1), Bool.eq_iff_iff]; simp), Below.refl _ _⟩
end Go.Proofs.Ytiggbgmnibndoaa
/- HELPERS: the document's side of classes: Right. -/
namespace Go.Proofs.Ytiggbgmnibndoaa
open Go.RowKit
set_option linter.unusedVariables false
set_option linter.unusedSimpArgs false
theorem below_drewN' {B : Nat} {a w : World} (h : Below B a w) (n : Nat) : Below B a (w.drewN n) := h.trans ⟨rfl, rfl, rfl, Nat.le_refl _, fun _ _ => rfl⟩
theorem dom_bd {r : Int} (h : dom r = true) : 0 ≤ r ∧ r < 1114112 := by simp [dom] at h; omega
theorem dom99 (r : Int) (w : World) : Calls Try.prog 43 #[.int .i64 r] w fun e w' => e = .returned (.bool (dom r)) ∧ w' = w := by
  go_enter Try.func43, Try.ntmps43
  go_wp2
  all_goals go_ret
  all_goals exact ⟨ret_bool (by rw [Bool.eq_iff_iff]; simp [dom]; omega), rfl⟩
theorem ok_of {ls gl gh ph : Int} {k : Nat} (h8 : (!dom gl || !dom gh || decide (gh < gl) || gapB (gl, gh)) = false) (hls : k = 0 ∧ ls = 0 ∨ 0 < k ∧ ls = ph + 2)
    (h10 : (decide (0 < k) && decide (gl < ph + 2) && !(decide (gl = 57344) && decide (ph = 55295))) = false) : okG ls (gl, gh) = true := by
  simp only [Bool.or_eq_false_iff, Bool.not_eq_false', decide_eq_false_iff_not] at h8
  obtain ⟨⟨⟨h1, h2⟩, h3⟩, h4⟩ := h8
  have hl : ls ≤ gl := by
    rcases hls with ⟨_, rfl⟩ | ⟨hk, rfl⟩
    · exact (dom_bd h1).1
    · rw [decide_eq_true hk] at h10
      by_cases h : gl < ph + 2
      · rw [decide_eq_true h] at h10
        simp at h10
        omega
      · omega
  simp only [okG, h1, h2, h4, decide_eq_true hl, decide_eq_true (show gl ≤ gh by omega)]
  rfl
theorem bad_8 {ls gl gh : Int} (h8 : (!dom gl || !dom gh || decide (gh < gl) || gapB (gl, gh)) = true) : okG ls (gl, gh) = false := by
  cases h : okG ls (gl, gh)
  · rfl
  · simp only [okG, Bool.and_eq_true, decide_eq_true_eq, Bool.not_eq_true'] at h
    obtain ⟨⟨⟨⟨h0, h1⟩, h2⟩, h3⟩, h4⟩ := h
    rw [h2, h3, h4, decide_eq_false (show ¬ gh < gl by omega)] at h8
    exact absurd h8 (by decide)
theorem bad_10 {ls gl gh ph : Int} {k : Nat} (hls : k = 0 ∧ ls = 0 ∨ 0 < k ∧ ls = ph + 2)
    (h10 : (decide (0 < k) && decide (gl < ph + 2) && !(decide (gl = 57344) && decide (ph = 55295))) = true) : okG ls (gl, gh) = false := by
  simp only [Bool.and_eq_true, decide_eq_true_eq] at h10
  have : ¬ ls ≤ gl := by omega
  simp only [okG, decide_eq_false this, Bool.false_and]
set_option maxHeartbeats 8000000 in
set_option maxRecDepth 1000000 in
theorem rright_short (L : List (Int × Int)) (ad : Option Addr) (n cap : Nat) (w : World) (hn : Hid (L.length = n)) (hS : n ≤ 5000) (hl : Hid (RowAt w.heap.size w (.slice ad n cap) L)) :
    Calls Try.prog 36 #[.slice ad n cap] w fun e w' => e = .returned (.bool (rightFrom 0 L)) ∧ Below w.heap.size w w' := by
  go_enter Try.func36, Try.ntmps36
  go_wp2
  go_loopw [3] (fun i wr => ∃ (k : Nat) (ls ph : Int), k ≤ n ∧ i = .int .i64 k ∧ Below w.heap.size w wr ∧ Hid (rightFrom 0 L = rightFrom ls (L.drop k)) ∧ Hid (0 < k → ph = (L.getD (k - 1) (0, 0)).2 ∧ 0 ≤ ph ∧ ph ≤ 1114111) ∧ Hid (k = 0 ∧ ls = 0 ∨ 0 < k ∧ ls = ph + 2)) (fun i _ => n - (intOf i).toNat)
  case atStart => exact ⟨0, 0, 0, by omega, rfl, Below.refl _ _, by exact rfl, fun h => by omega, by exact .inl ⟨rfl, rfl⟩⟩
  case round =>
    obtain ⟨k, ls, ph, hk, rfl, hbw, HK, HP, HL⟩ := hrel
    have hsz := hbw.size
    by_cases hlt : k < n
    · obtain ⟨ad', cap', he, h | ⟨b, off, rfl, hbN, hc0, hc1⟩⟩ := hl.out
      · exact absurd h (by rw [hn.out]; omega)
      · simp only [Value.slice.injEq] at he
        obtain ⟨rfl, -, rfl⟩ := he
        have hn' := hn.out
        have HC0 : Hid (w.cell? ⟨b, off + k * 2, none⟩ = some (.int .i64 (L.getD k (0, 0)).1)) := hc0 k (by omega)
        have HC1 : Hid (w.cell? ⟨b, off + k * 2 + 1, none⟩ = some (.int .i64 (L.getD k (0, 0)).2)) := hc1 k (by omega)
        have HC2 : Hid (0 < k → w.cell? ⟨b, off + (k - 1) * 2 + 1, none⟩ = some (.int .i64 ph)) := fun h => by rw [(HP.out h).1]; exact hc1 (k - 1) (by omega)
        have HPB : Hid (0 < k → 0 ≤ ph ∧ ph ≤ 1114111) := fun h => (HP.out h).2
        have HR : Hid (rightFrom 0 L = (okG ls (L.getD k (0, 0)) && rightFrom ((L.getD k (0, 0)).2 + 2) (L.drop (k + 1)))) := by
          show _ = _
          rw [HK.out, drop_consR L k (by omega)]
          rfl
        have HG : Hid ((L.getD (k + 1 - 1) (0, 0)).2 = (L.getD k (0, 0)).2) := by rw [Nat.add_sub_cancel]; exact rfl
        have hgk : ∃ g, L.getD k (0, 0) = g := ⟨_, rfl⟩
        obtain ⟨⟨gl, gh⟩, hgk⟩ := hgk
        rw [hgk] at HC0 HC1 HR HG
        clear hgk hc0 hc1 hn' HK HP
        have HB8 : Hid (∃ B, B = (!dom gl || !dom gh || decide (gh < gl) || gapB (gl, gh))) := ⟨_, rfl⟩
        obtain ⟨B8, hB8⟩ := HB8.out
        have HB8 : Hid (B8 = (!dom gl || !dom gh || decide (gh < gl) || gapB (gl, gh))) := hB8
        have d0 := (hbw.cell (p := ⟨b, off + k * 2, none⟩) hbN).trans HC0.out
        have d1 := (hbw.cell (p := ⟨b, off + k * 2 + 1, none⟩) hbN).trans HC1.out
        have hkn : (k : Int) < (n : Int) := by omega
        have hdl := dom99 gl
        have hdh := dom99 gh
        generalize dom gl = e3 at hdl hB8
        generalize dom gh = e4 at hdh hB8
        have HB8' : Hid (B8 = (!e3 || !e4 || decide (gh < gl) || gapB (gl, gh))) := hB8
        simp only at d0 d1
        clear hB8
        go_wp2_with (first | (go_at_call_of 43 (Value.int .i64 gl); refine (hdl _).mono ?_; rintro e w' ⟨rfl, rfl⟩) | (go_at_call 43; refine (hdh _).mono ?_; rintro e w' ⟨rfl, rfl⟩))
        go_cut [61] from 9 to 96 (fun s wx => s = .bool B8 ∧ Below w.heap.size w wx)
        case first =>
          cases e3
          · go_quiet (fail)
            go_wp2
            go_meet
            exact ⟨by rw [HB8'.out]; rfl, below_drewN' hbw _⟩
          · cases e4
            · go_quiet (fail)
              go_wp2
              go_meet
              exact ⟨by rw [HB8'.out]; rfl, below_drewN' hbw _⟩
            · by_cases h1 : gh < gl
              · have x0 : decide (gl > gh) = true := decide_eq_true h1
                have x0' : decide (gh < gl) = true := decide_eq_true h1
                go_quiet (fail)
                go_wp2
                go_meet
                exact ⟨by rw [HB8'.out, x0']; rfl, below_drewN' hbw _⟩
              · have x0 : decide (gl > gh) = false := decide_eq_false h1
                have x0' : decide (gh < gl) = false := decide_eq_false h1
                by_cases h2 : gl ≤ 55295
                · have y1 : decide (gl ≤ 55295) = true := decide_eq_true h2
                  by_cases h3 : 57344 ≤ gh
                  · have y2 : decide (gh ≥ 57344) = true := decide_eq_true h3
                    have y2' : decide (57344 ≤ gh) = true := decide_eq_true h3
                    have hg : Hid (gapB (gl, gh) = true) := by show _ = _; simp [gapB]; omega
                    go_quiet (fail)
                    go_wp2
                    go_meet
                    exact ⟨by rw [HB8'.out, hg.out, x0']; rfl, below_drewN' hbw _⟩
                  · have y2 : decide (gh ≥ 57344) = false := decide_eq_false h3
                    have y2' : decide (57344 ≤ gh) = false := decide_eq_false h3
                    have hg : Hid (gapB (gl, gh) = false) := by show _ = _; simp [gapB]; omega
                    go_quiet (fail)
                    go_wp2
                    go_meet
                    exact ⟨by rw [HB8'.out, hg.out, x0']; rfl, below_drewN' hbw _⟩
                · have y1 : decide (gl ≤ 55295) = false := decide_eq_false h2
                  have hg : Hid (gapB (gl, gh) = false) := by show _ = _; simp [gapB]; omega
                  go_quiet (fail)
                  go_wp2
                  go_meet
                  exact ⟨by rw [HB8'.out, hg.out, x0']; rfl, below_drewN' hbw _⟩
        clear hdl hdh HB8' d0 d1 hbw hsz
        obtain ⟨w2, hw2⟩ : ∃ w2, w2 = wc := ⟨_, rfl⟩
        rw [← hw2] at hcut ⊢
        clear hw2 wc
        obtain ⟨rfl, hb2⟩ := hcut
        cases B8
        · have h8 : (!dom gl || !dom gh || decide (gh < gl) || gapB (gl, gh)) = false := HB8.out.symm
          have hdg : dom gl = true ∧ dom gh = true := by
            simp only [Bool.or_eq_false_iff, Bool.not_eq_false'] at h8
            exact ⟨h8.1.1.1, h8.1.1.2⟩
          have hgl := dom_bd hdg.1
          have hgh := dom_bd hdg.2
          have H8 : Hid ((!dom gl || !dom gh || decide (gh < gl) || gapB (gl, gh)) = false) := h8
          clear h8 hdg HB8
          obtain ⟨B10, hB10⟩ : ∃ B, B = (decide (0 < k) && decide (gl < ph + 2) && !(decide (gl = 57344) && decide (ph = 55295))) := ⟨_, rfl⟩
          have HB10 : Hid (B10 = (decide (0 < k) && decide (gl < ph + 2) && !(decide (gl = 57344) && decide (ph = 55295)))) := hB10
          clear hB10
          have d0 := (hb2.cell (p := ⟨b, off + k * 2, none⟩) hbN).trans HC0.out
          have d1 := (hb2.cell (p := ⟨b, off + k * 2 + 1, none⟩) hbN).trans HC1.out
          go_wp2_with fail
          go_cut [96] from 9 to 96 (fun s wx => s = .bool B10 ∧ Below w.heap.size w wx)
          case first =>
            by_cases hk0 : 0 < k
            · have x1 : decide ((k : Int) > 0) = true := decide_eq_true (by omega)
              have x1' : decide (0 < (k : Int)) = true := decide_eq_true (by omega)
              have z1 : decide (0 < k) = true := decide_eq_true hk0
              have d2 := (hb2.cell (p := ⟨b, off + (k - 1) * 2 + 1, none⟩) hbN).trans (HC2.out hk0)
              obtain ⟨hp0, hp1⟩ := HPB.out hk0
              have hwr : IntKind.i64.wrap ((k : Int) - 1) = (k : Int) - 1 := IntWalk.i64_in _ ⟨by omega, by omega⟩
              have hwp : IntKind.i64.wrap (ph + 2) = ph + 2 := IntWalk.i64_in _ ⟨by omega, by omega⟩
              have hk1 : ((k : Int) - 1).toNat = k - 1 := by omega
              have hk6 : (1 : Int) ≤ (k : Int) := by omega
              have hk2 : (0 : Int) ≤ (k : Int) - 1 := by omega
              have hk3 : (k : Int) - 1 < (n : Int) := by omega
              by_cases h5 : gl < ph + 2
              · have x2 : decide (gl < ph + 2) = true := decide_eq_true h5
                by_cases h6 : gl = 57344
                · subst h6
                  have x3' : decide ((57344 : Int) = 57344) = true := by simp
                  have x5 : (57344 : Int) < ph + 2 := h5
                  by_cases h7 : ph = 55295
                  · omega
                  · have x4 : (ph == 55295) = false := by simp [h7]
                    have x4' : decide (ph = 55295) = false := decide_eq_false h7
                    go_quiet (fail)
                    go_wp2
                    go_meet
                    exact ⟨by rw [HB10.out, z1, x2, x3', x4']; rfl, below_drewN' hb2 _⟩
                · have x3 : (gl == 57344) = false := by simp [h6]
                  have x3' : decide (gl = 57344) = false := decide_eq_false h6
                  go_quiet (fail)
                  go_wp2
                  go_meet
                  exact ⟨by rw [HB10.out, z1, x2, x3']; rfl, below_drewN' hb2 _⟩
              · have x2 : decide (gl < ph + 2) = false := decide_eq_false h5
                go_quiet (fail)
                go_wp2
                go_meet
                exact ⟨by rw [HB10.out, z1, x2]; rfl, below_drewN' hb2 _⟩
            · have x1 : decide ((k : Int) > 0) = false := decide_eq_false (by omega)
              have x1' : decide (0 < (k : Int)) = false := decide_eq_false (by omega)
              have z1 : decide (0 < k) = false := decide_eq_false hk0
              go_quiet (fail)
              go_wp2
              go_meet
              exact ⟨by rw [HB10.out, z1]; rfl, below_drewN' hb2 _⟩
          clear d0 d1
          obtain ⟨w3, hw3⟩ : ∃ w3, w3 = wc := ⟨_, rfl⟩
          rw [← hw3] at hcut ⊢
          clear hw3 wc
          obtain ⟨rfl, hb3⟩ := hcut
          cases B10
          · have HE : Hid (rightFrom 0 L = rightFrom (gh + 2) (L.drop (k + 1))) := by
              show _ = _
              rw [HR.out, ok_of H8.out HL.out HB10.out.symm]
              rfl
            clear HR HB10 H8 HC0 HC1 HC2 HPB
            go_wp2
            go_roundw
            case rel => exact ⟨k + 1, gh + 2, gh, by omega, by go_num, hb3, HE, by exact fun _ => ⟨HG.out.symm, by omega, by omega⟩, by exact .inr ⟨by omega, rfl⟩⟩
            case measure => simp [intOf]; omega
          · have HE : Hid (rightFrom 0 L = false) := by
              show _ = _
              rw [HR.out, bad_10 HL.out HB10.out.symm]
              rfl
            clear HR HB10 H8 HC0 HC1 HC2 HPB HG HL
            go_wp2
            go_ret
            exact ⟨ret_bool HE.out.symm, hb3⟩
        · have HE : Hid (rightFrom 0 L = false) := by
            show _ = _
            rw [HR.out, bad_8 HB8.out.symm]
            rfl
          clear HR HB8 HC0 HC1 HC2 HPB HG HL
          go_wp2
          go_ret
          exact ⟨ret_bool HE.out.symm, hb2⟩
    · have HA : Hid (rightFrom 0 L = true) := by
        show _ = _
        rw [HK.out, List.drop_of_length_le (by rw [hn.out]; omega)]
        rfl
      clear HK HP HL
      go_wp2
      go_ret
      exact ⟨ret_bool HA.out.symm, hbw⟩
set_option maxHeartbeats 1000000 in
theorem rright33 (L : List (Int × Int)) (ad : Option Addr) (n cap : Nat) (w : World) (hn : Hid (L.length = n)) (hS : n ≤ 9223372036854775807) (hl : Hid (RowAt w.heap.size w (.slice ad n cap) L)) :
    Calls Try.prog 36 #[.slice ad n cap] w fun e w' => e = .returned (.bool (rightB L)) ∧ Below w.heap.size w w' := by
  by_cases h50 : 5000 < n
  · have HBD : Hid (rightB L = false) := by show _ = _; unfold rightB; rw [hn.out]; simp; omega
    go_enter Try.func36, Try.ntmps36
    go_wp2
    go_ret
    exact ⟨by rw [HBD.out]; rfl, Below.refl _ _⟩
  · have hRB : rightB L = rightFrom 0 L := by unfold rightB; rw [hn.out, decide_eq_true (show n ≤ 5000 by omega)]; rfl
    rw [hRB]
    exact rright_short L ad n cap w hn (by omega) hl
end Go.Proofs.Ytiggbgmnibndoaa
/- HELPERS: an instruction in memory; may it be. -/
namespace Go.Proofs.Ytiggbgmnibndoaa
open Go.RowKit
set_option linter.unusedVariables false
set_option linter.unusedSimpArgs false
/-- an instruction's five cells -/
structure Iv where
  op : Int
  x : Int
  y : Int
  a : Int
  r1 : Option Addr
  r2 : Nat
  r3 : Nat
instance : Inhabited Iv := ⟨⟨0, 0, 0, 0, none, 0, 0⟩⟩
abbrev Iv.cs (N : Iv) : List Value := [.int .i64 N.op, .int .i64 N.x, .int .i64 N.y, .int .i64 N.a, .slice N.r1 N.r2 N.r3]
abbrev Iv.v (N : Iv) : Value := .agg #[.int .i64 N.op, .int .i64 N.x, .int .i64 N.y, .int .i64 N.a, .slice N.r1 N.r2 N.r3]
/-- an instruction -/
structure In where
  op : Int
  x : Int
  y : Int
  a : Int
  R : List (Int × Int)
instance : Inhabited In := ⟨⟨0, 0, 0, 0, []⟩⟩
def In.okB (I : In) (n caps : Int) : Bool := isTargetB I.x (hasXB I.op) n && isTargetB I.y (hasYB I.op) n && isArgB I.op I.a caps && isRangesB I.op I.R
theorem five {w : World} {b : Nat} {v0 v1 v2 v3 v4 : Value} {t : TypeId} {fr : Nat × Nat} (h : w.heap[b]? = some (.cells #[v0, v1, v2, v3, v4] t fr)) : w.cell? ⟨b, 0, none⟩ = some v0 ∧ w.cell? ⟨b, 1, none⟩ = some v1 ∧ w.cell? ⟨b, 2, none⟩ = some v2 ∧ w.cell? ⟨b, 3, none⟩ = some v3 ∧ w.cell? ⟨b, 4, none⟩ = some v4 :=
  ⟨Joins.cell_of_block h 0, Joins.cell_of_block h 1, Joins.cell_of_block h 2, Joins.cell_of_block h 3, Joins.cell_of_block h 4⟩
set_option maxRecDepth 100000 in
set_option maxHeartbeats 4000000 in
theorem inst40 (N : Iv) (R : List (Int × Int)) (n caps : Int) (w : World) (hn : N.r2 = R.length) (hS : N.r2 * 16 ≤ 140737488351232) (hl : RowAt w.heap.size w (.slice N.r1 N.r2 N.r3) R) :
    Calls Try.prog 42 #[N.v, .int .i64 n, .int .i64 caps] w fun e w' => e = .returned (.bool (In.okB ⟨N.op, N.x, N.y, N.a, R⟩ n caps)) ∧ Below w.heap.size w w' := by
  obtain ⟨op, x, y, a, r1, r2, r3⟩ := N
  dsimp only at hn hS hl ⊢
  obtain ⟨U, hU⟩ : ∃ U, U = w.alloc (.cells #[.int .i64 op, .int .i64 x, .int .i64 y, .int .i64 a, .slice r1 r2 r3] 60) := ⟨_, rfl⟩
  have hb : Below w.heap.size w U := by rw [hU]; exact Joins.below_alloc1 w _
  have hX : U.heap[w.heap.size]? = some (.cells #[.int .i64 op, .int .i64 x, .int .i64 y, .int .i64 a, .slice r1 r2 r3] 60 (0, 0)) := by rw [hU]; exact heap_alloc_new w _
  obtain ⟨c0, c1, c2, c3, c4⟩ := five hX
  have HR : ∀ W, W.heap = U.heap → W.os = U.os → W.tape = U.tape → W.output = U.output → Calls Try.prog 50 #[.int .i64 op, .slice r1 r2 r3] W fun e w' => e = .returned (.bool (isRangesB op R)) ∧ Below U.heap.size U w' := by
    intro W e1 e2 e3 e4
    have hbW : Below U.heap.size U W := ⟨e2, e3, e4, by rw [e1]; exact Nat.le_refl _, fun k hk => by rw [e1]⟩
    have hbw : Below w.heap.size w W := hb.trans (Joins.below_le hbW hb.size)
    refine (ranges64 op R r1 r2 r3 W hn hS (hl.below hbw (Nat.le_refl _) hbw.size)).mono ?_
    rintro e w' ⟨h1, h2⟩
    exact ⟨h1, hbW.trans (Joins.below_le h2 hbW.size)⟩
  have HRR := hid' HR
  have HB := hid' hb
  have HX := hid' hX
  have hsz : w.heap.size < U.heap.size := (Array.getElem?_eq_some_iff.1 hX).1
  clear HR hn hS hl hb hX
  have T1 := fun W => target60 x (hasXB op) n W
  have T2 := fun W => target60 y (hasYB op) n W
  have T3 := fun W => arg63 op a caps W
  have X1 := fun W => hasX61 op W
  have X2 := fun W => hasY62 op W
  obtain ⟨b, hbe⟩ : ∃ b, b = w.heap.size := ⟨_, rfl⟩
  go_enter Try.func42, Try.ntmps42
  go_upto_region 1 with fail
  rw [← hU, ← hbe]
  rw [← hbe] at c0 c1 c2 c3 c4 hsz HX HB
  have HBE := hid' hbe
  clear hU hbe
  cases g1 : isTargetB x (hasXB op) n
  · simp only [g1] at T1
    go_quiet (first | (go_at_call 47; with_reducible refine Calls.quiet_of_same (X1 _)) | (go_at_call 46; first | (with_reducible refine Calls.quiet_of_same (T1 _)) | (with_reducible refine Calls.quiet_of_same (T2 _))) | (go_at_call 48; with_reducible refine Calls.quiet_of_same (X2 _)) | (go_at_call 49; with_reducible refine Calls.quiet_of_same (T3 _)))
    go_wp2
    all_goals go_ret
    all_goals refine ⟨ret_bool (by simp [In.okB, g1]), ?_⟩
    all_goals rw [← HBE.out]
    all_goals exact below_drewN' HB.out _
  · simp only [g1] at T1
    cases g2 : isTargetB y (hasYB op) n
    · simp only [g2] at T2
      go_quiet (first | (go_at_call 47; with_reducible refine Calls.quiet_of_same (X1 _)) | (go_at_call 46; first | (with_reducible refine Calls.quiet_of_same (T1 _)) | (with_reducible refine Calls.quiet_of_same (T2 _))) | (go_at_call 48; with_reducible refine Calls.quiet_of_same (X2 _)) | (go_at_call 49; with_reducible refine Calls.quiet_of_same (T3 _)))
      go_wp2
      all_goals go_ret
      all_goals refine ⟨ret_bool (by simp [In.okB, g1, g2]), ?_⟩
      all_goals rw [← HBE.out]
      all_goals exact below_drewN' HB.out _
    · simp only [g2] at T2
      cases g3 : isArgB op a caps
      · simp only [g3] at T3
        go_quiet (first | (go_at_call 47; with_reducible refine Calls.quiet_of_same (X1 _)) | (go_at_call 46; first | (with_reducible refine Calls.quiet_of_same (T1 _)) | (with_reducible refine Calls.quiet_of_same (T2 _))) | (go_at_call 48; with_reducible refine Calls.quiet_of_same (X2 _)) | (go_at_call 49; with_reducible refine Calls.quiet_of_same (T3 _)))
        go_wp2
        all_goals go_ret
        all_goals refine ⟨ret_bool (by simp [In.okB, g1, g2, g3]), ?_⟩
        all_goals rw [← HBE.out]
        all_goals exact below_drewN' HB.out _
      · simp only [g3] at T3
        go_region_held3 (fun W => W.cell? ⟨b, 0, none⟩ = some (.int .i64 op) ∧ W.cell? ⟨b, 1, none⟩ = some (.int .i64 x) ∧ W.cell? ⟨b, 2, none⟩ = some (.int .i64 y) ∧ W.cell? ⟨b, 3, none⟩ = some (.int .i64 a) ∧ W.cell? ⟨b, 4, none⟩ = some (.slice r1 r2 r3)) (first | (exact ⟨d0, d1, d2, d3, d4⟩) | (simp [*]; done)) (first | (go_at_call 47; (with_reducible refine (X1 _).mono ?_); rintro e w2 ⟨rfl, rfl⟩) | (go_at_call 46; (first | (with_reducible refine (T1 _).mono ?_) | (with_reducible refine (T2 _).mono ?_)); rintro e w2 ⟨rfl, rfl⟩) | (go_at_call 48; (with_reducible refine (X2 _).mono ?_); rintro e w2 ⟨rfl, rfl⟩) | (go_at_call 49; (with_reducible refine (T3 _).mono ?_); rintro e w2 ⟨rfl, rfl⟩) | (go_at_call 50; (with_reducible refine (HRR.out _ ?_ ?_ ?_ ?_).mono ?_); (rfl); (rfl); (rfl); (rfl); rintro e w2 ⟨rfl, hb2⟩; obtain ⟨d0, d1, d2, d3, d4⟩ := five ((hb2.block b hsz).trans HX.out); have HB2 := hid' hb2; clear hb2))
        all_goals go_wp2
        all_goals go_ret
        all_goals refine ⟨ret_bool (by simp [In.okB, g1, g2, g3]), ?_⟩
        all_goals rw [← HBE.out]
        all_goals first | exact HB.out.drew | exact HB.out | exact HB.out.trans (Joins.below_le HB2.out (by omega))
end Go.Proofs.Ytiggbgmnibndoaa
/- HELPERS: a program in memory; Check. -/
namespace Go.Proofs.Ytiggbgmnibndoaa
open Go.RowKit
set_option linter.unusedVariables false
set_option linter.unusedSimpArgs false
/-- the five cells of the i-th instruction of a row -/
def I5 (w : World) (b o i : Nat) (N : Iv) : Prop := w.cell? ⟨b, o + i * 5, none⟩ = some (.int .i64 N.op) ∧ w.cell? ⟨b, o + i * 5 + 1, none⟩ = some (.int .i64 N.x) ∧ w.cell? ⟨b, o + i * 5 + 2, none⟩ = some (.int .i64 N.y) ∧ w.cell? ⟨b, o + i * 5 + 3, none⟩ = some (.int .i64 N.a) ∧ w.cell? ⟨b, o + i * 5 + 4, none⟩ = some (.slice N.r1 N.r2 N.r3)
theorem I5.kept {w w' : World} {b o i : Nat} {N : Iv} (h : I5 w b o i N) (hk : w'.heap[b]? = w.heap[b]?) : I5 w' b o i N := by
  obtain ⟨h0, h1, h2, h3, h4⟩ := h
  exact ⟨(cell_eq hk _).trans h0, (cell_eq hk _).trans h1, (cell_eq hk _).trans h2, (cell_eq hk _).trans h3, (cell_eq hk _).trans h4⟩
/-- an instruction whose ranges lie in memory -/
structure IM (w : World) (B : Nat) (N : Iv) (I : In) : Prop where
  op : N.op = I.op
  x : N.x = I.x
  y : N.y = I.y
  a : N.a = I.a
  len : N.r2 = I.R.length
  sm : N.r2 * 16 ≤ 140737488351232
  row : RowAt B w (.slice N.r1 N.r2 N.r3) I.R
theorem IM.kept {w w' : World} {B B' : Nat} {N : Iv} {I : In} (h : IM w B N I) (hb : Below B w w') (hB : B ≤ B') : IM w' B' N I := ⟨h.op, h.x, h.y, h.a, h.len, h.sm, h.row.below hb (Nat.le_refl _) hB⟩
/-- a row of instructions in memory, below a block -/
structure PI (w : World) (B : Nat) (ad : Option Addr) (n : Nat) (l : List In) : Prop where
  len : n = l.length
  mem : 0 < n → ∃ (b o : Nat) (ND : Nat → Iv), ad = some ⟨b, o, none⟩ ∧ b < B ∧ ∀ i (hi : i < l.length), I5 w b o i (ND i) ∧ IM w B (ND i) l[i]
theorem PI.kept {w w' : World} {B B' : Nat} {ad : Option Addr} {n : Nat} {l : List In} (h : PI w B ad n l) (hb : Below B w w') (hB : B ≤ B') : PI w' B' ad n l := by
  refine ⟨h.len, fun hp => ?_⟩
  obtain ⟨b, o, ND, e, h1, h2⟩ := h.mem hp
  exact ⟨b, o, ND, e, by omega, fun i hi => ⟨(h2 i hi).1.kept (hb.block b h1), (h2 i hi).2.kept hb hB⟩⟩
def mayB (l : List In) (s k : Int) : Bool := decide (l.length ≤ 20000) && belowB s l.length && capsB k && l.all fun I => I.okB l.length k
abbrev pv (ad : Option Addr) (n c : Nat) (s k : Int) : Value := .agg #[.slice ad n c, .int .i64 s, .int .i64 k]
theorem head_no {l : List In} {s k : Int} (h : (decide (l.length ≤ 20000) && belowB s l.length && capsB k) = false) : mayB l s k = false := by
  unfold mayB
  rw [h]
  rfl
set_option maxRecDepth 100000 in
set_option maxHeartbeats 4000000 in
theorem maybe24_no {w : World} {ad : Option Addr} {n c : Nat} {l : List In} {s k : Int} (hl : n = l.length) (hno : (decide (l.length ≤ 20000) && belowB s l.length && capsB k) = false) :
    Calls Try.prog 34 #[pv ad n c s k] w fun e w' => e = .returned (.bool (mayB l s k)) ∧ Below w.heap.size w w' := by
  rw [head_no hno]
  rw [← hl] at hno
  clear hl
  have T1 := fun W => below38 s n W
  have T2 := fun W => caps39 k W
  by_cases hA : n ≤ 20000
  · have b1 : decide ((n : Int) > 20000) = false := by simp; omega
    have b1' : decide ((20000 : Int) < (n : Int)) = false := by simp; omega
    cases g1 : belowB s n
    · simp only [g1] at T1
      go_enter Try.func34, Try.ntmps34
      go_wp2_with (first | (go_at_call 40; (with_reducible refine (T1 _).mono ?_); rintro e w2 ⟨rfl, rfl⟩))
      all_goals go_ret
      all_goals exact ⟨rfl, Joins.below_alloc1 w _⟩
    · simp only [g1] at T1
      have g2 : capsB k = false := by simpa [g1, hA] using hno
      simp only [g2] at T2
      go_enter Try.func34, Try.ntmps34
      go_wp2_with (first | (go_at_call 40; (with_reducible refine (T1 _).mono ?_); rintro e w2 ⟨rfl, rfl⟩) | (go_at_call 41; (with_reducible refine (T2 _).mono ?_); rintro e w2 ⟨rfl, rfl⟩))
      all_goals go_ret
      all_goals exact ⟨rfl, Joins.below_alloc1 w _⟩
  · have b1 : decide ((n : Int) > 20000) = true := by simp; omega
    have b1' : decide ((20000 : Int) < (n : Int)) = true := by simp; omega
    go_enter Try.func34, Try.ntmps34
    go_wp2
    all_goals go_ret
    all_goals exact ⟨rfl, Joins.below_alloc1 w _⟩
theorem three_cells {w : World} {b : Nat} {v0 v1 v2 : Value} {t : TypeId} {fr : Nat × Nat} (h : w.heap[b]? = some (.cells #[v0, v1, v2] t fr)) : w.cell? ⟨b, 0, none⟩ = some v0 ∧ w.cell? ⟨b, 1, none⟩ = some v1 ∧ w.cell? ⟨b, 2, none⟩ = some v2 :=
  ⟨Joins.cell_of_block h 0, Joins.cell_of_block h 1, Joins.cell_of_block h 2⟩
set_option maxRecDepth 100000 in
set_option maxHeartbeats 4000000 in
theorem maybe24_ok {w : World} {ad : Option Addr} {n c : Nat} {l : List In} {s k : Int} (h : PI w w.heap.size ad n l) (hyes : (decide (l.length ≤ 20000) && belowB s l.length && capsB k) = true) :
    Calls Try.prog 34 #[pv ad n c s k] w fun e w' => e = .returned (.bool (mayB l s k)) ∧ Below w.heap.size w w' := by
  have hm : mayB l s k = l.all fun I => I.okB l.length k := by unfold mayB; rw [hyes]; rfl
  rw [hm]
  have hl := h.len
  rw [← hl] at hyes ⊢
  simp only [Bool.and_eq_true, decide_eq_true_eq] at hyes
  obtain ⟨⟨hA, g1⟩, g2⟩ := hyes
  have T1 := fun W => below38 s n W
  have T2 := fun W => caps39 k W
  simp only [g1] at T1
  simp only [g2] at T2
  have b1 : decide ((n : Int) > 20000) = false := by simp; omega
  have b1' : decide ((20000 : Int) < (n : Int)) = false := by simp; omega
  obtain ⟨U, hU⟩ : ∃ U, U = w.alloc (.cells #[.slice ad n c, .int .i64 s, .int .i64 k] 27) := ⟨_, rfl⟩
  have hb : Below w.heap.size w U := by rw [hU]; exact Joins.below_alloc1 w _
  have hX : U.heap[w.heap.size]? = some (.cells #[.slice ad n c, .int .i64 s, .int .i64 k] 27 (0, 0)) := by rw [hU]; exact heap_alloc_new w _
  have hsz : w.heap.size < U.heap.size := (Array.getElem?_eq_some_iff.1 hX).1
  have HP := hid' (h.kept hb hb.size)
  have HB := hid' hb
  have HX := hid' hX
  have HL := hid' hl
  have hz : w.heap.size ≤ w.heap.size := Nat.le_refl _
  clear h hl hb hX hm hz
  obtain ⟨b, hbe⟩ : ∃ b, b = w.heap.size := ⟨_, rfl⟩
  go_enter Try.func34, Try.ntmps34
  go_upto_region 1 with fail
  rw [← hU, ← hbe]
  rw [← hbe] at hsz HX HB
  have HBE := hid' hbe
  clear hU hbe
  obtain ⟨c0, c1, c2⟩ := three_cells HX.out
  go_wp2_with (first | (go_at_call 40; (with_reducible refine (T1 _).mono ?_); rintro e w2 ⟨rfl, hw⟩; have hw' := hw.symm; clear hw; subst hw') | (go_at_call 41; (with_reducible refine (T2 _).mono ?_); rintro e w2 ⟨rfl, hw⟩; have hw' := hw.symm; clear hw; subst hw'))
  clear c0 c1 c2 T1 T2 b1 b1'
  go_loopw [27] (fun y wq => ∃ i : Nat, y = .int .i64 (i : Int) ∧ i ≤ n ∧ Hid (Below U.heap.size U wq) ∧ Hid (∀ j (hj : j < l.length), j < i → (l[j]).okB n k = true)) (fun y _ => n - (intOf y).toNat)
  case atStart => exact ⟨0, rfl, by omega, Below.refl _ _, fun j hj h0 => by omega⟩
  case round =>
    obtain ⟨i, rfl, hi, BK, HA⟩ := hrel
    by_cases hil : i < n
    · have b1 : decide ((i : Int) < (n : Int)) = true := by simp; omega
      have b2 : (i : Int) < (n : Int) := by omega
      have ad1 : IntKind.i64.wrap ((i : Int) + 1) = (i : Int) + 1 := by simp [IntKind.wrap, IntKind.bits, IntKind.signed]; omega
      have hlt : i < l.length := by have := HL.out; omega
      obtain ⟨q, o, ND, e, hq, hcs⟩ := HP.out.mem (by omega)
      subst e
      obtain ⟨m0, m1, m2, m3, m4⟩ := (hcs i hlt).1.kept (BK.out.block q hq)
      have hIM := (hcs i hlt).2.kept BK.out BK.out.size
      obtain ⟨M, hM⟩ : ∃ M, M = ND i := ⟨_, rfl⟩
      rw [← hM] at m0 m1 m2 m3 m4 hIM
      have hbw : b < wr.heap.size := by have := BK.out.size; omega
      have hcc : wr.cell? ⟨b, 2, none⟩ = some (.int .i64 k) := (three_cells ((BK.out.block b hsz).trans HX.out)).2.2
      obtain ⟨V, hV⟩ : ∃ V, V = wr.alloc (.cells #[.int .i64 M.op, .int .i64 M.x, .int .i64 M.y, .int .i64 M.a, .slice M.r1 M.r2 M.r3] 60) := ⟨_, rfl⟩
      have hbV : Below wr.heap.size wr V := by rw [hV]; exact Joins.below_alloc1 wr _
      have hIV := hIM.kept hbV hbV.size
      have HC := inst40 M l[i].R n k V hIV.len hIV.sm hIV.row
      rw [hIV.op, hIV.x, hIV.y, hIV.a] at HC
      have HBV := hid' hbV
      have hVe : In.okB ⟨l[i].op, l[i].x, l[i].y, l[i].a, l[i].R⟩ n k = l[i].okB n k := rfl
      rw [hVe] at HC
      rw [hV] at HC HBV
      clear hM hIM hIV hbV hV hVe hcs
      cases g : l[i].okB n k
      · rw [g] at HC
        go_wp2_with (first | (go_at_call 42; (with_reducible refine HC.mono ?_); rintro e w2 ⟨rfl, hb2⟩; have HB2 := hid' hb2; clear hb2 HC))
        all_goals go_ret
        all_goals refine ⟨ret_bool ?_, ?_⟩
        · symm
          rw [List.all_eq_false]
          exact ⟨l[i], List.getElem_mem hlt, by rw [g]; simp⟩
        · rw [← HBE.out]
          exact HB.out.trans (Joins.below_le (BK.out.trans (Joins.below_le (HBV.out.trans (Joins.below_le HB2.out HBV.out.size)) BK.out.size)) (by omega))
      · rw [g] at HC
        go_wp2_with (first | (go_at_call 42; (with_reducible refine HC.mono ?_); rintro e w2 ⟨rfl, hb2⟩; have HB2 := hid' hb2; clear hb2 HC))
        refine ⟨⟨i + 1, by push_cast; rfl, by omega, BK.out.trans (Joins.below_le (HBV.out.trans (Joins.below_le HB2.out HBV.out.size)) BK.out.size), fun j hj h1 => ?_⟩, by simp [intOf]; omega⟩
        by_cases e : j = i
        · subst e; exact g
        · exact HA.out j hj (by omega)
    · have b1 : decide ((i : Int) < (n : Int)) = false := by simp; omega
      go_wp2
      all_goals go_ret
      all_goals refine ⟨ret_bool ?_, ?_⟩
      · symm
        rw [List.all_eq_true]
        intro I hI
        obtain ⟨j, hj, rfl⟩ := List.getElem_of_mem hI
        exact HA.out j hj (by have := HL.out; omega)
      · rw [← HBE.out]
        exact HB.out.trans (Joins.below_le BK.out (by omega))
theorem maybe24 {w : World} {ad : Option Addr} {n c : Nat} {l : List In} {s k : Int} (h : PI w w.heap.size ad n l) : Calls Try.prog 34 #[pv ad n c s k] w fun e w' => e = .returned (.bool (mayB l s k)) ∧ Below w.heap.size w w' := by
  cases hh : decide (l.length ≤ 20000) && belowB s l.length && capsB k with
  | false => exact maybe24_no h.len hh
  | true => exact maybe24_ok h hh
theorem check10 {w : World} {ad : Option Addr} {n c : Nat} {l : List In} {s k : Int} (h : PI w w.heap.size ad n l) : Calls Try.prog 27 #[pv ad n c s k] w fun e w' => e = .returned (.int .i64 (if mayB l s k then 0 else 90)) ∧ Below w.heap.size w w' := by
  have hb := Joins.below_alloc1 w (.cells #[.slice ad n c, .int .i64 s, .int .i64 k] 27)
  have HC := maybe24 (c := c) (s := s) (k := k) (h.kept hb hb.size)
  have HB := hid' hb
  clear h hb
  cases g : mayB l s k
  · rw [g] at HC
    go_enter Try.func27, Try.ntmps27
    go_wp2_with (first | (go_at_call 34; (with_reducible refine HC.mono ?_); rintro e w2 ⟨rfl, hb2⟩; have HB2 := hid' hb2; clear hb2 HC))
    all_goals go_ret
    all_goals exact ⟨rfl, HB.out.trans (Joins.below_le HB2.out HB.out.size)⟩
  · rw [g] at HC
    go_enter Try.func27, Try.ntmps27
    go_wp2_with (first | (go_at_call 34; (with_reducible refine HC.mono ?_); rintro e w2 ⟨rfl, hb2⟩; have HB2 := hid' hb2; clear hb2 HC))
    all_goals go_ret
    all_goals exact ⟨rfl, HB.out.trans (Joins.below_le HB2.out HB.out.size)⟩
end Go.Proofs.Ytiggbgmnibndoaa
/- HELPERS: which nodes may be: the document's answer. -/
namespace Go.Proofs.Ytiggbgmnibndoaa
open Go.RowKit
set_option linter.unusedVariables false
set_option linter.unusedSimpArgs false
theorem R2.row {w : World} {B : Nat} {N : Nv} {R : List (Int × Int)} (h : R2 w B N.r1 R) (hr : N.r2 = R.length) : RowAt B w (.slice N.r1 N.r2 N.r3) R := by
  refine ⟨N.r1, N.r3, by rw [hr], ?_⟩
  rcases R with _ | ⟨x, R⟩
  · exact .inl rfl
  · obtain ⟨b, o, h1, h2, h3⟩ := h (by simp)
    refine .inr ⟨b, o, h1, h2, fun k hk => ?_, fun k hk => ?_⟩
    · rw [(h3 k hk).1]; simp only [List.getD_eq_getElem?_getD, List.getElem?_eq_getElem hk, Option.getD_some]
    · rw [(h3 k hk).2]; simp only [List.getD_eq_getElem?_getD, List.getElem?_eq_getElem hk, Option.getD_some]
end Go.Proofs.Ytiggbgmnibndoaa
/- HELPERS: which nodes may be: the program's answer. -/
namespace Go.Proofs.Ytiggbgmnibndoaa
open Go.RowKit
set_option linter.unusedVariables false
set_option linter.unusedSimpArgs false
theorem two_new (w : World) (o : Obj) (c : Array Value) (t : TypeId) : ((w.alloc o).alloc (.cells c t)).heap[w.heap.size + 1]? = some (.cells c t (0, 0)) := by
  have e : (w.alloc o).heap.size = w.heap.size + 1 := by simp
  rw [← e]
  exact heap_alloc_new _ _
theorem below_two' (w : World) (o o' : Obj) : Below w.heap.size w ((w.alloc o).alloc o') := (Joins.below_alloc1 w o).trans (Joins.below_le (Joins.below_alloc1 _ o') (by simp))
end Go.Proofs.Ytiggbgmnibndoaa
/- HELPERS: pointers, boxes, what a call leaves. -/
namespace Go.Proofs.Ytiggbgmnibndoaa
open Go.RowKit
set_option linter.unusedVariables false
set_option linter.unusedSimpArgs false
theorem hid {p : Prop} (h : p) : Hid p := h
theorem row_kept {w w' : World} {base e size n : Nat} {v : Value} {xs : List Value} (h : w.ownsRow base e size v n xs) (hk : ∀ b, v.ownBlock = some b → w'.heap[b]? = w.heap[b]?) : w'.ownsRow base e size v n xs := by
  refine ⟨h.1, ?_⟩
  rcases h.2 with hn | ⟨g, cap, cur, rfl, hb, hgg, rest⟩
  · exact .inl hn
  · exact .inr ⟨g, cap, cur, rfl, hb, (hk g rfl).trans hgg, rest⟩
theorem Chg.trans {w w1 w2 : World} {F F' F2 : List Nat} (h : Chg w w1 F F') (h2 : Chg w1 w2 F' F2) : Chg w w2 F F2 := by
  refine ⟨h2.os.trans h.os, h2.tape.trans h.tape, h2.output.trans h.output, Nat.le_trans h.size h2.size, fun k hk hn => ?_, fun k hk => ?_⟩
  · refine (h2.block k (Nat.lt_of_lt_of_le hk h.size) (fun hm => ?_)).trans (h.block k hk hn)
    rcases h.new k hm with h3 | h3
    · exact hn h3
    · omega
  · rcases h2.new k hk with h3 | h3
    · exact h.new k h3
    · right; have := h.size; omega
theorem Chg.refl (w : World) (F : List Nat) : Chg w w F F := ⟨rfl, rfl, rfl, Nat.le_refl _, fun _ _ _ => rfl, fun _ h => .inl h⟩
theorem Chg.alloc {w w' : World} {F F' : List Nat} (h : Chg w w' F F') (o : Obj) : Chg w (w'.alloc o) F F' :=
  ⟨h.os, h.tape, h.output, by have := h.size; simp; omega, fun k hk hn => (heap_alloc_old w' o (by have := h.size; omega)).trans (h.block k hk hn), h.new⟩
theorem three_new (w : World) (o o' o2 : Obj) : (((w.alloc o).alloc o').alloc o2).heap[w.heap.size]? = some o ∧ (((w.alloc o).alloc o').alloc o2).heap[w.heap.size + 1]? = some o' ∧ (((w.alloc o).alloc o').alloc o2).heap[w.heap.size + 1 + 1]? = some o2 ∧
    ∀ k, k < w.heap.size → (((w.alloc o).alloc o').alloc o2).heap[k]? = w.heap[k]? := by
  have s1 : (w.alloc o).heap.size = w.heap.size + 1 := by simp
  have s2 : ((w.alloc o).alloc o').heap.size = w.heap.size + 1 + 1 := by simp
  refine ⟨?_, ?_, ?_, fun k hk => ?_⟩
  · exact (heap_alloc_old _ _ (by omega)).trans ((heap_alloc_old _ _ (by omega)).trans (heap_alloc_new w o))
  · refine (heap_alloc_old _ _ (by omega)).trans ?_
    rw [← s1]; exact heap_alloc_new _ _
  · rw [← s2]; exact heap_alloc_new _ _
  · exact (heap_alloc_old _ _ (by omega)).trans ((heap_alloc_old _ _ (by omega)).trans (heap_alloc_old _ _ hk))
end Go.Proofs.Ytiggbgmnibndoaa
/- HELPERS: trees that lie in some blocks; rows of them. -/
namespace Go.Proofs.Ytiggbgmnibndoaa
open Go.RowKit
set_option linter.unusedVariables false
set_option linter.unusedSimpArgs false
/-- a row of ranges in blocks of A -/
def RP (w : World) (A : Nat → Prop) (ad : Option Addr) (R : List (Int × Int)) : Prop :=
  R ≠ [] → ∃ b o, ad = some ⟨b, o, none⟩ ∧ A b ∧ ∀ i (hi : i < R.length), w.cell? ⟨b, o + i * 2, none⟩ = some (.int .i64 R[i].1) ∧ w.cell? ⟨b, o + i * 2 + 1, none⟩ = some (.int .i64 R[i].2)
/-- a tree lies in blocks of A -/
inductive TP (w : World) (A : Nat → Prop) : Nv → Tn → Prop
  | mk {N : Nv} {R : List (Int × Int)} {ts : List Tn} {ND : Nat → Nv} (ok : N.ok) (hr : N.r2 = R.length) (hR : RP w A N.r1 R) (hRk : ∀ x ∈ R, I64ok x.1 ∧ I64ok x.2) (hs : N.s2 = ts.length)
      (hS : 0 < ts.length → ∃ b o, N.s1 = some ⟨b, o, none⟩ ∧ A b ∧ ∀ i, i < ts.length → N9 w b o i (ND i)) (hk : ∀ i (hi : i < ts.length), TP w A (ND i) ts[i]) :
      TP w A N (.mk N.k R N.a2 ts N.a4 N.a5 N.a6 N.a7 N.a8)
theorem RP.kept {w w' : World} {A A' : Nat → Prop} {ad : Option Addr} {R : List (Int × Int)} (h : RP w A ad R) (hk : ∀ b, A b → w'.heap[b]? = w.heap[b]?) (hA : ∀ b, A b → A' b) : RP w' A' ad R := fun hn => by
  obtain ⟨b, o, h1, h2, h3⟩ := h hn
  exact ⟨b, o, h1, hA b h2, fun i hi => ⟨(cell_eq (hk b h2) _).trans (h3 i hi).1, (cell_eq (hk b h2) _).trans (h3 i hi).2⟩⟩
theorem TP.kept {w w' : World} {A A' : Nat → Prop} {N : Nv} {t : Tn} (h : TP w A N t) (hk : ∀ b, A b → w'.heap[b]? = w.heap[b]?) (hA : ∀ b, A b → A' b) : TP w' A' N t := by
  induction h with
  | mk ok hr hR hRk hs hS hkk ih =>
    refine .mk ok hr (hR.kept hk hA) hRk hs (fun hp => ?_) ih
    obtain ⟨b, o, h1, h2, h3⟩ := hS hp
    exact ⟨b, o, h1, hA b h2, fun i hi => (h3 i hi).kept (hk b h2)⟩
theorem TI.tp {w : World} {B : Nat} {N : Nv} {t : Tn} (h : TI w B N t) : TP w (fun b => b < B) N t := by
  induction h with
  | mk ok hr hR hRk hs hS hkk ih => exact .mk ok hr hR hRk hs hS ih
theorem TP.ti {w : World} {A : Nat → Prop} {B : Nat} {N : Nv} {t : Tn} (h : TP w A N t) (hA : ∀ b, A b → b < B) : TI w B N t := by
  induction h with
  | mk ok hr hR hRk hs hS hkk ih =>
    refine .mk ok hr (fun hn => ?_) hRk hs (fun hp => ?_) ih
    · obtain ⟨b, o, h1, h2, h3⟩ := hR hn; exact ⟨b, o, h1, hA b h2, h3⟩
    · obtain ⟨b, o, h1, h2, h3⟩ := hS hp; exact ⟨b, o, h1, hA b h2, h3⟩
theorem TP.ok {w : World} {A : Nat → Prop} {N : Nv} {t : Tn} (h : TP w A N t) : N.ok := by cases h; assumption
theorem flat9 (MS : List Nv) : ∀ (j k : Nat) (hj : j < MS.length), k < 9 → (MS.flatMap Nv.cs)[j * 9 + k]? = (Nv.cs MS[j])[k]? := by
  induction MS with
  | nil => intro j k hj; simp at hj
  | cons M MS ih =>
    intro j k hj hk
    rw [List.flatMap_cons]
    have e9 : (Nv.cs M).length = 9 := rfl
    cases j with
    | zero => rw [List.getElem?_append_left (by rw [e9]; omega)]; simp
    | succ j =>
      rw [List.getElem?_append_right (by rw [e9]; omega)]
      have := ih j k (by simpa using hj) hk
      rw [e9, show (j + 1) * 9 + k - 9 = j * 9 + k by omega, this]
      rfl
/-- a row of trees that grows: their node's cells lie in it, what is below them in blocks of A -/
structure RowN (base B : Nat) (w : World) (uv : Value) (MS : List Nv) (us : List Tn) (A : Nat → Prop) : Prop where
  row : w.ownsRow base 39 9 uv MS.length (MS.flatMap Nv.cs)
  len : MS.length = us.length
  tp : ∀ j (h : j < us.length) (h' : j < MS.length), TP w A MS[j] us[j]
  inA : ∀ b, b < B → A b
  low : ∀ b, A b → b < w.heap.size
  out : ∀ b, uv.ownBlock = some b → ¬ A b
/-- such a row as the list of a node -/
theorem RowN.node {base B : Nat} {w : World} {uv : Value} {MS : List Nv} {us : List Tn} {A : Nat → Prop} (h : RowN base B w uv MS us A) {N : Nv} {R : List (Int × Int)} (ok : N.ok) (hr : N.r2 = R.length) (hR : RP w A N.r1 R) (hRk : ∀ x ∈ R, I64ok x.1 ∧ I64ok x.2) (hu : uv = .slice N.s1 N.s2 N.s3) :
    TP w (fun b => A b ∨ uv.ownBlock = some b) N (.mk N.k R N.a2 us N.a4 N.a5 N.a6 N.a7 N.a8) := by
  have hs2 : N.s2 = us.length := by
    rcases Joins.ownsRow_forms h.row with ⟨e, h0⟩ | ⟨b, cap, e⟩
    · rw [e] at hu
      simp only [Value.slice.injEq] at hu
      have := h.len
      omega
    · rw [e] at hu
      simp only [Value.slice.injEq] at hu
      have := h.len
      omega
  refine .mk (ND := fun i => MS.getD i default) ok hr (hR.kept (fun _ _ => rfl) (fun b hb => .inl hb)) hRk hs2 (fun hp => ?_) (fun i hi => ?_)
  · rcases Joins.ownsRow_forms h.row with ⟨e, h0⟩ | ⟨b, cap, e⟩
    · have := h.len; omega
    · rw [e] at hu
      simp only [Value.slice.injEq] at hu
      refine ⟨b, 0, hu.1.symm, .inr (by rw [e]; rfl), fun i hi => ?_⟩
      have hl := h.len
      have hrow := h.row
      rw [e] at hrow
      have c : ∀ k, k < 9 → w.cell? ⟨b, 0 + i * 9 + k, none⟩ = (Nv.cs (MS.getD i default))[k]? := fun k hk => by
        rw [Nat.zero_add, hrow.cellAt (i * 9 + k) (by omega), flat9 MS i k (by omega) hk]
        simp [List.getD_eq_getElem?_getD, List.getElem?_eq_getElem (show i < MS.length by omega)]
      exact ⟨c 0 (by omega), c 1 (by omega), c 2 (by omega), c 3 (by omega), c 4 (by omega), c 5 (by omega), c 6 (by omega), c 7 (by omega), c 8 (by omega)⟩
  · have hl := h.len
    rw [List.getD_eq_getElem?_getD, List.getElem?_eq_getElem (show i < MS.length by omega)]
    exact (h.tp i hi (by omega)).kept (fun _ _ => rfl) (fun b hb => .inl hb)
theorem RowN.nil (base B : Nat) (w : World) (hB : B ≤ w.heap.size) : RowN base B w (.slice none 0 0) [] [] (fun b => b < B) :=
  ⟨World.ownsRow_nil _ _ _ _, rfl, fun j h => by simp at h, fun b hb => hb, fun b hb => by omega, fun b hb => by cases hb⟩
/-- one more -/
theorem RowN.next {base B : Nat} {w w' w2 w3 : World} {uv v' : Value} {MS : List Nv} {us : List Tn} {A : Nat → Prop} (h : RowN base B w uv MS us A) {M : Nv} {u : Tn} (hw : w.heap.size ≤ w'.heap.size) (hk1 : ∀ b, b < w.heap.size → w'.heap[b]? = w.heap[b]?) (hb : Below w'.heap.size w' w2) (hM : TP w2 (fun b => b < B ∨ w'.heap.size ≤ b ∧ b < w2.heap.size) M u) (o : Obj)
    (ho : w3.ownsRow base 39 9 v' (MS.length + 1) (MS.flatMap Nv.cs ++ Nv.cs M)) (hm : Moved (w2.alloc o) w3 uv v') : RowN base B w3 v' (MS ++ [M]) (us ++ [u]) (fun b => A b ∨ w'.heap.size ≤ b ∧ b < w2.heap.size) := by
  have hub : ∀ k, uv.ownBlock = some k → k < w.heap.size := fun k hk => (h.row.lt k hk).2
  have s2 := hb.size
  have e3 : ∀ k, k < w2.heap.size → uv.ownBlock ≠ some k → w3.heap[k]? = w2.heap[k]? := fun k hk hn => by
    have e : (w2.alloc o).heap[k]? = w2.heap[k]? := heap_alloc_old w2 o hk
    rcases hm with ⟨_, h⟩ | ⟨_, h⟩
    · exact (h.block k (by simp; omega) (fun h => hn h.symm)).trans e
    · exact (h.block k (by simp; omega) (by simp)).trans e
  have hs3 : w2.heap.size ≤ w3.heap.size := by rcases hm with ⟨_, h⟩ | ⟨_, h⟩ <;> (have := h.size; simp at this; omega)
  have hout : ∀ b, (A b ∨ w'.heap.size ≤ b ∧ b < w2.heap.size) → uv.ownBlock ≠ some b := fun b hA e => by
    rcases hA with hA | hA
    · exact h.out b e hA
    · have := hub b e; omega
  have hlow : ∀ b, (A b ∨ w'.heap.size ≤ b ∧ b < w2.heap.size) → b < w2.heap.size := fun b hA => by
    rcases hA with hA | hA
    · have := h.low b hA; omega
    · omega
  refine ⟨?_, by simp [h.len], fun j hj hj' => ?_, fun b hb => .inl (h.inA b hb), fun b hA => by have := hlow b hA; omega, fun b hb hA => ?_⟩
  · rw [List.length_append, List.flatMap_append]
    simpa using ho
  · by_cases hjl : j < us.length
    · have hl := h.len
      rw [List.getElem_append_left (by omega), List.getElem_append_left hjl]
      exact (h.tp j hjl (by omega)).kept (fun b hA => (e3 b (hlow b (.inl hA)) (hout b (.inl hA))).trans ((hb.block b (by have := h.low b hA; omega)).trans (hk1 b (h.low b hA)))) (fun b hA => .inl hA)
    · have hl := h.len
      simp only [List.length_append, List.length_cons, List.length_nil] at hj hj'
      have e : j = us.length := by omega
      subst e
      rw [List.getElem_append_right (by omega), List.getElem_append_right (Nat.le_refl _)]
      simp only [Nat.sub_self, hl, List.getElem_cons_zero]
      refine hM.kept (fun b hA => ?_) (fun b hA => ?_)
      · rcases hA with hA | hA
        · exact e3 b (by have := h.low b (h.inA b hA); omega) (hout b (.inl (h.inA b hA)))
        · exact e3 b hA.2 (hout b (.inr hA))
      · rcases hA with hA | hA
        · exact .inl (h.inA b hA)
        · exact .inr hA
  · rcases hm with ⟨h0, _⟩ | ⟨h0, _⟩
    · rw [h0] at hb
      exact hout b hA hb
    · rw [h0] at hb
      simp at hb
      have := hlow b hA
      omega
end Go.Proofs.Ytiggbgmnibndoaa
/- HELPERS: a region that draws its order: what only reads is taken first, in the text's order, where the rest keeps what it reads, but for the last operation, which waits for all. -/

namespace Go.Proofs.Ytiggbgmnibndoaa
open Go Go.RowKit
set_option linter.unusedVariables false
section
variable {P : Program} {ops : Array Oper} {Q : Exit → Act → World → Prop} {md : Region.Mode} {S : World → Prop} {L : Nat}
def wpAnyX (P : Program) (md : Region.Mode) (ops : Array Oper) (Q : Exit → Act → World → Prop) (S : World → Prop) (L : Nat) : Nat → Array Bool → Act → World → Prop
  | 0, listed, a, w => Region.ready md ops listed = [] ∧ Q .normal a w
  | fuel + 1, listed, a, w =>
    (Region.ready md ops listed = [] → Q .normal a w) ∧
    ∀ i ∈ Region.ready md ops listed, wpOp P ops Q i (fun a' w' => (i ≠ L → S w') ∧ wpAnyX P md ops Q S L fuel (listed.setIfInBounds i true) a' w') a w
theorem wpAny_of_X : ∀ (fuel : Nat) (listed : Array Bool) (a : Act) (w : World), wpAnyX P md ops Q S L fuel listed a w → wpAny P md ops Q fuel listed a w
  | 0, _, _, _, h => h
  | fuel + 1, _, _, _, h => ⟨h.1, fun i hi => wpOp_mono (fun a' w' h' => wpAny_of_X fuel _ a' w' h'.2) (h.2 i hi)⟩
theorem wpAnyX_first {i : Nat} {oi : Oper} {v : Value} (hi : ops[i]? = some oi) (hsel : ∀ (j : Nat) (o : Oper) cs b, ops[j]? = some o → o.op ≠ .select cs b)
    (hQ : ∀ c a w, Q (.panic c) (a.put oi.dst v) w → Q (.panic c) a w) (hL : Region.waitsFor md ops L i = true) :
    ∀ (fuel : Nat) (listed : Array Bool) (a : Act) (w : World),
      (∀ j oj, ops[j]? = some oj → j ≠ i → listed.getD j true = false → (∀ e ∈ oj.after, Region.binds md e = true → e.on ≠ i) → oi.apart ops oj = true) →
      i ∈ Region.ready md ops listed → YieldsIf P ops S oi v a → S w →
      wpAnyX P md ops Q S L fuel (listed.setIfInBounds i true) (a.put oi.dst v) w → wpAnyX P md ops Q S L (fuel + 1) listed a w := by
  intro fuel
  induction fuel with
  | zero =>
    intro listed a w _ hr hy hS H
    refine ⟨fun h => (by rw [h] at hr; cases hr), fun j hj => ?_⟩
    by_cases hji : j = i
    · subst hji; exact hy.wpOp hi hS ⟨fun _ => hS, H⟩
    · have := ready_mono hj hji
      rw [H.1] at this
      cases this
  | succ fuel ih =>
    intro listed a w hfree hr hy hS H
    refine ⟨fun h => (by rw [h] at hr; cases hr), fun j hj => ?_⟩
    by_cases hji : j = i
    · subst hji; exact hy.wpOp hi hS ⟨fun _ => hS, H⟩
    · have h1 := H.2 j (ready_mono hj hji)
      obtain ⟨hjun, oj, hoj, hall⟩ := mem_ready.1 hj
      have hnot : ∀ e ∈ oj.after, Region.binds md e = true → e.on ≠ i := fun e he hb heq => by
        have h1 := hall e he hb
        have h0 := (mem_ready.1 hr).1
        rw [heq] at h1
        rcases Nat.lt_or_ge i listed.size with h' | h'
        · simp [h'] at h0 h1; rw [h0] at h1; cases h1
        · simp [Array.getElem?_eq_none h'] at h1
      have hjL : j ≠ L := fun e => by
        subst e
        obtain ⟨o', ho', e, he, hb, hon⟩ := Region.waitsFor_spec hL
        have : o' = oj := Option.some.inj (ho'.symm.trans hoj)
        subst this
        exact hnot e he hb hon
      have h2 := wpOp_putIf hoj (hfree j oj hoj hji hjun hnot) (fun cs b => hsel i oi cs b hi) (fun cs b => hsel j oj cs b hoj) hQ hy h1
      have hfree' : ∀ k ok, ops[k]? = some ok → k ≠ i → (listed.setIfInBounds j true).getD k true = false →
          (∀ e ∈ ok.after, Region.binds md e = true → e.on ≠ i) → oi.apart ops ok = true := fun k ok hk hki hun hno => by
        refine hfree k ok hk hki ?_ hno
        by_cases hjk : j = k
        · subst hjk; exact hjun
        · rw [getD_set_ne true hjk] at hun; exact hun
      refine wpOp_mono (fun a' w' h3 => ⟨fun _ => h3.2.1 hjL, ih (listed.setIfInBounds j true) a' w' hfree' (ready_mono hr (Ne.symm hji)) h3.1 (h3.2.1 hjL) ?_⟩) h2
      rw [Array.setIfInBounds_comm _ _ hji]
      exact h3.2.2
/-- the head: each operation yields, in every world that meets S -/
def wpLex (P : Program) (ops : Array Oper) (Q : Exit → Act → World → Prop) (S : World → Prop) (K : Act → Prop) : List Oper → Act → Prop
  | [], a => K a
  | o :: l, a => ∃ v, YieldsIf P ops S o v a ∧ (∀ c a w, Q (.panic c) (a.put o.dst v) w → Q (.panic c) a w) ∧ wpLex P ops Q S K l (a.put o.dst v)
theorem lex_cons {K : Act → Prop} {o : Oper} {l : List Oper} {a : Act} (v : Value) (hw : Region.wanted o (yielded ops a.tmps) = true) (hv : ∀ w, S w → (execOp a.eval o).run P w = .ok (.value v) w)
    (hQ : ∀ c a w, Q (.panic c) (a.put o.dst v) w → Q (.panic c) a w) (h : wpLex P ops Q S K l (a.put o.dst v)) : wpLex P ops Q S K (o :: l) a := ⟨v, .inl ⟨hw, hv⟩, hQ, h⟩
theorem lex_nil {K : Act → Prop} {a : Act} (h : K a) : wpLex P ops Q S K [] a := h
/-- in the text's order each may come up, is apart from all others, and the last one waits for it -/
def lexB (md : Region.Mode) (ops : Array Oper) (L : Nat) : Nat → Nat → Array Bool → Bool
  | 0, _, _ => true
  | f + 1, k, listed => (Region.ready md ops listed).contains k && Region.free md ops listed k && Region.waitsFor md ops L k && lexB md ops L f (k + 1) (listed.setIfInBounds k true)
def marks : Nat → Nat → Array Bool → Array Bool
  | 0, _, listed => listed
  | f + 1, k, listed => marks f (k + 1) (listed.setIfInBounds k true)
theorem wpAnyX_lex {g : Nat} {w : World} (hsel : Region.noSelect ops = true) (hS : S w) :
    ∀ (l : List Oper) (k : Nat) (listed : Array Bool) (a : Act), (∀ j, j < l.length → l[j]? = ops[k + j]?) → lexB md ops L l.length k listed = true →
    wpLex P ops Q S (fun a' => wpAnyX P md ops Q S L g (marks l.length k listed) a' w) l a → wpAnyX P md ops Q S L (l.length + g) listed a w
  | [], k, listed, a, _, _, h => by simpa [marks, wpLex] using h
  | o :: l, k, listed, a, hl, hB, h => by
    have h0 : ops[k]? = some o := by simpa using (hl 0 (by simp)).symm
    simp only [List.length_cons, lexB, Bool.and_eq_true] at hB
    obtain ⟨⟨⟨hr, hf⟩, hL⟩, hB'⟩ := hB
    obtain ⟨v, hy, hQ, hK⟩ := h
    rw [show (o :: l).length + g = (l.length + g) + 1 by simp only [List.length_cons]; omega]
    exact wpAnyX_first h0 (Region.noSelect_spec hsel) hQ hL (l.length + g) listed a w (Region.free_spec h0 hf) (by simpa using hr) hy hS
      (wpAnyX_lex hsel hS l (k + 1) _ _ (fun j hj => by have := hl (j + 1) (by simp; omega); simpa [Nat.add_assoc, Nat.add_comm 1 j] using this) hB' hK)
/-- the tail: one operation behind the other -/
def wpTail (P : Program) (ops : Array Oper) (Q : Exit → Act → World → Prop) (S : World → Prop) (L : Nat) : List Oper → Nat → Act → World → Prop
  | [], _, a, w => Q .normal a w
  | o :: l, k, a, w => ∀ K : Act → World → Prop, Hid (∀ a' w', (k ≠ L → S w') → wpTail P ops Q S L l (k + 1) a' w' → K a' w') → if Region.wanted o (yielded ops a.tmps) = true then Oper.wp P o a w K Q else K (a.put o.dst undef) w
theorem tail_cons {o : Oper} {l : List Oper} {k : Nat} {a : Act} {w : World} (h : ∀ K : Act → World → Prop, Hid (∀ a' w', (k ≠ L → S w') → wpTail P ops Q S L l (k + 1) a' w' → K a' w') → if Region.wanted o (yielded ops a.tmps) = true then Oper.wp P o a w K Q else K (a.put o.dst undef) w) : wpTail P ops Q S L (o :: l) k a w := h
theorem tail_nil {k : Nat} {a : Act} {w : World} (h : Q .normal a w) : wpTail P ops Q S L [] k a w := h
theorem wpAnyX_of_tail : ∀ (l : List Oper) (k : Nat) (listed : Array Bool) (a : Act) (w : World), (∀ j, l[j]? = ops[k + j]?) →
    Region.seqB md ops l.length k listed = true → wpTail P ops Q S L l k a w → wpAnyX P md ops Q S L l.length listed a w
  | [], _, _, _, _, _, hB, h => ⟨by simpa [Region.seqB] using hB, h⟩
  | o :: l, k, listed, a, w, hl, hB, h => by
    have h0 : ops[k]? = some o := by simpa using (hl 0).symm
    simp only [List.length_cons, Region.seqB, Bool.and_eq_true, decide_eq_true_eq] at hB
    refine ⟨fun h1 => absurd (hB.1.symm.trans h1) (by simp), fun j hj => ?_⟩
    rw [hB.1] at hj
    have : j = k := by simpa using hj
    subst this
    have h1 := h (fun a' w' => (j ≠ L → S w') ∧ wpAnyX P md ops Q S L l.length (listed.setIfInBounds j true) a' w') ((fun a' w' h1 h2 => ⟨h1, wpAnyX_of_tail l (j + 1) _ a' w' (fun i => by have := hl (i + 1); simpa [Nat.add_assoc, Nat.add_comm 1 i] using this) hB.2 h2⟩))
    unfold wpOp
    simp only [h0]
    split
    · rename_i hw; rw [if_pos hw] at h1; exact .inl h1
    · rename_i hw; rw [if_neg hw] at h1; exact h1
theorem wp_region_lex {id : Nat} {a : Act} {w : World} {l : List Oper} (n L : Nat) (S : World → Prop) (hm : P.follows .mixedOrders = true) (hsel : Region.noSelect l.toArray = true) (hn : n ≤ l.length) (hB : lexB .any l.toArray L n 0 (Array.replicate l.length false) = true)
    (hT : Region.seqB .any l.toArray (l.length - n) n (marks n 0 (Array.replicate l.length false)) = true) (hS : S w.drew)
    (h : wpLex P l.toArray Q S (fun a' => wpTail P l.toArray Q S L (l.drop n) n a' w.drew) (l.take n) a) : (Code.region id l.toArray true).wp P Q a w := by
  have htl : (l.take n).length = n := by simp; omega
  have hdl : (l.drop n).length = l.length - n := by simp
  have hlex : ∀ (l' : List Oper) (a : Act), wpLex P l.toArray Q S (fun a' => wpTail P l.toArray Q S L (l.drop n) n a' w.drew) l' a → wpLex P l.toArray Q S (fun a' => wpAnyX P .any l.toArray Q S L (l.length - n) (marks n 0 (Array.replicate l.length false)) a' w.drew) l' a := by
    intro l'
    induction l' with
    | nil => intro a h; have := wpAnyX_of_tail (md := .any) (ops := l.toArray) (Q := Q) (S := S) (L := L) (P := P) (l.drop n) n (marks n 0 (Array.replicate l.length false)) a w.drew (fun j => by simp [List.getElem?_drop]) (by rw [hdl]; exact hT) h; rw [hdl] at this; exact this
    | cons o l' ih => rintro a ⟨v, h1, h2, h3⟩; exact ⟨v, h1, h2, ih _ h3⟩
  have H := wpAnyX_lex (md := .any) (L := L) (Q := Q) (g := l.length - n) (P := P) (w := w.drew) hsel hS (l.take n) 0 (Array.replicate l.length false) a (fun j hj => by
    rw [htl] at hj
    simp [hj]) (by rw [htl]; exact hB) (by rw [htl]; exact hlex _ _ h)
  rw [htl, show n + (l.length - n) = l.length by omega] at H
  exact wp_region_any hm (by simpa using wpAny_of_X _ _ _ _ H)
end
end Go.Proofs.Ytiggbgmnibndoaa
/- HELPERS: rows of a call's own that grow; what a call that writes leaves. -/
namespace Go.Proofs.Ytiggbgmnibndoaa
open Go.RowKit
set_option linter.unusedVariables false
set_option linter.unusedSimpArgs false
theorem run_append_moveN {P : Program} (w : World) (base : Nat) (t ty e : TypeId) (i : TypeInfo) (z : Value) (size bytes : Nat) (ht : P.underlying t = some (.slice e)) (hi : P.info? e = some i) (hz : i.zero = some z)
    (hsize : i.size = size) (hby : i.bytes = bytes) (hzs : z.cells.size = size) (hpos : 0 < size)
    (v : Value) (n : Nat) (xs : List Value) (hown : w.ownsRow base e size v n xs)
    (a : Addr) (m c : Nat) (news : List Value) (hl : news.length = m * size) (hm : 0 < m) (hnews : ∀ j u, news[j]? = some u → w.cell? (a.add j) = some u) (h1 : ∀ u ∈ news, u.oneCell' = true)
    (h63 : n + m ≤ maxLen) (hbytes : (n + m) * bytes ≤ 140737488355328) (hbase : base ≤ w.heap.size) :
    ∃ v' w', (Builtin.append_ #[t, t] ty #[v, .slice (some a) m c]).run P w = .ok v' w' ∧ w'.ownsRow base e size v' (n + m) (xs ++ news) ∧ Moved w w' v v' := by
  obtain ⟨v', w', hrun, h2, h3, h4, h5⟩ := run_append_own_at (P := P) w base t ty e i z size bytes ht hi hz hsize hby hzs hpos v n xs hown a m c news hl hnews h1 h63 hbytes hbase
  refine ⟨v', w', hrun, h2, ?_⟩
  rcases hown.2 with ⟨rfl, rfl⟩ | ⟨g, cap, cur, rfl, hbg, hg, hnc, hcm, hcs, htake⟩
  · rcases h5 with h5 | h5
    · exact .inl ⟨h5, h3⟩
    · exact .inr ⟨h5, h3⟩
  · by_cases hroom : n + m ≤ cap
    · have hr := run_append_room (P := P) w t ty e i ht hi g n cap cur hg a m c news (by rw [hsize]; omega) hnews h1 hroom (by rw [hsize, hcs, hl, ← Nat.add_mul]; exact Nat.mul_le_mul_right _ hroom)
      have he := hrun.symm.trans hr
      injection he with e1 e2
      left
      exact ⟨by rw [e1]; rfl, h3⟩
    · have holds : ∀ j u, xs[j]? = some u → w.cell? ((⟨g, 0, none⟩ : Addr).add j) = some u := hown.cells (g := g) rfl
      have hr := run_append_grow (P := P) w t ty e i z ht hi hz ⟨g, 0, none⟩ n cap xs (by rw [hsize]; exact hown.1) holds a m c news (by rw [hsize]; omega) hnews (by omega) (by unfold maxLen at h63; omega) (growslice_fits (by omega) (by rw [hby]; exact hbytes))
      have he := hrun.symm.trans hr
      injection he with e1 e2
      right
      refine ⟨by rw [e1]; rfl, ?_⟩
      rw [e2]
      exact ⟨rfl, rfl, rfl, by simp, fun k hk _ => heap_alloc_old w.drew _ hk⟩
theorem wpList_append_moveN {P : Program} {w : World} {ops : Array Oper} {rest : List Oper} {o : Oper} {a : Act} {Q : Exit → Act → World → Prop} (hgd : o.guard = none) (s x : Operand) (t : TypeId)
    (ho : o.op = .call { callee := .builtin .append, args := #[s, x], argTypes := #[t, t] })
    (base : Nat) (e : TypeId) (i : TypeInfo) (z : Value) (size bytes : Nat) (ht : P.underlying t = some (.slice e)) (hi : P.info? e = some i) (hz : i.zero = some z)
    (hsize : i.size = size) (hby : i.bytes = bytes) (hzs : z.cells.size = size) (hpos : 0 < size)
    (v : Value) (n : Nat) (xs : List Value) (hs : a.eval s = v) (hown : w.ownsRow base e size v n xs)
    (ad : Addr) (m c : Nat) (news : List Value) (hx : a.eval x = .slice (some ad) m c) (hl : news.length = m * size) (hm : 0 < m) (hnews : ∀ j u, news[j]? = some u → w.cell? (ad.add j) = some u) (h1 : ∀ u ∈ news, u.oneCell' = true)
    (h63 : n + m ≤ maxLen) (hbytes : (n + m) * bytes ≤ 140737488355328) (hbase : base ≤ w.heap.size)
    (h : ∀ v' w', Hid (w'.ownsRow base e size v' (n + m) (xs ++ news)) → Hid (Moved w w' v v') → wpList P ops Q rest (a.put o.dst v') w') : wpList P ops Q (o :: rest) a w := by
  refine wpList_plain hgd fun K hK => ?_
  obtain ⟨v', w', hr, h2, h3⟩ := run_append_moveN (P := P) w base t o.type e i z size bytes ht hi hz hsize hby hzs hpos v n xs hown ad m c news hl hm hnews h1 h63 hbytes hbase
  unfold Oper.wp execOp
  simp only [ho, resolve, invoke, builtin, Sem.run_bind, Sem.run_pure, Result.andThen_ok, List.map_toArray, List.map_cons, List.map_nil, hs, hx, hr]
  exact hK _ _ (h v' w' h2 h3)
theorem setCells_old (b : Nat) : ∀ (vs : List Value) (o : Nat) (w : World) (k : Nat), k ≠ b → (w.setCells b o vs).heap[k]? = w.heap[k]?
  | [], _, _, _, _ => rfl
  | v :: vs, o, w, k, h => (setCells_old b vs (o + 1) _ k h).trans (Below.heap_setCell _ _ _ _ h)
theorem setCells_size (b : Nat) : ∀ (vs : List Value) (o : Nat) (w : World), (w.setCells b o vs).heap.size = w.heap.size
  | [], _, _ => rfl
  | v :: vs, o, w => (setCells_size b vs (o + 1) _).trans (by simp [World.setCell])
theorem Below.setCells {B b : Nat} (hb : B ≤ b) : ∀ (vs : List Value) (o : Nat) (a w : World), Below B a w → Below B a (w.setCells b o vs)
  | [], _, _, _, h => h
  | v :: vs, o, a, w, h => Below.setCells hb vs (o + 1) a _ (h.setCell (by exact hb) v)
/-- the cells of ranges -/
abbrev O2 (R : List (Int × Int)) : List Value := R.flatMap fun x => [.int .i64 x.1, .int .i64 x.2]
theorem O2_len (R : List (Int × Int)) : (O2 R).length = R.length * 2 := by
  induction R with
  | nil => rfl
  | cons x R ih => simp only [O2, List.flatMap_cons, List.length_append, List.length_cons, List.length_nil] at ih ⊢; omega
theorem O2_at : ∀ (R : List (Int × Int)) (i : Nat) (hi : i < R.length), (O2 R)[i * 2]? = some (.int .i64 R[i].1) ∧ (O2 R)[i * 2 + 1]? = some (.int .i64 R[i].2) := by
  intro R
  induction R with
  | nil => intro i hi; simp at hi
  | cons x R ih =>
    intro i hi
    cases i with
    | zero => simp [O2]
    | succ i =>
      have := ih i (by simpa using hi)
      have hf : O2 (x :: R) = [.int .i64 x.1, .int .i64 x.2] ++ O2 R := by simp [O2]
      rw [hf, show (i + 1) * 2 = i * 2 + 2 by omega, List.getElem?_append_right (by simp), show i * 2 + 2 + 1 = i * 2 + 1 + 2 by omega, List.getElem?_append_right (by simp)]
      simpa using this
/-- what an append onto a row of the call's own leaves of all else -/
structure Frm (w w' : World) (v v' : Value) : Prop where
  os : w'.os = w.os
  tape : w'.tape = w.tape
  output : w'.output = w.output
  size : w.heap.size ≤ w'.heap.size
  block : ∀ k, k < w.heap.size → v.ownBlock ≠ some k → w'.heap[k]? = w.heap[k]?
  own : ∀ k, v'.ownBlock = some k → v.ownBlock = some k ∨ k = w.heap.size
theorem Moved.frm {w w' : World} {v v' : Value} (h : Moved w w' v v') : Frm w w' v v' := by
  rcases h with ⟨e, h⟩ | ⟨e, h⟩
  · exact ⟨h.os, h.tape, h.output, h.size, fun k hk hn => h.block k hk (fun e => hn e.symm), fun k hk => .inl (by rw [← e]; exact hk)⟩
  · exact ⟨h.os, h.tape, h.output, h.size, fun k hk hn => h.block k hk (by simp), fun k hk => .inr (by rw [e] at hk; simp at hk; exact hk.symm)⟩
theorem Frm.refl (w : World) (v : Value) : Frm w w v v := ⟨rfl, rfl, rfl, Nat.le_refl _, fun _ _ _ => rfl, fun k hk => .inl hk⟩
/-- a row is put behind a row of the call's own -/
theorem wpList_append_row {P : Program} {w : World} {ops : Array Oper} {rest : List Oper} {o : Oper} {a : Act} {Q : Exit → Act → World → Prop} (hgd : o.guard = none) (s x : Operand) (t : TypeId)
    (ho : o.op = .call { callee := .builtin .append, args := #[s, x], argTypes := #[t, t] })
    (base : Nat) (e : TypeId) (i : TypeInfo) (z : Value) (size bytes : Nat) (ht : P.underlying t = some (.slice e)) (hi : P.info? e = some i) (hz : i.zero = some z)
    (hsize : i.size = size) (hby : i.bytes = bytes) (hzs : z.cells.size = size) (hpos : 0 < size)
    (v : Value) (n : Nat) (xs : List Value) (hs : a.eval s = v) (hown : w.ownsRow base e size v n xs)
    (sv : Value) (m sb : Nat) (ys : List Value) (hx : a.eval x = sv) (hsrc : w.ownsRow sb e size sv m ys) (h0 : m = 0 → sv = .slice none 0 0) (h1 : ∀ u ∈ ys, u.oneCell' = true)
    (h63 : n + m ≤ maxLen) (hbytes : (n + m) * bytes ≤ 140737488355328) (hbase : base ≤ w.heap.size)
    (h : ∀ v' w', Hid (w'.ownsRow base e size v' (n + m) (xs ++ ys)) → Hid (Frm w w' v v') → Hid (n + m = 0 → v' = v) → wpList P ops Q rest (a.put o.dst v') w') : wpList P ops Q (o :: rest) a w := by
  rcases Nat.eq_zero_or_pos m with hm | hm
  · have := h0 hm
    subst this hm
    have hy : ys = [] := List.length_eq_zero_iff.1 (by have := hsrc.1; omega)
    subst hy
    refine wpList_append_own_none hgd s x t ho base e i size ht hi v n xs hs hown hx (h v w ?_ (Frm.refl _ _) (fun _ => rfl))
    have : w.ownsRow base e size v (n + 0) (xs ++ []) := by simpa using hown
    exact this
  · rcases hsrc.2 with ⟨_, e0⟩ | ⟨g, cap, cur, rfl, _⟩
    · omega
    · refine wpList_append_moveN hgd s x t ho base e i z size bytes ht hi hz hsize hby hzs hpos v n xs hs hown ⟨g, 0, none⟩ m cap ys hx hsrc.1 hm (fun j u hj => hsrc.cells (g := g) rfl j u hj) h1 h63 hbytes hbase ?_
      intro v' w' ho' hm'
      exact h v' w' ho' hm'.out.frm (fun h => by omega)
theorem step_append_moveN {P : Program} {ops : Array Oper} {o : Oper} {a : Act} {w : World} {K : Act → World → Prop} {Q : Exit → Act → World → Prop} {E : Prop}
    (hg : o.guard = none) (s x : Operand) (t : TypeId) (hop : o.op = Op.call { callee := Callee.builtin Builtin.append, args := #[s, x], argTypes := #[t, t] })
    (base : Nat) (e : TypeId) (i : TypeInfo) (z : Value) (size bytes : Nat) (h1 : P.underlying t = some (.slice e)) (h2 : P.info? e = some i) (h3 : i.zero = some z) (h4 : i.size = size) (h5 : i.bytes = bytes) (h6 : z.cells.size = size) (h7 : 0 < size)
    (v : Value) (n : Nat) (xs : List Value) (hs : a.eval s = v) (hown : w.ownsRow base e size v n xs)
    (ad : Addr) (m c : Nat) (news : List Value) (hx : a.eval x = .slice (some ad) m c) (hn : news.length = m * size) (hm : 0 < m) (hc : ∀ j u, news[j]? = some u → w.cell? (ad.add j) = some u) (h1c : ∀ u ∈ news, u.oneCell' = true)
    (b1 : n + m ≤ maxLen) (b2 : (n + m) * bytes ≤ 140737488355328) (hb : base ≤ w.heap.size)
    (hK : ∀ v' w', w'.ownsRow base e size v' (n + m) (xs ++ news) → Moved w w' v v' → K (a.put o.dst v') w') :
    if Region.wanted o (yielded ops a.tmps) = true then Oper.wp P o a w K Q else E := by
  have hw : Region.wanted o (yielded ops a.tmps) = true := by simp [Region.wanted, hg]
  rw [if_pos hw]
  obtain ⟨v', w', hrun, r1, r2⟩ := run_append_moveN (P := P) w base t o.type e i z size bytes h1 h2 h3 h4 h5 h6 h7 v n xs hown ad m c news hn hm hc h1c b1 b2 hb
  unfold Oper.wp
  simp [execOp, hop, resolve, invoke, builtin, hs, hx, hrun, Result.andThen]
  exact hK v' w' r1 r2
abbrev M2 : List (Int × Int) := [(-77, 0), (-78, 0)]
theorem ob_len (a : Option Addr) (l c l' c' : Nat) : (Value.slice a l c).ownBlock = (Value.slice a l' c').ownBlock := by cases a <;> rfl
theorem step_append_row {P : Program} {ops : Array Oper} {o : Oper} {a : Act} {w : World} {K : Act → World → Prop} {Q : Exit → Act → World → Prop} {E : Prop}
    (hg : o.guard = none) (s x : Operand) (t : TypeId) (hop : o.op = Op.call { callee := Callee.builtin Builtin.append, args := #[s, x], argTypes := #[t, t] })
    (base : Nat) (e : TypeId) (i : TypeInfo) (z : Value) (size bytes : Nat) (h1 : P.underlying t = some (.slice e)) (h2 : P.info? e = some i) (h3 : i.zero = some z) (h4 : i.size = size) (h5 : i.bytes = bytes) (h6 : z.cells.size = size) (h7 : 0 < size)
    (v : Value) (n : Nat) (xs : List Value) (hs : a.eval s = v) (hown : w.ownsRow base e size v n xs)
    (b m c : Nat) (arr : Array Value) (te : TypeId) (hx : a.eval x = .slice (some ⟨b, 0, none⟩) m c) (hb' : w.heap[b]? = some (.cells arr te (0, 0))) (hn : arr.size = m * size) (hm : 0 < m) (h1c : ∀ u ∈ arr.toList, u.oneCell' = true)
    (b1 : n + m ≤ maxLen) (b2 : (n + m) * bytes ≤ 140737488355328) (hb : base ≤ w.heap.size)
    (hK : ∀ v' w', Hid (w'.ownsRow base e size v' (n + m) (xs ++ arr.toList)) → Hid (Frm w w' v v') → K (a.put o.dst v') w') :
    if Region.wanted o (yielded ops a.tmps) = true then Oper.wp P o a w K Q else E :=
  step_append_moveN hg s x t hop base e i z size bytes h1 h2 h3 h4 h5 h6 h7 v n xs hs hown ⟨b, 0, none⟩ m c arr.toList hx (by simpa using hn) hm (fun j u hj => by rw [Addr.add_mid, Nat.zero_add, Joins.cell_of_block hb']; simpa using hj) h1c b1 b2 hb (fun v' w' r1 r2 => hK v' w' r1 r2.frm)
/-- what a call that writes into blocks of A leaves -/
structure Chs (A : Nat → Prop) (w w' : World) : Prop where
  os : w'.os = w.os
  tape : w'.tape = w.tape
  output : w'.output = w.output
  size : w.heap.size ≤ w'.heap.size
  block : ∀ b, b < w.heap.size → ¬ A b → w'.heap[b]? = w.heap[b]?
theorem Chs.refl (A : Nat → Prop) (w : World) : Chs A w w := ⟨rfl, rfl, rfl, Nat.le_refl _, fun _ _ _ => rfl⟩
theorem Chs.trans {A A' A2 : Nat → Prop} {w w' w2 : World} (h : Chs A w w') (h' : Chs A' w' w2) (h1 : ∀ b, A b → A2 b) (h2 : ∀ b, A' b → A2 b) : Chs A2 w w2 :=
  ⟨h'.os.trans h.os, h'.tape.trans h.tape, h'.output.trans h.output, Nat.le_trans h.size h'.size, fun b hb hn => (h'.block b (by have := h.size; omega) (fun h => hn (h2 b h))).trans (h.block b hb (fun h => hn (h1 b h)))⟩
theorem Chs.of_below {A : Nat → Prop} {w w' : World} (h : Below w.heap.size w w') : Chs A w w' := ⟨h.os, h.tape, h.output, h.size, fun b hb _ => h.block b hb⟩
theorem Chs.set {A : Nat → Prop} {w w' : World} (h : Chs A w w') {a : Addr} (ha : A a.block) (v : Value) : Chs A w (w'.setCell a v) :=
  ⟨h.os, h.tape, h.output, by have := h.size; simpa [World.setCell] using this, fun b hb hn => (Below.heap_setCell _ _ _ _ (by intro e; apply hn; rw [e]; exact ha)).trans (h.block b hb hn)⟩
theorem row_shape {w : World} {base e size n : Nat} {v : Value} {xs : List Value} (h : w.ownsRow base e size v n xs) : ∃ a c, v = .slice a n c ∧ n ≤ c ∧ c ≤ maxLen := by
  rcases h.2 with ⟨rfl, rfl⟩ | ⟨g, cap, cur, h1, h2, h3, h4, h5, _⟩
  · exact ⟨none, 0, rfl, Nat.le_refl _, by simp [maxLen]⟩
  · exact ⟨_, cap, h1, h4, h5⟩
theorem row_setC {w : World} {base e size n b c : Nat} {xs : List Value} (h : w.ownsRow base e size (.slice (some ⟨b, 0, none⟩) n c) n xs) (j : Nat) (v : Value) : (w.setCell ⟨b, j, none⟩ v).ownsRow base e size (.slice (some ⟨b, 0, none⟩) n c) n (xs.set j v) := by
  obtain ⟨hl, hr⟩ := h
  rcases hr with ⟨he, _⟩ | ⟨g, cap, cur, he, hb, hgg, h1, h2, h3, h4⟩
  · cases he
  · simp only [Value.slice.injEq, Option.some.injEq, Addr.mk.injEq] at he
    obtain ⟨⟨rfl, _⟩, _, rfl⟩ := he
    refine ⟨by simp [hl], .inr ⟨b, c, cur.setIfInBounds j v, rfl, hb, Joins.block_setCell hgg _, h1, h2, by simpa using h3, ?_⟩⟩
    simp only [Array.toList_setIfInBounds]
    rw [List.take_set, h4]
theorem row_there {w : World} {base e size n b c : Nat} {xs : List Value} (h : w.ownsRow base e size (.slice (some ⟨b, 0, none⟩) n c) n xs) {j m : Nat} (hj : j + m ≤ n * size) : w.there b j m := fun k hk => by
  rcases h.2 with ⟨he, _⟩ | ⟨g, cap, cur, he, hb, hgg, h1, h2, h3, h4⟩
  · cases he
  · simp only [Value.slice.injEq, Option.some.injEq, Addr.mk.injEq] at he
    obtain ⟨⟨rfl, _⟩, _, rfl⟩ := he
    refine ⟨?_, Joins.unfrozen_of_block hgg _⟩
    rw [Joins.cell_of_block hgg, Array.getElem?_eq_getElem (by have := Nat.mul_le_mul_right size h1; omega)]
    rfl
theorem row_setCells {base e size n b c : Nat} : ∀ (vs : List Value) (o : Nat) (w : World) (xs : List Value), w.ownsRow base e size (.slice (some ⟨b, 0, none⟩) n c) n xs → o + vs.length ≤ xs.length → (w.setCells b o vs).ownsRow base e size (.slice (some ⟨b, 0, none⟩) n c) n (xs.take o ++ vs ++ xs.drop (o + vs.length))
  | [], o, w, xs, h, _ => by simpa [World.setCells] using h
  | v :: vs, o, w, xs, h, hl => by
    have h1 := row_setC h o v
    have h2 := row_setCells vs (o + 1) (w.setCell ⟨b, o, none⟩ v) (xs.set o v) h1 (by simp at hl ⊢; omega)
    have e1 : (xs.set o v).take (o + 1) = xs.take o ++ [v] := by
      rw [List.take_succ_eq_append_getElem (by simp at hl ⊢; omega), List.take_set_of_le (Nat.le_refl _)]
      simp
    have e2 : (xs.set o v).drop (o + 1 + vs.length) = xs.drop (o + (v :: vs).length) := by
      rw [List.drop_set_of_lt (by omega)]
      simp only [List.length_cons]
      congr 1
      omega
    rw [e1, e2] at h2
    simpa [World.setCells] using h2
theorem frz_eq {w w' : World} {b : Nat} (h : w'.heap[b]? = w.heap[b]?) (o : Nat) : w'.frozen? ⟨b, o, none⟩ = w.frozen? ⟨b, o, none⟩ := by simp only [World.frozen?, h]
theorem info51 : (Try.prog.info? 60).map (fun i => (i.zero, i.size, i.bytes)) = some (some (.agg #[.int .i64 0, .int .i64 0, .int .i64 0, .int .i64 0, .slice none 0 0]), 5, 56) := by kernel_rfl
theorem info49 : (Try.prog.info? 62).map (fun i => (i.zero, i.size, i.bytes)) = some (some (.agg #[.int .i64 0, .int .i64 0]), 2, 16) := by kernel_rfl
theorem flat5 (MS : List Iv) : ∀ (j k : Nat) (hj : j < MS.length), k < 5 → (MS.flatMap Iv.cs)[j * 5 + k]? = (Iv.cs MS[j])[k]? := by
  induction MS with
  | nil => intro j k hj; simp at hj
  | cons M MS ih =>
    intro j k hj hk
    rw [List.flatMap_cons]
    cases j with
    | zero => rw [List.getElem?_append_left (by simp; omega)]; simp
    | succ j =>
      rw [List.getElem?_append_right (by simp; omega)]
      have := ih j k (by simpa using hj) hk
      simp only [List.length_cons, List.length_nil, List.getElem_cons_succ]
      rw [← this]
      congr 1
      omega
theorem flat5_len (MS : List Iv) : (MS.flatMap Iv.cs).length = MS.length * 5 := by
  induction MS with
  | nil => rfl
  | cons M MS ih => rw [List.flatMap_cons, List.length_append, ih]; simp; omega
end Go.Proofs.Ytiggbgmnibndoaa
/- HELPERS: the document's Has. -/
namespace Go.Proofs.Ytiggbgmnibndoaa
open Go.RowKit
set_option linter.unusedVariables false
set_option linter.unusedSimpArgs false
def inB (R : List (Int × Int)) (r : Int) : Bool := R.any fun x => decide (x.1 ≤ r) && decide (r ≤ x.2)
def hsB (R : List (Int × Int)) (r : Int) : Bool := rightB R && inB R r
set_option maxRecDepth 100000 in
set_option maxHeartbeats 4000000 in
theorem in78 (R : List (Int × Int)) (r : Int) (ad : Option Addr) (n cap : Nat) (w : World) (hn : n = R.length) (hS : n * 16 ≤ 140737488351232) (hl : RowAt w.heap.size w (.slice ad n cap) R) :
    Calls Try.prog 45 #[.slice ad n cap, .int .i64 r] w fun e w' => e = .returned (.bool (inB R r)) ∧ w' = w := by
  have HN := hid hn
  have HR := hid hl
  clear hn hl
  go_enter Try.func45, Try.ntmps45
  go_wp2_with fail
  go_loopw [5] (fun y wq => ∃ i : Nat, y = .int .i64 (i : Int) ∧ i ≤ n ∧ wq = w ∧ Hid (∀ j, j < i → (decide ((R.getD j (0, 0)).1 ≤ r) && decide (r ≤ (R.getD j (0, 0)).2)) = false)) (fun y _ => n - (intOf y).toNat)
  case atStart => exact ⟨0, rfl, by omega, rfl, fun j hj => by omega⟩
  case round =>
    obtain ⟨i, rfl, hi, rfl, HA⟩ := hrel
    by_cases hil : i < n
    · have b1 : decide ((i : Int) < (n : Int)) = true := by simp; omega
      have b2 : (i : Int) < (n : Int) := by omega
      have ad1 : IntKind.i64.wrap ((i : Int) + 1) = (i : Int) + 1 := by simp [IntKind.wrap, IntKind.bits, IntKind.signed]; omega
      obtain ⟨ad', cap', e, h1⟩ := HR.out
      simp only [Value.slice.injEq] at e
      obtain ⟨rfl, _, rfl⟩ := e
      rcases h1 with h0 | ⟨b, off, rfl, hb, h2, h3⟩
      · have := HN.out; omega
      have m0 := h2 i (by have := HN.out; omega)
      have m1 := h3 i (by have := HN.out; omega)
      have hget : R.getD i (0, 0) ∈ R := by
        have hil' : i < R.length := by have := HN.out; omega
        have : R.getD i (0, 0) = R[i] := by simp [List.getD_eq_getElem?_getD, List.getElem?_eq_getElem hil']
        rw [this]; exact List.getElem_mem hil'
      have HG := hid hget
      clear h2 h3 hget
      generalize hlo : (R.getD i (0, 0)).1 = lo at m0
      generalize hhi : (R.getD i (0, 0)).2 = hi' at m1
      have HLO := hid hlo
      have HHI := hid hhi
      clear hlo hhi
      by_cases g1 : lo ≤ r
      · have d1 : decide (lo ≤ r) = true := by simpa using g1
        by_cases g2 : r ≤ hi'
        · have d2 : decide (r ≤ hi') = true := by simpa using g2
          go_wp2
          all_goals go_ret
          all_goals refine ⟨ret_bool ?_, rfl⟩
          all_goals
            symm
            unfold inB
            rw [List.any_eq_true]
            exact ⟨_, HG.out, by rw [HLO.out, HHI.out, d1, d2]; rfl⟩
        · have d2 : decide (r ≤ hi') = false := by simpa using g2
          go_wp2
          refine ⟨⟨i + 1, by push_cast; rfl, by omega, trivial, fun j hj => ?_⟩, by simp [intOf]; omega⟩
          by_cases e : j = i
          · subst e; rw [HLO.out, HHI.out, d1, d2]; rfl
          · exact HA.out j (by omega)
      · have d1 : decide (lo ≤ r) = false := by simpa using g1
        go_wp2
        refine ⟨⟨i + 1, by push_cast; rfl, by omega, trivial, fun j hj => ?_⟩, by simp [intOf]; omega⟩
        by_cases e : j = i
        · subst e; rw [HLO.out, d1]; rfl
        · exact HA.out j (by omega)
    · have b1 : decide ((i : Int) < (n : Int)) = false := by simp; omega
      go_wp2
      all_goals go_ret
      all_goals refine ⟨ret_bool ?_, rfl⟩
      all_goals
        symm
        unfold inB
        rw [List.any_eq_false]
        intro x hx
        obtain ⟨j, hj, rfl⟩ := List.getElem_of_mem hx
        have := HA.out j (by have := HN.out; omega)
        rw [show R.getD j (0, 0) = R[j] by simp [List.getD_eq_getElem?_getD, List.getElem?_eq_getElem hj]] at this
        rw [this]
        simp
set_option maxRecDepth 100000 in
set_option maxHeartbeats 4000000 in
theorem has56 (R : List (Int × Int)) (r : Int) (ad : Option Addr) (n cap : Nat) (w : World) (hn : n = R.length) (hS : n * 16 ≤ 140737488351232) (hl : RowAt w.heap.size w (.slice ad n cap) R) :
    Calls Try.prog 39 #[.slice ad n cap, .int .i64 r] w fun e w' => e = .returned (.bool (hsB R r)) ∧ Below w.heap.size w w' := by
  have HC := rright33 R ad n cap w hn.symm (by omega) hl
  have HI : Hid (∀ W, Below w.heap.size w W → Calls Try.prog 45 #[.slice ad n cap, .int .i64 r] W fun e w' => e = .returned (.bool (inB R r)) ∧ w' = W) := fun W hb => in78 R r ad n cap W hn hS (hl.below hb (Nat.le_refl _) hb.size)
  clear hl hn
  cases g : rightB R
  · rw [g] at HC
    go_enter Try.func39, Try.ntmps39
    go_wp2_with (first | (go_at_call 36; (with_reducible refine HC.mono ?_); rintro e w2 ⟨rfl, hb⟩; have HB := hid hb; clear hb HC))
    all_goals go_ret
    all_goals exact ⟨ret_bool (by simp [hsB, g]), HB.out⟩
  · rw [g] at HC
    go_enter Try.func39, Try.ntmps39
    go_wp2_with (first | (go_at_call 36; (with_reducible refine HC.mono ?_); rintro e w2 ⟨rfl, hb⟩; have HB := hid hb; have HJ := HI.out w2 HB.out; clear hb HC) | (go_at_call 45; (with_reducible refine HJ.mono ?_); rintro e w3 ⟨rfl, hw⟩; have hw' := hw.symm; clear hw; subst hw'; clear HJ))
    all_goals go_ret
    all_goals exact ⟨ret_bool (by simp [hsB, g]), HB.out⟩
end Go.Proofs.Ytiggbgmnibndoaa
