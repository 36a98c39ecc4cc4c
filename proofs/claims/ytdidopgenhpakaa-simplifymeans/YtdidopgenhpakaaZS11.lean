/- HELPERS: the groups of a simple form; what is told of a tree's parses and of its simple form's. -/
import Derived.Test.YtdidopgenhpakaaZS10
import Derived.Test.YtdidopgenhpakaaZS09
import Derived.Test.YtdidopgenhpakaaZS07
import Derived.Test.YtdidopgenhpakaaHa
import Derived.Test.YtdidopgenhpakaaKa
import Derived.Test.YtdidopgenhpakaaSc
/- HELPERS: ways that do the same, the one with some things more, also with alternatives within alternatives. -/
namespace Go.Proofs.Ytdidopgenhpakaa
open Go.RowKit
set_option linter.unusedVariables false
set_option linter.unusedSimpArgs false
/-- what goes with what: things, loops; things that are more on the left, the first thing behind each, its body; things that stand in the alternatives of one alone -/
structure Mau where
  C : Int → Int → Prop
  L : Nat → Nat → Prop
  X : Int → Int → Prop
  Bd : Int → Way
  Y : Int → Int → Prop
/-- the first thing that is not more -/
inductive Hdu (G : Mau) : Way → Int → Prop
  | once {n n' : Int} {d : Way} (h : G.C n n') : Hdu G (.once n d) n
  | more {m n0 : Int} {d : Way} (hX : G.X m n0) (h : Hdu G d n0) : Hdu G (.once m d) n0
  | noted {c : Nat} {n0 : Int} {d : Way} (h : Hdu G d n0) : Hdu G (.noted c d) n0
mutual
/-- two ways do the same -/
inductive Siu (G : Mau) : Way → Way → Prop
  | through : Siu G .through .through
  | once {n n' : Int} {d d' : Way} (hC : G.C n n') (h : Siu G d d') : Siu G (.once n d) (.once n' d')
  | onceA {n n' : Int} {l l' : List Way} {M : List Int} (hC : G.C n n') (h : SiL G M l l') (hY : ∀ m ∈ M, G.Y m n) (hM : M.Nodup) : Siu G (.once n (.inOrder l)) (.once n' (.inOrder l'))
  | more {m n0 : Int} {d W' : Way} (hX : G.X m n0) (hb : G.Bd m = d) (hh : Hdu G d n0) (h : Siu G d W') : Siu G (.once m d) W'
  | noted {c : Nat} {d d' : Way} (h : Siu G d d') : Siu G (.noted c d) (.noted c d')
  | runeOf {R : Rng} {d d' : Way} (h : Siu G d d') : Siu G (.runeOf R d) (.runeOf R d')
  | ifHolds {a : Int} {d d' : Way} (h : Siu G d d') : Siu G (.ifHolds a d) (.ifHolds a d')
  | again {b b' : Nat} (h : G.L b b') : Siu G (.again b) (.again b')
/-- alternatives: those of one that stands among them in its place -/
inductive SiL (G : Mau) : List Int → List Way → List Way → Prop
  | nil : SiL G [] [] []
  | cons {d d' : Way} {l l' : List Way} {M : List Int} (h : Siu G d d') (t : SiL G M l l') : SiL G M (d :: l) (d' :: l')
  | flat {d : Way} {l k' l' : List Way} {M N : List Int} (h : SiF G N d k') (t : SiL G M l l') : SiL G (N ++ M) (d :: l) (k' ++ l')
/-- alternatives that stand among others, with things ahead -/
inductive SiF (G : Mau) : List Int → Way → List Way → Prop
  | alt {m : Int} {l l' : List Way} {M : List Int} (h : SiL G M l l') : SiF G (m :: M) (.once m (.inOrder l)) l'
  | wrap {e : Int} {d : Way} {l' : List Way} {M : List Int} (h : SiF G M d l') : SiF G (e :: M) (.once e d) l'
end
/-- what must hold of what goes with what -/
structure Mau.Ok (G : Mau) (E E' : Nat → Way) : Prop where
  one : ∀ n n' m m', G.C n n' → G.C m m' → (n = m ↔ n' = m')
  noC : ∀ m n0 n', G.X m n0 → ¬ G.C m n'
  oneX : ∀ m n0 n1, G.X m n0 → G.X m n1 → n0 = n1
  yC : ∀ m n n', G.Y m n → ¬ G.C m n'
  yX : ∀ m n n0, G.Y m n → ¬ G.X m n0
  oneY : ∀ m n n1, G.Y m n → G.Y m n1 → n = n1
  loop : ∀ b b', G.L b b' → Siu G (E b) (E' b')
/-- two states are alike, but for what is pending -/
structure Alu (G : Mau) (P : Int → Int → Prop) (s s' : Sg) : Prop where
  dn : ∀ n n' q, G.C n n' → ((n, q) ∈ s.done ↔ (n', q) ∈ s'.done)
  ex : ∀ m n0 q, G.X m n0 → (m, q) ∈ s.done → (n0, q) ∈ s.done ∨ P m q
  ya : ∀ m n q, G.Y m n → (m, q) ∈ s.done → (n, q) ∈ s.done
  nt : s.notes = s'.notes
  pr : s.parses = s'.parses
/-- of alternatives nothing was done but with theirs -/
def Fra (G : Mau) (s s1 : Sg) (T : Int → Int → Prop) : Prop := ∀ m n q, G.Y m n → (n, q) ∈ s.done → (m, q) ∈ s1.done → (m, q) ∈ s.done ∨ T m q
section
variable {G : Mau} {tx : List Int} {E E' : Nat → Way}
theorem Alu.none {P : Int → Int → Prop} {s s' : Sg} (h : Alu G P s s') (hP : ∀ m q, ¬ P m q) : Alu G NoP s s' :=
  ⟨h.dn, fun m n0 q a b => by rcases h.ex m n0 q a b with c | c; exact .inl c; exact absurd c (hP m q), h.ya, h.nt, h.pr⟩
theorem Hdu.fn (hG : G.Ok E E') {W : Way} {a b : Int} (h : Hdu G W a) : Hdu G W b → a = b := by
  induction h with
  | @once n n' d h =>
    intro h2
    cases h2 with
    | once _ => rfl
    | more hX _ => exact absurd h (hG.noC _ _ _ hX)
  | more hX h ih =>
    intro h2
    cases h2 with
    | once h3 => exact absurd h3 (hG.noC _ _ _ hX)
    | more _ h3 => exact ih h3
  | noted h ih =>
    intro h2
    cases h2 with
    | noted h3 => exact ih h3
theorem Hdu.c {W : Way} {n0 : Int} (h : Hdu G W n0) : ∃ n0', G.C n0 n0' := by
  induction h with
  | once h => exact ⟨_, h⟩
  | more _ _ ih => exact ih
  | noted _ ih => exact ih
/-- where the first thing was done, nothing is done on the other side -/
theorem siu_skip (hG : G.Ok E E') {W W' : Way} (h : Siu G W W') : ∀ (n0 n0' : Int) (p : Nat) (s' : Sg), Hdu G W n0 → G.C n0 n0' → (n0', (p : Int)) ∈ s'.done → Ex tx E' W' p s' s' := by
  refine Siu.rec (motive_1 := fun W W' _ => ∀ (n0 n0' : Int) (p : Nat) (s' : Sg), Hdu G W n0 → G.C n0 n0' → (n0', (p : Int)) ∈ s'.done → Ex tx E' W' p s' s') (motive_2 := fun _ _ _ _ => True) (motive_3 := fun _ _ _ _ => True) ?_ ?_ ?_ ?_ ?_ ?_ ?_ ?_ ?_ ?_ ?_ ?_ ?_ h
  · intro n0 n0' p s' hh; cases hh
  · intro n n' d d' hC h ih n0 n0' p s' hh hc hd
    cases hh with
    | once _ => rw [← (hG.one _ _ _ _ hC hc).1 rfl] at hd; exact .skip hd
    | more hX _ => exact absurd hC (hG.noC _ _ _ hX)
  · intro n n' l l' M hC _ _ _ _ n0 n0' p s' hh hc hd
    cases hh with
    | once _ => rw [← (hG.one _ _ _ _ hC hc).1 rfl] at hd; exact .skip hd
    | more hX _ => exact absurd hC (hG.noC _ _ _ hX)
  · intro m n1 d W' hX hb hh h ih n0 n0' p s' h2 hc hd
    cases h2 with
    | once h3 => exact absurd h3 (hG.noC _ _ _ hX)
    | more hX2 h3 => exact ih _ _ p s' h3 hc hd
  · intro c d d' h ih n0 n0' p s' hh hc hd
    cases hh with
    | noted hh =>
      have this : Ex tx E' (.noted c d') p s' { s' with notes := (s'.notes.set c (p : Int)).set c (s'.notes.getD c 0) } := Ex.noted (c := c) (ih n0 n0' p { s' with notes := s'.notes.set c (p : Int) } hh hc hd)
      rw [noted_self] at this
      exact this
  · intro R d d' h ih n0 n0' p s' hh; cases hh
  · intro a d d' h ih n0 n0' p s' hh; cases hh
  · intro b b' h n0 n0' p s' hh; cases hh
  · trivial
  · intros; trivial
  · intros; trivial
  · intros; trivial
  · intros; trivial
/-- what is pending at a way -/
def Peu (G : Mau) (P : Int → Int → Prop) (W : Way) (p : Nat) : Prop := ∀ m q, P m q → q = (p : Int) ∧ (∃ n0, G.X m n0 ∧ Hdu G W n0) ∧ SizeOf.sizeOf W ≤ SizeOf.sizeOf (G.Bd m)
theorem Peu.no (W : Way) (p : Nat) : Peu G NoP W p := fun m q h => h.elim
theorem Alu.settle (hG : G.Ok E E') {P : Int → Int → Prop} {W : Way} {p : Nat} {n0 : Int} {s s' : Sg} (h : Alu G P s s') (hP : Peu G P W p) (hh : Hdu G W n0) (hd : (n0, (p : Int)) ∈ s.done) : Alu G NoP s s' :=
  ⟨h.dn, fun m n1 q a b => by
    rcases h.ex m n1 q a b with c | c
    · exact .inl c
    · obtain ⟨rfl, ⟨n2, h1, h2⟩, _⟩ := hP m q c
      rw [hG.oneX m n1 n2 a h1, h2.fn hG hh]
      exact .inl hd, h.ya, h.nt, h.pr⟩
theorem Peu.none {P : Int → Int → Prop} {W : Way} {p : Nat} (hP : Peu G P W p) (hW : ∀ n0, ¬ Hdu G W n0) : ∀ m q, ¬ P m q := fun m q h => by
  obtain ⟨_, ⟨n0, _, h2⟩, _⟩ := hP m q h
  exact hW n0 h2
theorem Ex.mono {W : Way} {p : Nat} {s s1 : Sg} (h : Ex tx E W p s s1) : ∀ x ∈ s.done, x ∈ s1.done := by
  induction h with
  | through p s => intro x hx; exact hx
  | skip h => intro x hx; exact hx
  | once h hd ih => intro x hx; exact ih x (List.mem_append.2 (.inl hx))
  | noted hd ih => intro x hx; exact ih x hx
  | over h => intro x hx; exact hx
  | other h hr => intro x hx; exact hx
  | rune h hr hd ih => exact ih
  | fails h => intro x hx; exact hx
  | holds h hd ih => exact ih
  | @inOrder l p ss h ih =>
    have key : ∀ m, m ≤ l.length → ∀ x ∈ (ss 0).done, x ∈ (ss m).done := by
      intro m
      induction m with
      | zero => intro _ x hx; exact hx
      | succ m im => intro hm x hx; exact ih m (by omega) x (im (by omega) x hx)
    exact key _ (Nat.le_refl _)
  | again h ih => exact ih
/-- one behind another -/
inductive Chn (M : Way → Sg → Sg → Prop) : List Way → Sg → Sg → Prop
  | nil (s : Sg) : Chn M [] s s
  | cons {d : Way} {l : List Way} {s s1 s2 : Sg} (h : M d s s1) (t : Chn M l s1 s2) : Chn M (d :: l) s s2
theorem Chn.app {M : Way → Sg → Sg → Prop} {l k : List Way} {s s1 s2 : Sg} (h : Chn M l s s1) (h' : Chn M k s1 s2) : Chn M (l ++ k) s s2 := by
  induction h with
  | nil s => exact h'
  | cons h _ ih => exact .cons h (ih h')
theorem chn_of {M : Way → Sg → Sg → Prop} : ∀ (l : List Way) (ss : Nat → Sg), (∀ i (hi : i < l.length), M (l[i]'hi) (ss i) (ss (i + 1))) → Chn M l (ss 0) (ss l.length)
  | [], ss, _ => .nil _
  | d :: l, ss, h => .cons (h 0 (by simp)) (chn_of l (fun i => ss (i + 1)) fun i hi => h (i + 1) (by simp; omega))
theorem chn_ss {M : Way → Sg → Sg → Prop} {l : List Way} {s s1 : Sg} (h : Chn M l s s1) : ∃ ss : Nat → Sg, ss 0 = s ∧ ss l.length = s1 ∧ ∀ i (hi : i < l.length), M (l[i]'hi) (ss i) (ss (i + 1)) := by
  induction h with
  | nil s => exact ⟨fun _ => s, rfl, rfl, fun i hi => by simp at hi⟩
  | @cons d l s s1 s2 h _ ih =>
    obtain ⟨ss, h0, h1, h2⟩ := ih
    refine ⟨fun i => match i with | 0 => s | i + 1 => ss i, rfl, h1, fun i hi => ?_⟩
    cases i with
    | zero => show M d s (ss 0); rw [h0]; exact h
    | succ i => exact h2 i (by simpa using hi)
theorem inOrder_of {l : List Way} {p : Nat} {s s1 : Sg} (h : Chn (fun d s s1 => Ex tx E d p s s1) l s s1) : Ex tx E (.inOrder l) p s s1 := by
  obtain ⟨ss, rfl, rfl, h2⟩ := chn_ss h
  exact .inOrder ss h2
theorem Fra.refl (s : Sg) (T : Int → Int → Prop) : Fra G s s T := fun m n q _ _ h => .inl h
theorem Fra.trans {s s1 s2 : Sg} {T : Int → Int → Prop} (h : Fra G s s1 T) (h' : Fra G s1 s2 T) (hm : ∀ x ∈ s.done, x ∈ s1.done) : Fra G s s2 T := fun m n q hY hn h2 => by
  rcases h' m n q hY (hm _ hn) h2 with h3 | h3
  · exact h m n q hY hn h3
  · exact .inr h3
/-- nothing of alternatives -/
abbrev NoT : Int → Int → Prop := fun _ _ => False
/-- what is shown of a way that was gone -/
structure Su3 (G : Mau) (tx : List Int) (E' : Nat → Way) (W : Way) (p : Nat) (s s1 : Sg) : Prop where
  mono : ∀ x ∈ s.done, x ∈ s1.done
  one : ∀ (W' : Way) (s' : Sg) (P : Int → Int → Prop), Siu G W W' → Alu G P s s' → Peu G P W p → ∃ s1', Ex tx E' W' p s' s1' ∧ Alu G NoP s1 s1' ∧ Fra G s s1 NoT
  row : ∀ (l : List Way) (n : Int) (M : List Int) (l' : List Way) (s' : Sg), W = .inOrder l → SiL G M l l' → (∀ m ∈ M, G.Y m n) → M.Nodup → (n, (p : Int)) ∈ s.done → (∀ m ∈ M, (m, (p : Int)) ∉ s.done) → Alu G NoP s s' → ∃ s1', Chn (fun d s s1 => Ex tx E' d p s s1) l' s' s1' ∧ Alu G NoP s1 s1' ∧ Fra G s s1 (fun m q => m ∈ M ∧ q = (p : Int))
  fl : ∀ (n : Int) (M : List Int) (l' : List Way) (s' : Sg), SiF G M W l' → (∀ m ∈ M, G.Y m n) → M.Nodup → (n, (p : Int)) ∈ s.done → (∀ m ∈ M, (m, (p : Int)) ∉ s.done) → Alu G NoP s s' → ∃ s1', Chn (fun d s s1 => Ex tx E' d p s s1) l' s' s1' ∧ Alu G NoP s1 s1' ∧ Fra G s s1 (fun m q => m ∈ M ∧ q = (p : Int))
/-- alternatives, one behind another -/
theorem sil_chn {p : Nat} {l : List Way} {s s1 : Sg} (h : Chn (fun d s s1 => Su3 G tx E' d p s s1) l s s1) : ∀ (n : Int) (M : List Int) (l' : List Way) (s' : Sg), SiL G M l l' → (∀ m ∈ M, G.Y m n) → M.Nodup → (n, (p : Int)) ∈ s.done → (∀ m ∈ M, (m, (p : Int)) ∉ s.done) → Alu G NoP s s' →
    (∀ x ∈ s.done, x ∈ s1.done) ∧ ∃ s1', Chn (fun d s s1 => Ex tx E' d p s s1) l' s' s1' ∧ Alu G NoP s1 s1' ∧ Fra G s s1 (fun m q => m ∈ M ∧ q = (p : Int)) := by
  induction h with
  | nil s =>
    intro n M l' s' hL hY hM hn hno hA
    cases hL
    exact ⟨fun x hx => hx, s', .nil _, hA, .refl _ _⟩
  | @cons d l s s1 s2 h t ih =>
    intro n M l' s' hL hY hM hn hno hA
    cases hL with
    | @cons _ d' _ l' M hS hL =>
      obtain ⟨s1', x1, a1, f1⟩ := h.one d' s' NoP hS hA (Peu.no _ _)
      obtain ⟨m2, s2', x2, a2, f2⟩ := ih n M l' s1' hL hY hM (h.mono _ hn) (fun m hm hd => by
        rcases f1 m n _ (hY m hm) hn hd with h | h
        · exact hno m hm h
        · exact h) a1
      refine ⟨fun x hx => m2 x (h.mono x hx), s2', .cons x1 x2, a2, Fra.trans (fun m n q a b c => ?_) f2 h.mono⟩
      rcases f1 m n q a b c with h | h
      · exact .inl h
      · exact h.elim
    | @flat _ _ k' l' M N hF hL =>
      rw [List.nodup_append] at hM
      obtain ⟨hN, hM, hd⟩ := hM
      obtain ⟨s1', x1, a1, f1⟩ := h.fl n N k' s' hF (fun m hm => hY m (List.mem_append.2 (.inl hm))) hN hn (fun m hm => hno m (List.mem_append.2 (.inl hm))) hA
      obtain ⟨m2, s2', x2, a2, f2⟩ := ih n M l' s1' hL (fun m hm => hY m (List.mem_append.2 (.inr hm))) hM (h.mono _ hn) (fun m hm hx => by
        rcases f1 m n _ (hY m (List.mem_append.2 (.inr hm))) hn hx with h | h
        · exact hno m (List.mem_append.2 (.inr hm)) h
        · exact hd m h.1 m hm rfl) a1
      refine ⟨fun x hx => m2 x (h.mono x hx), s2', x1.app x2, a2, Fra.trans (fun m n q a b c => ?_) (fun m n q a b c => ?_) h.mono⟩
      · rcases f1 m n q a b c with h | h
        · exact .inl h
        · exact .inr ⟨List.mem_append.2 (.inl h.1), h.2⟩
      · rcases f2 m n q a b c with h | h
        · exact .inl h
        · exact .inr ⟨List.mem_append.2 (.inr h.1), h.2⟩
theorem mem_snoc {x y : Int × Int} {l : List (Int × Int)} : x ∈ l ++ [y] ↔ x ∈ l ∨ x = y := by simp
/-- TWO WAYS that do the same do the same -/
theorem siu_ex (hG : G.Ok E E') {W : Way} {p : Nat} {s s1 : Sg} (h : Ex tx E W p s s1) : Su3 G tx E' W p s s1 := by
  have hmono := h.mono
  induction h with
  | through p s =>
    refine ⟨hmono, fun W' s' P hS hA hP => ?_, fun l n M l' s' e => (by cases e), fun n M l' s' hF => (by cases hF)⟩
    have hA := hA.none (hP.none fun n0 h => by cases h)
    cases hS
    exact ⟨_, .through p s', ⟨hA.dn, hA.ex, hA.ya, hA.nt, by simp only [hA.nt, hA.pr]⟩, fun m n q _ _ h => .inl h⟩
  | @skip n d p s h =>
    refine ⟨hmono, fun W' s' P hS hA hP => ?_, fun l n M l' s' e => (by cases e), fun n M l' s' hF hY hM hn hno hA => ?_⟩
    · cases hS with
      | once hC hS => exact ⟨s', .skip ((hA.dn _ _ _ hC).1 h), hA.settle hG hP (.once hC) h, .refl _ _⟩
      | onceA hC _ _ _ => exact ⟨s', .skip ((hA.dn _ _ _ hC).1 h), hA.settle hG hP (.once hC) h, .refl _ _⟩
      | @more _ n0 _ _ hX hb hh hS =>
        have hd : (n0, (p : Int)) ∈ s.done := by
          rcases hA.ex _ _ _ hX h with hd | hp
          · exact hd
          · have := (hP _ _ hp).2.2
            rw [hb] at this
            simp at this
            omega
        obtain ⟨n0', hC⟩ := hh.c
        exact ⟨s', siu_skip hG hS n0 n0' p s' hh hC ((hA.dn _ _ _ hC).1 hd), hA.settle hG hP (.more hX hh) hd, .refl _ _⟩
    · cases hF with
      | alt _ => exact absurd h (hno _ (by simp))
      | wrap _ => exact absurd h (hno _ (by simp))
  | @once n d p s s1 h hd ih =>
    have ih := ih hd.mono
    refine ⟨hmono, fun W' s' P hS hA hP => ?_, fun l n M l' s' e => (by cases e), fun n1 M l' s' hF hY hM hn hno hA => ?_⟩
    · have paired : ∀ n', G.C n n' → Alu G NoP { s with done := s.done ++ [(n, (p : Int))] } { s' with done := s'.done ++ [(n', (p : Int))] } := fun n' hC => by
        have hA1 : Alu G P { s with done := s.done ++ [(n, (p : Int))] } { s' with done := s'.done ++ [(n', (p : Int))] } := by
          refine ⟨fun a a' q ha => ?_, fun m n0 q hX hm => ?_, fun m n0 q hY hm => ?_, hA.nt, hA.pr⟩
          · simp only [List.mem_append, List.mem_singleton, Prod.mk.injEq]
            rw [hA.dn a a' q ha, hG.one a a' n n' ha hC]
          · simp only [mem_snoc] at hm ⊢
            rcases hm with hm | hm
            · rcases hA.ex m n0 q hX hm with hm | hm
              · exact .inl (.inl hm)
              · exact .inr hm
            · simp only [Prod.mk.injEq] at hm
              exact absurd hC (by rw [← hm.1]; exact hG.noC _ _ _ hX)
          · simp only [mem_snoc] at hm ⊢
            rcases hm with hm | hm
            · exact .inl (hA.ya m n0 q hY hm)
            · simp only [Prod.mk.injEq] at hm
              exact absurd hC (by rw [← hm.1]; exact hG.yC _ _ _ hY)
        exact hA1.settle hG hP (.once hC) (by simp)
      cases hS with
      | @once _ n' _ d' hC hS =>
        have hn : (n', (p : Int)) ∉ s'.done := fun hm => h ((hA.dn _ _ _ hC).2 hm)
        obtain ⟨s1', hx, hA3, hF⟩ := ih.one d' _ NoP hS (paired n' hC) (Peu.no _ _)
        refine ⟨s1', .once hn hx, hA3, fun m n2 q a b c => ?_⟩
        rcases hF m n2 q a (mem_snoc.2 (.inl b)) c with c | c
        · rcases mem_snoc.1 c with c | c
          · exact .inl c
          · simp only [Prod.mk.injEq] at c
            exact absurd hC (by rw [← c.1]; exact hG.yC _ _ _ a)
        · exact c.elim
      | @onceA _ n' l l' M hC hS hY hM =>
        have hn : (n', (p : Int)) ∉ s'.done := fun hm => h ((hA.dn _ _ _ hC).2 hm)
        obtain ⟨s1', hx, hA3, hF⟩ := ih.row l n M l' _ rfl hS hY hM (by simp) (fun m hm hd => by
          rcases mem_snoc.1 hd with hd | hd
          · exact h (hA.ya m n _ (hY m hm) hd)
          · simp only [Prod.mk.injEq] at hd
            exact absurd hC (by rw [← hd.1]; exact hG.yC _ _ _ (hY m hm))) (paired n' hC)
        refine ⟨s1', .once hn (inOrder_of hx), hA3, fun m n2 q a b c => ?_⟩
        rcases hF m n2 q a (mem_snoc.2 (.inl b)) c with c | ⟨cm, rfl⟩
        · rcases mem_snoc.1 c with c | c
          · exact .inl c
          · simp only [Prod.mk.injEq] at c
            exact absurd hC (by rw [← c.1]; exact hG.yC _ _ _ a)
        · rw [hG.oneY m n2 n a (hY m cm)] at b
          exact absurd b h
      | @more _ n0 _ _ hX hb hh hS =>
        have hA1 : Alu G (fun m q => P m q ∨ (m = n ∧ q = (p : Int))) { s with done := s.done ++ [(n, (p : Int))] } s' := by
          refine ⟨fun a a' q ha => ?_, fun m n1 q hX1 hm => ?_, fun m n1 q hY hm => ?_, hA.nt, hA.pr⟩
          · simp only [mem_snoc, Prod.mk.injEq]
            rw [← hA.dn a a' q ha]
            constructor
            · rintro (hm | ⟨rfl, _⟩)
              · exact hm
              · exact absurd ha (hG.noC _ _ _ hX)
            · exact .inl
          · simp only [mem_snoc, Prod.mk.injEq] at hm ⊢
            rcases hm with hm | hm
            · rcases hA.ex m n1 q hX1 hm with hm | hm
              · exact .inl (.inl hm)
              · exact .inr (.inl hm)
            · exact .inr (.inr hm)
          · simp only [mem_snoc, Prod.mk.injEq] at hm ⊢
            rcases hm with hm | ⟨rfl, _⟩
            · exact .inl (hA.ya m n1 q hY hm)
            · exact absurd hX (hG.yX _ _ _ hY)
        obtain ⟨s1', hx, hA3, hF⟩ := ih.one W' s' _ hS hA1 (fun m q hm => by
          rcases hm with hm | ⟨rfl, rfl⟩
          · obtain ⟨a, ⟨n2, b1, b2⟩, c⟩ := hP m q hm
            refine ⟨a, ⟨n2, b1, ?_⟩, ?_⟩
            · rw [← (Hdu.more hX hh).fn hG b2]
              exact hh
            · simp at c
              omega
          · exact ⟨rfl, ⟨n0, hX, hh⟩, by rw [hb]; exact Nat.le_refl _⟩)
        refine ⟨s1', hx, hA3, fun m n2 q a b c => ?_⟩
        rcases hF m n2 q a (mem_snoc.2 (.inl b)) c with c | c
        · rcases mem_snoc.1 c with c | c
          · exact .inl c
          · simp only [Prod.mk.injEq] at c
            exact absurd hX (by rw [← c.1]; exact hG.yX _ _ _ a)
        · exact c.elim
    · have inner : ∀ M0, M = n :: M0 → Alu G NoP { s with done := s.done ++ [(n, (p : Int))] } s' ∧ (∀ m ∈ M0, (m, (p : Int)) ∉ s.done ++ [(n, (p : Int))]) := fun M0 e => by
        subst e
        have hYn := hY n (by simp)
        refine ⟨⟨fun a a' q ha => ?_, fun m n0 q hX hm => ?_, fun m n0 q hY2 hm => ?_, hA.nt, hA.pr⟩, fun m hm hd => ?_⟩
        · simp only [mem_snoc, Prod.mk.injEq]
          rw [← hA.dn a a' q ha]
          constructor
          · rintro (hm | ⟨rfl, _⟩)
            · exact hm
            · exact absurd ha (hG.yC _ _ _ hYn)
          · exact .inl
        · simp only [mem_snoc, Prod.mk.injEq] at hm ⊢
          rcases hm with hm | ⟨rfl, _⟩
          · rcases hA.ex m n0 q hX hm with hm | hm
            · exact .inl (.inl hm)
            · exact .inr hm
          · exact absurd hX (hG.yX _ _ _ hYn)
        · simp only [mem_snoc, Prod.mk.injEq] at hm ⊢
          rcases hm with hm | ⟨rfl, rfl⟩
          · exact .inl (hA.ya m n0 q hY2 hm)
          · rw [hG.oneY _ _ _ hY2 hYn]
            exact .inl hn
        · rcases mem_snoc.1 hd with hd | hd
          · exact hno m (List.mem_cons_of_mem _ hm) hd
          · simp only [Prod.mk.injEq] at hd
            rw [hd.1] at hm
            exact (List.nodup_cons.1 hM).1 hm
      have fin : ∀ M0, M = n :: M0 → ∀ s1 : Sg, Fra G { s with done := s.done ++ [(n, (p : Int))] } s1 (fun m q => m ∈ M0 ∧ q = (p : Int)) → Fra G s s1 (fun m q => m ∈ M ∧ q = (p : Int)) := fun M0 e s1 hR m n2 q a b c => by
        subst e
        rcases hR m n2 q a (mem_snoc.2 (.inl b)) c with c | c
        · rcases mem_snoc.1 c with c | c
          · exact .inl c
          · simp only [Prod.mk.injEq] at c
            exact .inr ⟨by rw [c.1]; simp, c.2⟩
        · exact .inr ⟨List.mem_cons_of_mem _ c.1, c.2⟩
      cases hF with
      | @alt _ l _ M0 hL =>
        obtain ⟨i1, i2⟩ := inner M0 rfl
        obtain ⟨s1', hx, hA3, hF⟩ := ih.row l n1 M0 l' s' rfl hL (fun m hm => hY m (List.mem_cons_of_mem _ hm)) (List.nodup_cons.1 hM).2 (mem_snoc.2 (.inl hn)) i2 i1
        exact ⟨s1', hx, hA3, fin M0 rfl _ hF⟩
      | @wrap _ _ _ M0 hL =>
        obtain ⟨i1, i2⟩ := inner M0 rfl
        obtain ⟨s1', hx, hA3, hF⟩ := ih.fl n1 M0 l' s' hL (fun m hm => hY m (List.mem_cons_of_mem _ hm)) (List.nodup_cons.1 hM).2 (mem_snoc.2 (.inl hn)) i2 i1
        exact ⟨s1', hx, hA3, fin M0 rfl _ hF⟩
  | @noted c d p s s1 hd ih =>
    have ih := ih hd.mono
    refine ⟨hmono, fun W' s' P hS hA hP => ?_, fun l n M l' s' e => (by cases e), fun n M l' s' hF => (by cases hF)⟩
    have hPd : Peu G P d p := fun m q hm => by
      obtain ⟨a, ⟨n2, b1, b2⟩, e⟩ := hP m q hm
      cases b2 with
      | noted b2 => exact ⟨a, ⟨n2, b1, b2⟩, by simp at e; omega⟩
    have hno : s1.notes.set c (s.notes.getD c 0) = s.notes := (Ex.noted hd).notes
    cases hS with
    | @noted _ _ d' hS =>
      obtain ⟨s1', hx, hA3, hF⟩ := ih.one d' { s' with notes := s'.notes.set c (p : Int) } P hS ⟨hA.dn, hA.ex, hA.ya, by simp only [hA.nt], hA.pr⟩ hPd
      have hx2 := Ex.noted (c := c) (s := s') hx
      refine ⟨_, hx2, ⟨hA3.dn, hA3.ex, hA3.ya, ?_, hA3.pr⟩, hF⟩
      have e2 := hx2.notes
      simp only at e2 ⊢
      rw [hno, e2]
      exact hA.nt
  | over h =>
    refine ⟨hmono, fun W' s' P hS hA hP => ?_, fun l n M l' s' e => (by cases e), fun n M l' s' hF => (by cases hF)⟩
    have hA := hA.none (hP.none fun n0 h => by cases h)
    cases hS with | runeOf hS => exact ⟨s', .over h, hA, .refl _ _⟩
  | other h hr =>
    refine ⟨hmono, fun W' s' P hS hA hP => ?_, fun l n M l' s' e => (by cases e), fun n M l' s' hF => (by cases hF)⟩
    have hA := hA.none (hP.none fun n0 h => by cases h)
    cases hS with | runeOf hS => exact ⟨s', .other h hr, hA, .refl _ _⟩
  | rune h hr hd ih =>
    have ih := ih hd.mono
    refine ⟨hmono, fun W' s' P hS hA hP => ?_, fun l n M l' s' e => (by cases e), fun n M l' s' hF => (by cases hF)⟩
    have hA := hA.none (hP.none fun n0 h => by cases h)
    cases hS with
    | runeOf hS =>
      obtain ⟨s1', hx, hA3, hF⟩ := ih.one _ s' NoP hS hA (Peu.no _ _)
      exact ⟨s1', .rune h hr hx, hA3, hF⟩
  | fails h =>
    refine ⟨hmono, fun W' s' P hS hA hP => ?_, fun l n M l' s' e => (by cases e), fun n M l' s' hF => (by cases hF)⟩
    have hA := hA.none (hP.none fun n0 h => by cases h)
    cases hS with | ifHolds hS => exact ⟨s', .fails h, hA, .refl _ _⟩
  | holds h hd ih =>
    have ih := ih hd.mono
    refine ⟨hmono, fun W' s' P hS hA hP => ?_, fun l n M l' s' e => (by cases e), fun n M l' s' hF => (by cases hF)⟩
    have hA := hA.none (hP.none fun n0 h => by cases h)
    cases hS with
    | ifHolds hS =>
      obtain ⟨s1', hx, hA3, hF⟩ := ih.one _ s' NoP hS hA (Peu.no _ _)
      exact ⟨s1', .holds h hx, hA3, hF⟩
  | @inOrder l p ss h ih =>
    refine ⟨hmono, fun W' s' P hS hA hP => (by cases hS), fun l1 n M l' s' e hL hY hM hn hno hA => ?_, fun n M l' s' hF => (by cases hF)⟩
    cases e
    exact (sil_chn (chn_of l ss fun i hi => ih i hi (h i hi).mono) n M l' s' hL hY hM hn hno hA).2
  | again h ih =>
    have ih := ih h.mono
    refine ⟨hmono, fun W' s' P hS hA hP => ?_, fun l n M l' s' e => (by cases e), fun n M l' s' hF => (by cases hF)⟩
    have hA := hA.none (hP.none fun n0 h => by cases h)
    cases hS with
    | again hL =>
      obtain ⟨s1', hx, hA3, hF⟩ := ih.one _ s' NoP (hG.loop _ _ hL) hA (Peu.no _ _)
      exact ⟨s1', .again hx, hA3, hF⟩
end
end Go.Proofs.Ytdidopgenhpakaa
/- HELPERS: ways that do the same, as they are made side by side, also with alternatives within alternatives. -/
namespace Go.Proofs.Ytdidopgenhpakaa
open Go.RowKit
set_option linter.unusedVariables false
set_option linter.unusedSimpArgs false
/-- what holds of the things so far -/
structure Miu (n n' : Int) (G : Mau) : Prop where
  le : ∀ a a', G.C a a' → a ≤ n ∧ a' ≤ n'
  xle : ∀ m n0, G.X m n0 → m ≤ n
  yle : ∀ m n0, G.Y m n0 → m ≤ n ∧ n0 ≤ n
  one : ∀ a a' m m', G.C a a' → G.C m m' → (a = m ↔ a' = m')
  noC : ∀ m n0 a', G.X m n0 → ¬ G.C m a'
  oneX : ∀ m n0 n1, G.X m n0 → G.X m n1 → n0 = n1
  yC : ∀ m n0 n', G.Y m n0 → ¬ G.C m n'
  yX : ∀ m n0 n1, G.Y m n0 → ¬ G.X m n1
  oneY : ∀ m n0 n1, G.Y m n0 → G.Y m n1 → n0 = n1
/-- a thing that goes with nothing yet -/
def Mau.free (G : Mau) (m : Int) : Prop := (∀ a', ¬ G.C m a') ∧ (∀ n0, ¬ G.X m n0) ∧ ∀ n0, ¬ G.Y m n0
/-- more things, more loops -/
structure Gru (E E' : Nat → Way) (n n' : Int) (G : Mau) (n1 n1' : Int) (G' : Mau) : Prop where
  l1 : n ≤ n1
  l2 : n' ≤ n1'
  c : ∀ a a', G.C a a' → G'.C a a'
  x : ∀ m n0, G.X m n0 → G'.X m n0
  y : ∀ m n0, G.Y m n0 → G'.Y m n0
  bd : ∀ m, m ≤ n → G'.Bd m = G.Bd m
  l : ∀ b b', G.L b b' → G'.L b b'
  fr : ∀ m, m ≤ n → G.free m → G'.free m
  new : ∀ b b', G'.L b b' → G.L b b' ∨ Siu G' (E b) (E' b')
section
variable {E E' : Nat → Way} {n n' n1 n1' n2 n2' : Int} {G G1 G2 : Mau}
theorem Gru.refl (n n' : Int) (G : Mau) : Gru E E' n n' G n n' G := ⟨Int.le_refl _, Int.le_refl _, fun _ _ h => h, fun _ _ h => h, fun _ _ h => h, fun _ _ => rfl, fun _ _ h => h, fun _ _ h => h, fun _ _ h => .inl h⟩
theorem Hdu.up (hc : ∀ a a', G.C a a' → G1.C a a') (hx : ∀ m n0, G.X m n0 → G1.X m n0) {W : Way} {h0 : Int} (h : Hdu G W h0) : Hdu G1 W h0 := by
  induction h with
  | once h => exact .once (hc _ _ h)
  | more hX _ ih => exact .more (hx _ _ hX) ih
  | noted _ ih => exact .noted ih
theorem siu_up (hI : Miu n n' G) (hc : ∀ a a', G.C a a' → G1.C a a') (hx : ∀ m n0, G.X m n0 → G1.X m n0) (hy : ∀ m n0, G.Y m n0 → G1.Y m n0) (hb : ∀ m, m ≤ n → G1.Bd m = G.Bd m) (hl : ∀ b b', G.L b b' → G1.L b b') :
    (∀ {W W' : Way}, Siu G W W' → Siu G1 W W') ∧ (∀ {M : List Int} {l l' : List Way}, SiL G M l l' → SiL G1 M l l') ∧ ∀ {M : List Int} {d : Way} {l' : List Way}, SiF G M d l' → SiF G1 M d l' := by
  have key : ∀ W W' (h : Siu G W W'), Siu G1 W W' := fun W W' h => by
    refine Siu.rec (motive_1 := fun W W' _ => Siu G1 W W') (motive_2 := fun M l l' _ => SiL G1 M l l') (motive_3 := fun M d l' _ => SiF G1 M d l') ?_ ?_ ?_ ?_ ?_ ?_ ?_ ?_ ?_ ?_ ?_ ?_ ?_ h
    · exact .through
    · intro n n' d d' hC _ ih; exact .once (hc _ _ hC) ih
    · intro n n' l l' M hC _ hY hM ih; exact .onceA (hc _ _ hC) ih (fun m hm => hy _ _ (hY m hm)) hM
    · intro m n0 d W' hX hb2 hh _ ih; exact .more (hx _ _ hX) ((hb _ (hI.xle _ _ hX)).trans hb2) (hh.up hc hx) ih
    · intro c d d' _ ih; exact .noted ih
    · intro R d d' _ ih; exact .runeOf ih
    · intro a d d' _ ih; exact .ifHolds ih
    · intro b b' h; exact .again (hl _ _ h)
    · exact .nil
    · intro d d' l l' M _ _ ih it; exact .cons ih it
    · intro d l k' l' M N _ _ ih it; exact .flat ih it
    · intro m l l' M _ ih; exact .alt ih
    · intro e d l' M _ ih; exact .wrap ih
  have key2 : ∀ M l l' (h : SiL G M l l'), SiL G1 M l l' := fun M l l' h => by
    refine SiL.rec (motive_1 := fun W W' _ => Siu G1 W W') (motive_2 := fun M l l' _ => SiL G1 M l l') (motive_3 := fun M d l' _ => SiF G1 M d l') ?_ ?_ ?_ ?_ ?_ ?_ ?_ ?_ ?_ ?_ ?_ ?_ ?_ h
    · exact .through
    · intro n n' d d' hC _ ih; exact .once (hc _ _ hC) ih
    · intro n n' l l' M hC _ hY hM ih; exact .onceA (hc _ _ hC) ih (fun m hm => hy _ _ (hY m hm)) hM
    · intro m n0 d W' hX hb2 hh _ ih; exact .more (hx _ _ hX) ((hb _ (hI.xle _ _ hX)).trans hb2) (hh.up hc hx) ih
    · intro c d d' _ ih; exact .noted ih
    · intro R d d' _ ih; exact .runeOf ih
    · intro a d d' _ ih; exact .ifHolds ih
    · intro b b' h; exact .again (hl _ _ h)
    · exact .nil
    · intro d d' l l' M _ _ ih it; exact .cons ih it
    · intro d l k' l' M N _ _ ih it; exact .flat ih it
    · intro m l l' M _ ih; exact .alt ih
    · intro e d l' M _ ih; exact .wrap ih
  refine ⟨fun h => key _ _ h, fun h => key2 _ _ _ h, ?_⟩
  intro M d l' h
  cases h with
  | alt h => exact .alt (key2 _ _ _ h)
  | wrap h =>
    have key3 : ∀ M d l' (h : SiF G M d l'), SiF G1 M d l' := fun M d l' h => by
      refine SiF.rec (motive_1 := fun _ _ _ => True) (motive_2 := fun _ _ _ _ => True) (motive_3 := fun M d l' _ => SiF G1 M d l') ?_ ?_ ?_ ?_ ?_ ?_ ?_ ?_ ?_ ?_ ?_ ?_ ?_ h
      · trivial
      · intros; trivial
      · intros; trivial
      · intros; trivial
      · intros; trivial
      · intros; trivial
      · intros; trivial
      · intros; trivial
      · trivial
      · intros; trivial
      · intros; trivial
      · intro m l l' M h _; exact .alt (key2 _ _ _ h)
      · intro e d l' M _ ih; exact .wrap ih
    exact .wrap (key3 _ _ _ h)
theorem Gru.sim (h : Gru E E' n n' G n1 n1' G1) (hI : Miu n n' G) {W W' : Way} (hS : Siu G W W') : Siu G1 W W' := (siu_up hI h.c h.x h.y h.bd h.l).1 hS
theorem Gru.simL (h : Gru E E' n n' G n1 n1' G1) (hI : Miu n n' G) {M : List Int} {l l' : List Way} (hS : SiL G M l l') : SiL G1 M l l' := (siu_up hI h.c h.x h.y h.bd h.l).2.1 hS
theorem Gru.trans (h : Gru E E' n n' G n1 n1' G1) (h' : Gru E E' n1 n1' G1 n2 n2' G2) (hI : Miu n1 n1' G1) : Gru E E' n n' G n2 n2' G2 :=
  ⟨Int.le_trans h.l1 h'.l1, Int.le_trans h.l2 h'.l2, fun a a' x => h'.c _ _ (h.c _ _ x), fun a a' x => h'.x _ _ (h.x _ _ x), fun a a' x => h'.y _ _ (h.y _ _ x), fun m hm => (h'.bd m (Int.le_trans hm h.l1)).trans (h.bd m hm), fun b b' x => h'.l _ _ (h.l _ _ x), fun m hm hf => h'.fr m (Int.le_trans hm h.l1) (h.fr m hm hf), fun b b' x => by
    rcases h'.new b b' x with x | x
    · rcases h.new b b' x with x | x
      · exact .inl x
      · exact .inr (h'.sim hI x)
    · exact .inr x⟩
/-- one more pair of things -/
def Mau.pair (G : Mau) (n n' : Int) : Mau := { G with C := fun a a' => G.C a a' ∨ (a = n + 1 ∧ a' = n' + 1) }
/-- one more thing on the left -/
def Mau.extra (G : Mau) (n h0 : Int) (d : Way) : Mau := { G with X := fun m n0 => G.X m n0 ∨ (m = n + 1 ∧ n0 = h0), Bd := upd G.Bd (n + 1) d }
/-- one more pair of loops -/
def Mau.loops (G : Mau) (b b' : Nat) : Mau := { G with L := fun x x' => G.L x x' ∨ (x = b ∧ x' = b') }
/-- these stand in the alternatives of that -/
def Mau.stand (G : Mau) (M : List Int) (N : Int) : Mau := { G with Y := fun m n0 => G.Y m n0 ∨ (m ∈ M ∧ n0 = N) }
theorem Miu.wide (h : Miu n n' G) (h1 : n ≤ n1) (h2 : n' ≤ n1') : Miu n1 n1' G := ⟨fun a a' x => by have := h.le a a' x; omega, fun m n0 x => by have := h.xle m n0 x; omega, fun m n0 x => by have := h.yle m n0 x; omega, h.one, h.noC, h.oneX, h.yC, h.yX, h.oneY⟩
theorem Gru.wide (n n' : Int) (G : Mau) (h1 : n ≤ n1) (h2 : n' ≤ n1') : Gru E E' n n' G n1 n1' G := ⟨h1, h2, fun _ _ h => h, fun _ _ h => h, fun _ _ h => h, fun _ _ => rfl, fun _ _ h => h, fun _ _ h => h, fun _ _ h => .inl h⟩
theorem Miu.new (h : Miu n n' G) {m : Int} (hm : n < m) : G.free m := ⟨fun a' hc => by have := h.le _ _ hc; omega, fun n0 hx => by have := h.xle _ _ hx; omega, fun n0 hy => by have := h.yle _ _ hy; omega⟩
theorem Miu.pair (h : Miu n n' G) : Miu (n + 1) (n' + 1) (G.pair n n') := by
  have hnew := h.new (m := n + 1) (by omega)
  refine ⟨fun a a' hc => ?_, fun m n0 hx => by have := h.xle m n0 hx; omega, fun m n0 hy => by have := h.yle m n0 hy; omega, fun a a' m m' h1 h2 => ?_, fun m n0 a' hx hc => ?_, h.oneX, fun m n0 a' hy hc => ?_, h.yX, h.oneY⟩
  · rcases hc with hc | hc
    · have := h.le a a' hc; omega
    · omega
  · rcases h1 with h1 | h1 <;> rcases h2 with h2 | h2
    · exact h.one a a' m m' h1 h2
    · have := h.le a a' h1; omega
    · have := h.le m m' h2; omega
    · omega
  · rcases hc with hc | ⟨rfl, _⟩
    · exact h.noC m n0 a' hx hc
    · exact hnew.2.1 _ hx
  · rcases hc with hc | ⟨rfl, _⟩
    · exact h.yC m n0 a' hy hc
    · exact hnew.2.2 _ hy
theorem Miu.extra (h : Miu n n' G) (h0 : Int) (d : Way) : Miu (n + 1) n' (G.extra n h0 d) := by
  have hnew := h.new (m := n + 1) (by omega)
  refine ⟨fun a a' hc => by have := h.le a a' hc; omega, fun m n0 hx => ?_, fun m n0 hy => by have := h.yle m n0 hy; omega, h.one, fun m n0 a' hx hc => ?_, fun m n0 n1 h1 h2 => ?_, h.yC, fun m n0 n1 hy hx => ?_, h.oneY⟩
  · rcases hx with hx | hx
    · have := h.xle m n0 hx; omega
    · omega
  · rcases hx with hx | ⟨rfl, _⟩
    · exact h.noC m n0 a' hx hc
    · exact hnew.1 _ hc
  · rcases h1 with h1 | h1 <;> rcases h2 with h2 | h2
    · exact h.oneX m n0 n1 h1 h2
    · have := h.xle m n0 h1; omega
    · have := h.xle m n1 h2; omega
    · omega
  · rcases hx with hx | ⟨rfl, _⟩
    · exact h.yX m n0 n1 hy hx
    · exact hnew.2.2 _ hy
theorem Miu.loops (h : Miu n n' G) (b b' : Nat) : Miu n n' (G.loops b b') := ⟨h.le, h.xle, h.yle, h.one, h.noC, h.oneX, h.yC, h.yX, h.oneY⟩
theorem Miu.stand (h : Miu n n' G) {M : List Int} {N : Int} (hM : ∀ m ∈ M, m ≤ n ∧ G.free m) (hN : N ≤ n) : Miu n n' (G.stand M N) := by
  refine ⟨h.le, h.xle, fun m n0 hy => ?_, h.one, h.noC, h.oneX, fun m n0 a' hy hc => ?_, fun m n0 n1 hy hx => ?_, fun m n0 n1 h1 h2 => ?_⟩
  · rcases hy with hy | ⟨hm, rfl⟩
    · exact h.yle m n0 hy
    · exact ⟨(hM m hm).1, hN⟩
  · rcases hy with hy | ⟨hm, _⟩
    · exact h.yC m n0 a' hy hc
    · exact (hM m hm).2.1 _ hc
  · rcases hy with hy | ⟨hm, _⟩
    · exact h.yX m n0 n1 hy hx
    · exact (hM m hm).2.2.1 _ hx
  · rcases h1 with h1 | ⟨hm, rfl⟩ <;> rcases h2 with h2 | ⟨hm2, rfl⟩
    · exact h.oneY m n0 n1 h1 h2
    · exact absurd h1 ((hM m hm2).2.2.2 _)
    · exact absurd h2 ((hM m hm).2.2.2 _)
    · rfl
theorem Gru.pair (h : Miu n n' G) : Gru E E' n n' G (n + 1) (n' + 1) (G.pair n n') := ⟨by omega, by omega, fun _ _ h => .inl h, fun _ _ h => h, fun _ _ h => h, fun _ _ => rfl, fun _ _ h => h, fun m hm hf => ⟨fun a' hc => by rcases hc with hc | hc; exact hf.1 _ hc; omega, hf.2⟩, fun _ _ h => .inl h⟩
theorem Gru.extra (n n' : Int) (G : Mau) (h0 : Int) (d : Way) : Gru E E' n n' G (n + 1) n' (G.extra n h0 d) :=
  ⟨by omega, by omega, fun _ _ h => h, fun _ _ h => .inl h, fun _ _ h => h, fun m hm => by show upd G.Bd (n + 1) d m = _; simp only [upd]; rw [if_neg (by omega)], fun _ _ h => h, fun m hm hf => ⟨hf.1, fun n0 hx => by rcases hx with hx | hx; exact hf.2.1 _ hx; omega, hf.2.2⟩, fun _ _ h => .inl h⟩
/-- to begin these side by side keeps them alike -/
def SMu (E E' : Nat → Way) (n : Int) (B : Way) (n1 : Int) (W : Way) (n' : Int) (B' : Way) (n1' : Int) (W' : Way) : Prop :=
  ∀ G, Miu n n' G → Siu G B B' → (∃ h, Hdu G B h) → ∃ G', Miu n1 n1' G' ∧ Gru E E' n n' G n1 n1' G' ∧ Siu G' W W' ∧ ∃ h, Hdu G' W h
theorem SMu.self (n n' : Int) (B B' : Way) : SMu E E' n B n B n' B' n' B' := fun G hI hS hH => ⟨G, hI, .refl _ _ _, hS, hH⟩
theorem SMu.seq {B W V B' W' V' : Way} (h : SMu E E' n B n1 W n' B' n1' W') (h' : SMu E E' n1 W n2 V n1' W' n2' V') : SMu E E' n B n2 V n' B' n2' V' := fun G hI hS hH => by
  obtain ⟨G1, i1, g1, s1, d1⟩ := h G hI hS hH
  obtain ⟨G2, i2, g2, s2, d2⟩ := h' G1 i1 s1 d1
  exact ⟨G2, i2, g1.trans g2 i1, s2, d2⟩
/-- both do it as one thing more -/
theorem SMu.pair {B W B' W' : Way} (h : ∀ G, Miu n n' G → Siu G B B' → (∃ h, Hdu G B h) → ∃ G', Miu n1 n1' G' ∧ Gru E E' n n' G n1 n1' G' ∧ Siu G' W W') : SMu E E' n B (n1 + 1) (.once (n1 + 1) W) n' B' (n1' + 1) (.once (n1' + 1) W') := fun G hI hS hH => by
  obtain ⟨G1, i1, g1, s1⟩ := h G hI hS hH
  have g2 := Gru.pair (E := E) (E' := E') i1
  exact ⟨_, i1.pair, g1.trans g2 i1, .once (.inr ⟨rfl, rfl⟩) (g2.sim i1 s1), _, .once (.inr ⟨rfl, rfl⟩)⟩
/-- both have alternatives, as one thing more -/
theorem SMu.alts {B B' : Way} {Ws Ws' : List Way} (h : ∀ G, Miu n n' G → Siu G B B' → (∃ h, Hdu G B h) → ∃ G' M, Miu n1 n1' G' ∧ Gru E E' n n' G n1 n1' G' ∧ SiL G' M Ws Ws' ∧ M.Nodup ∧ ∀ m ∈ M, n < m ∧ m ≤ n1 ∧ G'.free m) : SMu E E' n B (n1 + 1) (.once (n1 + 1) (.inOrder Ws)) n' B' (n1' + 1) (.once (n1' + 1) (.inOrder Ws')) := fun G hI hS hH => by
  obtain ⟨G1, M, i1, g1, s1, hM, hf⟩ := h G hI hS hH
  have g2 := Gru.pair (E := E) (E' := E') i1
  have i2 := i1.pair
  have hf2 : ∀ m ∈ M, m ≤ n1 + 1 ∧ (G1.pair n1 n1').free m := fun m hm => ⟨by have := (hf m hm).2.1; omega, g2.fr m (hf m hm).2.1 (hf m hm).2.2⟩
  have i3 := i2.stand hf2 (Int.le_refl (n1 + 1))
  have g3 : Gru E E' n n' G (n1 + 1) (n1' + 1) ((G1.pair n1 n1').stand M (n1 + 1)) := by
    have g := g1.trans g2 i1
    refine ⟨g.l1, g.l2, g.c, g.x, fun m n0 hy => .inl (g.y _ _ hy), g.bd, g.l, fun m hm hfm => ?_, fun b b' hb => ?_⟩
    · have h4 := g.fr m hm hfm
      refine ⟨h4.1, h4.2.1, fun n0 hy => ?_⟩
      rcases hy with hy | ⟨hm2, _⟩
      · exact h4.2.2 _ hy
      · have := (hf m hm2).1; omega
    · rcases g.new b b' hb with h | h
      · exact .inl h
      · exact .inr ((siu_up (G1 := (G1.pair n1 n1').stand M (n1 + 1)) i2 (fun _ _ h => h) (fun _ _ h => h) (fun _ _ h => .inl h) (fun _ _ => rfl) (fun _ _ h => h)).1 h)
  refine ⟨_, i3, g3, .onceA (M := M) (.inr ⟨rfl, rfl⟩) ?_ (fun m hm => .inr ⟨hm, rfl⟩) hM, _, .once (.inr ⟨rfl, rfl⟩)⟩
  exact (siu_up (G1 := (G1.pair n1 n1').stand M (n1 + 1)) i2 (fun _ _ h => h) (fun _ _ h => h) (fun _ _ h => .inl h) (fun _ _ => rfl) (fun _ _ h => h)).2.1 (g2.simL i1 s1)
/-- the left does it as one thing more -/
theorem SMu.extra {B W B' W' : Way} (h : SMu E E' n B n1 W n' B' n1' W') : SMu E E' n B (n1 + 1) (.once (n1 + 1) W) n' B' n1' W' := fun G hI hS hH => by
  obtain ⟨G1, i1, g1, s1, h0, d1⟩ := h G hI hS hH
  have g2 := Gru.extra (E := E) (E' := E') n1 n1' G1 h0 W
  have d2 : Hdu (G1.extra n1 h0 W) W h0 := d1.up g2.c g2.x
  exact ⟨_, i1.extra h0 W, g1.trans g2 i1, .more (.inr ⟨rfl, rfl⟩) (by show upd G1.Bd (n1 + 1) W (n1 + 1) = W; simp [upd]) d2 (g2.sim i1 s1), h0, .more (.inr ⟨rfl, rfl⟩) d2⟩
/-- loops side by side -/
theorem SMu.round {b b' : Nat} {B B' : Way} {lz : Bool} (h : SMu E E' (n + 1) (Dcd lz n b B) n2 (E b) (n' + 1) (Dcd lz n' b' B') n2' (E' b')) (G : Mau) (hI : Miu n n' G) (hS : Siu G B B') :
    ∃ G', Miu n2 n2' G' ∧ Gru E E' n n' G n2 n2' G' ∧ Siu G' (E b) (E' b') ∧ Siu G' (Dcd lz n b B) (Dcd lz n' b' B') ∧ (∃ h, Hdu G' (E b) h) ∧ ∃ h, Hdu G' (Dcd lz n b B) h := by
  obtain ⟨G0, hG0⟩ : ∃ G0, G0 = (G.loops b b').pair n n' := ⟨_, rfl⟩
  have hI0 : Miu (n + 1) (n' + 1) G0 := by rw [hG0]; exact (hI.loops b b').pair
  have hC : G0.C (n + 1) (n' + 1) := by rw [hG0]; exact .inr ⟨rfl, rfl⟩
  have hL : G0.L b b' := by rw [hG0]; exact .inr ⟨rfl, rfl⟩
  have hB : Siu G0 B B' := by rw [hG0]; exact (siu_up (G1 := (G.loops b b').pair n n') hI (fun _ _ h => Or.inl h) (fun _ _ h => h) (fun _ _ h => h) (fun _ _ => rfl) (fun _ _ h => Or.inl h)).1 hS
  have hD : Siu G0 (Dcd lz n b B) (Dcd lz n' b' B') := by
    refine .onceA (M := []) hC ?_ (fun m hm => by cases hm) List.nodup_nil
    cases lz
    · exact .cons (.again hL) (.cons hB .nil)
    · exact .cons hB (.cons (.again hL) .nil)
  obtain ⟨G1, i1, g1, s1, d1⟩ := h G0 hI0 hD ⟨_, .once hC⟩
  refine ⟨G1, i1, ⟨by have := g1.l1; omega, by have := g1.l2; omega, fun a a' x => g1.c _ _ (by rw [hG0]; exact .inl x), fun m n0 x => g1.x _ _ (by rw [hG0]; exact x), fun m n0 x => g1.y _ _ (by rw [hG0]; exact x), fun m hm => (g1.bd m (by omega)).trans (by rw [hG0]; rfl), fun x x' hx => g1.l _ _ (by rw [hG0]; exact .inl hx), fun m hm hf => g1.fr m (by omega) ?_, fun x x' hx => ?_⟩, s1, g1.sim hI0 hD, d1, _, .once (g1.c _ _ hC)⟩
  · rw [hG0]
    exact ⟨fun a' hc => by rcases hc with hc | hc; exact hf.1 _ hc; omega, hf.2⟩
  · rcases g1.new x x' hx with hx | hx
    · rw [hG0] at hx
      rcases hx with hx | ⟨rfl, rfl⟩
      · exact .inl hx
      · exact .inr s1
    · exact .inr hx
/-- two ways side by side under one thing -/
theorem SMu.two {B W B' W' : Way} {lz : Bool} (h : SMu E E' n B n1 W n' B' n1' W') : SMu E E' n B (n1 + 1) (.once (n1 + 1) (.inOrder (if lz = true then [B, W] else [W, B]))) n' B' (n1' + 1) (.once (n1' + 1) (.inOrder (if lz = true then [B', W'] else [W', B']))) :=
  SMu.alts fun G hI hS hH => by
    obtain ⟨G1, i1, g1, s1, _⟩ := h G hI hS hH
    have hB := g1.sim hI hS
    refine ⟨G1, [], i1, g1, ?_, List.nodup_nil, fun m hm => by cases hm⟩
    cases lz
    · exact .cons s1 (.cons hB .nil)
    · exact .cons hB (.cons s1 .nil)
end
end Go.Proofs.Ytdidopgenhpakaa
/- HELPERS: a tree and its unfolded form: the same parses. -/
namespace Go.Proofs.Ytdidopgenhpakaa
open Go.RowKit
set_option linter.unusedVariables false
set_option linter.unusedSimpArgs false
/-- a count of one tree -/
def loopN (x : Tn) (mn mx : Int) (lz : Bool) : Tn := .mk 6 [] 0 [x] mn mx lz 0 ⟨#[]⟩
/-- trees one behind another -/
def rowN : List Tn → Tn
  | [] => .mk 1 [] 0 [] 0 0 false 0 ⟨#[]⟩
  | [x] => x
  | x :: y :: l => .mk 4 [] 0 (x :: y :: l) 0 0 false 0 ⟨#[]⟩
/-- x that may be left, and so on -/
def optN (x : Tn) (lz : Bool) : Nat → Tn
  | 0 => loopN x 0 1 lz
  | k + 1 => loopN (rowN [x, optN x lz k]) 0 1 lz
/-- a count, unfolded -/
def sprN (x : Tn) (mn mx : Int) (lz : Bool) : Tn :=
  if mx < 0 then (if mn < 2 then loopN x mn (-1) lz else rowN (List.replicate (mn - 1).toNat x ++ [loopN x 1 (-1) lz]))
  else rowN (List.replicate mn.toNat x ++ if mn < mx then [optN x lz (mx - mn - 1).toNat] else [])
mutual
/-- a tree, unfolded -/
def Tn.spread : Tn → Tn
  | .mk k R a s mn mx lz ix nm => if k = 6 then (match spreadL s with | x :: _ => sprN x mn mx lz | [] => .mk k R a [] mn mx lz ix nm) else .mk k R a (spreadL s) mn mx lz ix nm
def spreadL : List Tn → List Tn
  | [] => []
  | t :: ts => t.spread :: spreadL ts
end
theorem spreadL_map (ts : List Tn) : spreadL ts = ts.map Tn.spread := by
  induction ts with
  | nil => rfl
  | cons t ts ih => simp [spreadL, ih]
section
variable {E : Nat → Way}
theorem row_begC {l : List Tn} (hl : l ≠ []) {n n1 : Int} {B W : Way} (h : Beg E (rowN l) n B n1 W) : BegC E l n B n1 W := by
  match l, hl, h with
  | [x], _, h => exact .cons .nil h
  | x :: y :: l, _, h => exact h.cats
theorem begC_rep {x : Tn} {ts : List Tn} : ∀ {c : Nat} {n n2 : Int} {B W : Way}, BegC E (List.replicate c x ++ ts) n B n2 W → ∃ n1 W1, BegC E ts n B n1 W1 ∧ BegT E x c n1 W1 n2 W := by
  intro c
  induction c with
  | zero => intro n n2 B W h; exact ⟨_, _, by simpa using h, .zero⟩
  | succ c ih =>
    intro n n2 B W h
    rw [List.replicate_succ, List.cons_append] at h
    obtain ⟨n1, W1, h1, h2⟩ := h.first
    obtain ⟨n3, W3, h3, h4⟩ := ih h1
    exact ⟨n3, W3, h3, .succ h4 h2⟩
theorem begC_one {x : Tn} {n n1 : Int} {B W : Way} (h : BegC E [x] n B n1 W) : Beg E x n B n1 W := by
  obtain ⟨_, _, h1, h2⟩ := h.first
  obtain ⟨rfl, rfl⟩ := h1.none
  exact h2
theorem may_beg {x : Tn} {lz : Bool} {n n1 : Int} {B W : Way} (h : Beg E (loopN x 0 1 lz) n B n1 W) : ∃ n2 W2, n1 = n2 + 1 ∧ W = .once (n2 + 1) (.inOrder (if lz = true then [B, W2] else [W2, B])) ∧ Beg E x n B n2 W2 := by
  obtain ⟨t, e, h0⟩ := Beg.rep h
  simp only [List.cons.injEq, and_true] at e
  subst e
  rcases h0 with ⟨b, _, e, _⟩ | ⟨b, c, _, _, e, _⟩ | ⟨c, m, n2, W1, e1, e2, hO, hT⟩
  · omega
  · omega
  · obtain rfl : c = 0 := by omega
    obtain rfl : m = 1 := by omega
    obtain ⟨rfl, rfl⟩ := hT.none
    obtain ⟨_, n2', _, W2, rfl, rfl, r1, r2⟩ := hO.next
    obtain ⟨rfl, rfl⟩ := r1.none
    exact ⟨n2', W2, rfl, rfl, r2⟩
theorem opt_begO {x : Tn} {lz : Bool} : ∀ {k : Nat} {n n1 : Int} {B W : Way}, Beg E (optN x lz k) n B n1 W → BegO E x lz B (k + 1) n n1 W := by
  intro k
  induction k with
  | zero =>
    intro n n1 B W h
    obtain ⟨n2, W2, rfl, rfl, r0⟩ := may_beg h
    exact .succ .zero r0
  | succ k ih =>
    intro n n1 B W h
    obtain ⟨n2, W2, rfl, rfl, r0⟩ := may_beg h
    obtain ⟨n3, W3, h1, h2⟩ := (row_begC (by simp) r0).first
    exact .succ (ih (begC_one h1)) h2
theorem spr_any0 {x : Tn} {lz : Bool} {n n1 : Int} {B W : Way} (h : Beg E (sprN x 0 (-1) lz) n B n1 W) : ∃ b, Beg E x (n + 1) (Dcd lz n b B) n1 (E b) ∧ W = Dcd lz n b B := by
  simp [sprN, loopN] at h
  obtain ⟨t, e, h0⟩ := h.rep
  simp only [List.cons.injEq, and_true] at e
  subst e
  rcases h0 with ⟨b, _, _, r0, rfl⟩ | ⟨b, c, _, e, _⟩ | ⟨c, m, _, _, _, e, _⟩
  · exact ⟨b, r0, rfl⟩
  · omega
  · omega
theorem spr_any {x : Tn} {lz : Bool} {c : Nat} {n n1 : Int} {B W : Way} (h : Beg E (sprN x ((c : Int) + 1) (-1) lz) n B n1 W) : ∃ b n2, Beg E x (n + 1) (Dcd lz n b B) n2 (E b) ∧ BegT E x c n2 (E b) n1 W := by
  have plus : ∀ {n1 : Int} {W : Way}, Beg E (loopN x 1 (-1) lz) n B n1 W → ∃ b, Beg E x (n + 1) (Dcd lz n b B) n1 (E b) ∧ W = E b := by
    intro n1 W h
    obtain ⟨t, e, h0⟩ := Beg.rep h
    simp only [List.cons.injEq, and_true] at e
    subst e
    rcases h0 with ⟨b, e, _⟩ | ⟨b, c, n2, e, _, r0, hT⟩ | ⟨c, m, _, _, _, e, _⟩
    · omega
    · obtain rfl : c = 0 := by omega
      obtain ⟨rfl, rfl⟩ := hT.none
      exact ⟨b, r0, rfl⟩
    · omega
  by_cases hc : c = 0
  · subst hc
    simp [sprN] at h
    obtain ⟨b, h1, rfl⟩ := plus h
    exact ⟨b, _, h1, .zero⟩
  · rw [sprN, if_pos (by omega), if_neg (by omega), show ((c : Int) + 1 - 1).toNat = c by omega] at h
    obtain ⟨n2, W1, h1, h2⟩ := begC_rep (row_begC (by simp) h)
    obtain ⟨b, h3, rfl⟩ := plus (begC_one h1)
    exact ⟨b, n2, h3, h2⟩
theorem spr_bnd {x : Tn} {lz : Bool} {c m : Nat} {n n1 : Int} {B W : Way} (h : Beg E (sprN x (c : Int) ((c : Int) + (m : Int)) lz) n B n1 W) : (c = 0 ∧ m = 0 ∧ n1 = n + 1 ∧ W = .once (n + 1) B) ∨ ∃ n2 W1, BegO E x lz B m n n2 W1 ∧ BegT E x c n2 W1 n1 W := by
  rw [sprN, if_neg (by omega), show ((c : Int)).toNat = c by omega] at h
  by_cases hm : m = 0
  · subst hm
    rw [if_neg (by omega)] at h
    by_cases hc : c = 0
    · subst hc
      simp [rowN] at h
      obtain ⟨rfl, rfl⟩ := h.empties
      exact .inl ⟨rfl, rfl, rfl, rfl⟩
    · obtain ⟨n2, W1, h1, h2⟩ := begC_rep (row_begC (by simp; omega) h)
      obtain ⟨rfl, rfl⟩ := h1.none
      exact .inr ⟨_, _, .zero, h2⟩
  · rw [if_pos (by omega), show ((c : Int) + (m : Int) - (c : Int) - 1).toNat = m - 1 by omega] at h
    obtain ⟨n2, W1, h1, h2⟩ := begC_rep (row_begC (by simp) h)
    have := opt_begO (begC_one h1)
    rw [show m - 1 + 1 = m by omega] at this
    exact .inr ⟨n2, W1, this, h2⟩
end
end Go.Proofs.Ytdidopgenhpakaa
/- HELPERS: a tree and its unfolded form have the same parses. -/
namespace Go.Proofs.Ytdidopgenhpakaa
open Go.RowKit
set_option linter.unusedVariables false
set_option linter.unusedSimpArgs false
theorem spreadL_snoc (ts : List Tn) (t : Tn) : spreadL (ts ++ [t]) = spreadL ts ++ [t.spread] := by simp [spreadL_map]
/-- SIDE BY SIDE: a tree unfolded, and the tree -/
theorem beg_spread {E E' : Nat → Way} {t : Tn} {n' n1' : Int} {B' W' : Way} (h : Beg E' t n' B' n1' W') : ∀ n B n1 W, Beg E t.spread n B n1 W → SM E E' false n B n1 W n' B' n1' W' := by
  refine Beg.rec (motive_1 := fun t n' B' n1' W' _ => ∀ n B n1 W, Beg E t.spread n B n1 W → SM E E' false n B n1 W n' B' n1' W') (motive_2 := fun ts n' B' n1' W' _ => ∀ n B n1 W, BegC E (spreadL ts) n B n1 W → SM E E' false n B n1 W n' B' n1' W')
    (motive_3 := fun ts n' B' n1' Ws' _ => ∀ n B n1 Ws, BegA E (spreadL ts) n B n1 Ws → ∀ G, G.drop = false → MInv n n' G → Sim G B B' → (∃ h, Hdp G B h) → ∃ G', MInv n1 n1' G' ∧ Grow E E' n n' G n1 n1' G' ∧ Sim G' (.inOrder Ws) (.inOrder Ws'))
    (motive_4 := fun t c n' B' n1' W' _ => ∀ n B n1 W, BegT E t.spread c n B n1 W → SM E E' false n B n1 W n' B' n1' W') (motive_5 := fun t lz B' c n' n1' W' _ => ∀ n B n1 W, BegO E t.spread lz B c n n1 W → SM E E' false n B n1 W n' B' n1' W')
    ?_ ?_ ?_ ?_ ?_ ?_ ?_ ?_ ?_ ?_ ?_ ?_ ?_ ?_ ?_ ?_ ?_ h
  · intro R a s mn mx lz ix nm n' B' n B n1 W hr
    simp [Tn.spread] at hr
    obtain ⟨rfl, rfl⟩ := hr.empties
    exact SM.pair fun G _ hI hS _ => ⟨G, hI, .refl _ _ _, hS⟩
  · intro R a s mn mx lz ix nm n' B' n B n1 W hr
    simp [Tn.spread] at hr
    obtain ⟨rfl, rfl⟩ := hr.classes
    exact SM.pair fun G _ hI hS _ => ⟨G, hI, .refl _ _ _, .runeOf hS⟩
  · intro R a s mn mx lz ix nm n' B' n B n1 W hr
    simp [Tn.spread] at hr
    obtain ⟨rfl, rfl⟩ := hr.asserts
    exact SM.pair fun G _ hI hS _ => ⟨G, hI, .refl _ _ _, .ifHolds hS⟩
  · intro R a s mn mx lz ix nm n' n1' B' W' _ ih n B n1 W hr
    simp [Tn.spread] at hr
    exact ih _ _ _ _ hr.cats
  · intro R a s mn mx lz ix nm n' n1' B' Ws' _ ih n B n1 W hr
    simp [Tn.spread] at hr
    obtain ⟨n2, Ws, rfl, rfl, r1⟩ := hr.alts
    exact SM.pair fun G hd hI hS hH => ih _ _ _ _ r1 G hd hI hS hH
  · intro R a t mn mx lz i nm n' n1' B' W' _ ih n B n1 W hr
    simp [Tn.spread, spreadL] at hr
    obtain ⟨t', i', n2, W1, e1, e2, rfl, rfl, r1⟩ := hr.group
    simp only [List.cons.injEq, and_true] at e1
    subst e1
    obtain rfl : i = i' := by omega
    refine SM.pair fun G hd hI hS ⟨h0, hH⟩ => ?_
    obtain ⟨G1, i1, g1, s1, h1, d1⟩ := ih _ _ _ _ r1 G hd hI (.noted hd hS) ⟨h0, .noted hH⟩
    exact ⟨G1, i1, g1, .noted (g1.dr.trans hd) s1⟩
  · intro R a t lz ix nm n' n2' b' B' _ ih n B n1 W hr
    simp [Tn.spread, spreadL] at hr
    obtain ⟨b, r1, rfl⟩ := spr_any0 hr
    intro G hd hI hS hH
    obtain ⟨G1, i1, g1, _, s1, _, d1⟩ := (ih _ _ _ _ r1).round G hd hI hS
    exact ⟨G1, i1, g1, s1, d1⟩
  · intro R a t c lz ix nm n' n2' n3' b' B' W3' _ _ ih ihT n B n1 W hr
    simp [Tn.spread, spreadL] at hr
    obtain ⟨b, n2, r1, hT⟩ := spr_any hr
    refine SM.seq (fun G hd hI hS hH => ?_) (ihT _ _ _ _ hT)
    obtain ⟨G1, i1, g1, s1, _, d1, _⟩ := (ih _ _ _ _ r1).round G hd hI hS
    exact ⟨G1, i1, g1, s1, d1⟩
  · intro R a t c m lz ix nm n' n1' n2' B' W1' W2' hO0 hT0 ihO ihT n B n1 W hr
    simp [Tn.spread, spreadL] at hr
    rcases spr_bnd hr with ⟨rfl, rfl, rfl, rfl⟩ | ⟨n2, W1, hO, hT⟩
    · obtain ⟨rfl, rfl⟩ := hT0.none
      obtain ⟨rfl, rfl⟩ := hO0.none
      exact (SM.self _ _ _ _ _).extra
    · exact (ihO _ _ _ _ hO).seq (ihT _ _ _ _ hT)
  · intro n' B' n B n1 W hr
    obtain ⟨rfl, rfl⟩ := hr.none
    exact .self _ _ _ _ _
  · intro t ts n' n1' n2' B' W1' W2' _ _ h h2 n B n1 W hr
    simp only [spreadL] at hr
    obtain ⟨_, _, r1, r2⟩ := hr.first
    exact (h _ _ _ _ r1).seq (h2 _ _ _ _ r2)
  · intro n' B' n B n1 Ws hr G hd hI hS hH
    obtain ⟨rfl, rfl⟩ := hr.none
    exact ⟨G, hI, .refl _ _ _, .inOrder rfl fun i hi => by simp at hi⟩
  · intro t ts n' n1' n2' B' W2' Ws' _ _ hl hl2 n B n1 Ws hr G hd hI hS hH
    rw [spreadL_snoc] at hr
    obtain ⟨_, Ws1, W2, rfl, r1, r2⟩ := hr.last
    obtain ⟨G1, i1, g1, s1⟩ := hl _ _ _ _ r1 G hd hI hS hH
    obtain ⟨h0, hH⟩ := hH
    obtain ⟨G2, i2, g2, s2, _⟩ := hl2 _ _ _ _ r2 G1 (g1.dr.trans hd) i1 (g1.sim hI hS) ⟨h0, hH.up g1.c g1.x⟩
    have s3 := g2.sim i1 s1
    cases s3 with
    | inOrder el s3 =>
      refine ⟨G2, i2, g1.trans g2 i1, .inOrder (by simp [el]) fun i hi hi' => ?_⟩
      by_cases hi2 : i < Ws1.length
      · rw [List.getElem_append_left hi2, List.getElem_append_left (by omega)]
        exact s3 i hi2 (by omega)
      · simp only [List.length_append, List.length_cons, List.length_nil] at hi hi'
        obtain rfl : i = Ws1.length := by omega
        rw [List.getElem_concat_length rfl, List.getElem_concat_length el]
        exact s2
  · intro t n' W' n B n1 W hr
    obtain ⟨rfl, rfl⟩ := hr.none
    exact .self _ _ _ _ _
  · intro t c n' n1' n2' W' W1' W2' _ _ h h2 n B n1 W hr
    obtain ⟨_, _, r1, r2⟩ := hr.next
    exact (h _ _ _ _ r1).seq (h2 _ _ _ _ r2)
  · intro t lz B' n' n B n1 W hr
    obtain ⟨rfl, rfl⟩ := hr.none
    exact .self _ _ _ _ _
  · intro t lz B' c n' n1' n2' W1' W2' _ _ h h2 n B n1 W hr
    obtain ⟨_, n2, _, _, rfl, rfl, r1, r2⟩ := hr.next
    refine SM.pair fun G hd hI hS hH => ?_
    obtain ⟨G1, i1, g1, s1, _⟩ := ((h _ _ _ _ r1).seq (h2 _ _ _ _ r2)) G hd hI hS hH
    exact ⟨G1, i1, g1, sim_two s1 (g1.sim hI hS) lz⟩
/-- the notes of fewer groups are the first of the notes -/
def Pre (ν ν' : List Int) : Prop := ν.length ≤ ν'.length ∧ ∀ k, k < ν.length → ν[k]? = ν'[k]?
theorem Pre.set {ν ν' : List Int} (h : Pre ν ν') (c : Nat) (x : Int) : Pre (ν.set c x) (ν'.set c x) := by
  refine ⟨by simpa using h.1, fun k hk => ?_⟩
  simp only [List.length_set] at hk
  have h1 := h.1
  by_cases e : c = k
  · subst e
    rw [List.getElem?_set_self hk, List.getElem?_set_self (by omega)]
  · rw [List.getElem?_set_ne e, List.getElem?_set_ne e]
    exact h.2 k hk
/-- parses alike: the same ends, of each the notes -/
def PreL : List (Int × List Int) → List (Int × List Int) → Prop
  | [], [] => True
  | e :: l, e' :: l' => e.1 = e'.1 ∧ Pre e.2 e'.2 ∧ PreL l l'
  | _, _ => False
theorem PreL.snoc {e e' : Int × List Int} (h1 : e.1 = e'.1) (h2 : Pre e.2 e'.2) : ∀ {l l' : List (Int × List Int)}, PreL l l' → PreL (l ++ [e]) (l' ++ [e'])
  | [], [], _ => ⟨h1, h2, trivial⟩
  | _ :: _, _ :: _, h => ⟨h.1, h.2.1, PreL.snoc h1 h2 h.2.2⟩
  | [], _ :: _, h => h.elim
  | _ :: _, [], h => h.elim
/-- THE PARSES OF A TREE UNFOLDED: the same ends in the same order, the same captures as far as they go -/
theorem PS.spread {t : Tn} {K K' : Nat} {tx : List Int} {p : Nat} {l m : List (Int × List Int)} (hK : K ≤ K') (h : PS t.spread K tx p l) (h' : PS t K' tx p m) : PreL l m := by
  obtain ⟨E, W, n1, s1, hB, hE, hg, hx, rfl⟩ := h.ex
  obtain ⟨E', W', n1', s1', hB', hE', hg', hx', rfl⟩ := h'.ex
  obtain ⟨G0, hG0⟩ : ∃ G0 : Mat, G0 = ⟨fun a a' => a = 1 ∧ a' = 1, fun _ _ => False, fun _ _ => False, fun _ => .through, false, Pre, PreL⟩ := ⟨_, rfl⟩
  obtain ⟨G, hI, hgr, hS, h0, hH⟩ := beg_spread hB' _ _ _ _ hB G0 (by rw [hG0]) (by rw [hG0]; exact ⟨fun a a' h => by simp at h; omega, fun _ _ h => h.elim, fun a a' m m' h1 h2 => by simp at h1 h2; omega, fun _ _ _ h => h.elim, fun _ _ _ h => h.elim⟩) (by rw [hG0]; exact .once ⟨rfl, rfl⟩ .through) ⟨1, by rw [hG0]; exact .once (n' := 1) ⟨rfl, rfl⟩⟩
  have hnr : G.NR = Pre := by rw [hgr.nr, hG0]
  have hpr : G.PR = PreL := by rw [hgr.pr, hG0]
  have hdr : G.drop = false := by rw [hgr.dr, hG0]
  have hok : G.Ok E E' := by
    refine ⟨hI.one, hI.noC, hI.oneX, fun b b' hb => ?_, fun c x ν ν' hd hn => ?_, fun c x ν ν' hd _ => (by rw [hdr] at hd; cases hd), fun q ν ν' a b hn h => ?_⟩
    · rcases hgr.new b b' hb with hb | hb
      · rw [hG0] at hb; exact hb.elim
      · exact hb
    · rw [hnr] at hn ⊢; exact hn.set c x
    · rw [hpr] at h ⊢
      rw [hnr] at hn
      exact PreL.snoc (e := ((q : Int), ν.set 1 (q : Int))) (e' := ((q : Int), ν'.set 1 (q : Int))) rfl (hn.set 1 _) h
  obtain ⟨s2, hx2, hA⟩ := sim_ex hok hx W' ⟨[], (List.replicate K' (-1)).set 0 (p : Int), []⟩ NoP hS ⟨fun a a' q _ => by simp, fun m n0 q _ hm => by simp at hm, by rw [hnr]; exact Pre.set ⟨by simpa using hK, fun k hk => by simp only [List.length_replicate] at hk; simp [List.getElem?_replicate, hk, show k < K' by omega]⟩ 0 _, by rw [hpr]; trivial⟩ (Pend.no _ _)
  have e := hx'.det hx2
  subst e
  have := hA.pr
  rw [hpr] at this
  exact this
end Go.Proofs.Ytdidopgenhpakaa
/- HELPERS: nothing is noted but by groups that count. -/
namespace Go.Proofs.Ytdidopgenhpakaa
open Go.RowKit
set_option linter.unusedVariables false
set_option linter.unusedSimpArgs false
mutual
/-- a way notes below K alone -/
def Way.nt (K : Nat) (A : Nat → Prop) : Way → Prop
  | .through => True
  | .once _ d => d.nt K A
  | .noted c d => c < K ∧ d.nt K A
  | .runeOf _ d => d.nt K A
  | .ifHolds _ d => d.nt K A
  | .inOrder l => ntL K A l
  | .again b => A b
def ntL (K : Nat) (A : Nat → Prop) : List Way → Prop
  | [] => True
  | d :: l => d.nt K A ∧ ntL K A l
end
theorem ntL_get {K : Nat} {A : Nat → Prop} : ∀ {l : List Way}, ntL K A l → ∀ (i : Nat) (hi : i < l.length), (l[i]'hi).nt K A := by
  intro l
  induction l with
  | nil => intro _ i hi; simp at hi
  | cons e l ih =>
    intro h i hi
    simp only [ntL] at h
    cases i with
    | zero => exact h.1
    | succ i => exact ih h.2 i (by simpa using hi)
theorem ntL_snoc {K : Nat} {A : Nat → Prop} {d : Way} (hd : d.nt K A) : ∀ {l : List Way}, ntL K A l → ntL K A (l ++ [d]) := by
  intro l
  induction l with
  | nil => intro _; simp [ntL, hd]
  | cons e l ih => intro h; simp only [ntL, List.cons_append] at h ⊢; exact ⟨h.1, ih h.2⟩
mutual
theorem nt_mono {K : Nat} {A A' : Nat → Prop} (hA : ∀ b, A b → A' b) : ∀ (W : Way), W.nt K A → W.nt K A'
  | .through, h => by simp only [Way.nt]
  | .once _ d, h => by simp only [Way.nt] at h ⊢; exact nt_mono hA d h
  | .noted c d, h => by simp only [Way.nt] at h ⊢; exact ⟨h.1, nt_mono hA d h.2⟩
  | .runeOf _ d, h => by simp only [Way.nt] at h ⊢; exact nt_mono hA d h
  | .ifHolds _ d, h => by simp only [Way.nt] at h ⊢; exact nt_mono hA d h
  | .inOrder l, h => by simp only [Way.nt] at h ⊢; exact ntL_mono hA l h
  | .again b, h => by simp only [Way.nt] at h ⊢; exact hA b h
theorem ntL_mono {K : Nat} {A A' : Nat → Prop} (hA : ∀ b, A b → A' b) : ∀ (l : List Way), ntL K A l → ntL K A' l
  | [], h => by simp only [ntL]
  | d :: l, h => by simp only [ntL] at h ⊢; exact ⟨nt_mono hA d h.1, ntL_mono hA l h.2⟩
end
/-- nothing is noted from K on -/
def Bare (K : Nat) (ν : List Int) : Prop := ∀ k, K ≤ k → ν.getD k (-1) = -1
theorem Bare.set {K : Nat} {ν : List Int} (h : Bare K ν) {c : Nat} (hc : c < K) (x : Int) : Bare K (ν.set c x) := fun k hk => by
  have e := h k hk
  simp only [List.getD_eq_getElem?_getD] at e ⊢
  rw [List.getElem?_set_ne (by omega)]
  exact e
theorem ex_bare {tx : List Int} {E : Nat → Way} {A : Nat → Prop} {K : Nat} (hE : ∀ b, A b → (E b).nt K A) (hK : 2 ≤ K) {W : Way} {p : Nat} {s s' : Sg} (h : Ex tx E W p s s') : W.nt K A → Bare K s.notes → (∀ e ∈ s.parses, Bare K e.2) → ∀ e ∈ s'.parses, Bare K e.2 := by
  induction h with
  | through p s =>
    intro _ hM hP e he
    simp only [List.mem_append, List.mem_singleton] at he
    rcases he with he | rfl
    · exact hP e he
    · exact hM.set (by omega) _
  | skip h => intro _ _ hP; exact hP
  | once h hd ih => intro hO hM hP; simp only [Way.nt] at hO; exact ih hO hM hP
  | noted hd ih =>
    intro hO hM hP
    simp only [Way.nt] at hO
    exact ih hO.2 (hM.set hO.1 _) hP
  | over h => intro _ _ hP; exact hP
  | other h hr => intro _ _ hP; exact hP
  | rune h hr hd ih => intro hO hM hP; simp only [Way.nt] at hO; exact ih hO hM hP
  | fails h => intro _ _ hP; exact hP
  | holds h hd ih => intro hO hM hP; simp only [Way.nt] at hO; exact ih hO hM hP
  | @inOrder l p ss h ih =>
    intro hO hM hP
    simp only [Way.nt] at hO
    have key : ∀ i, i ≤ l.length → (ss i).notes = (ss 0).notes ∧ ∀ e ∈ (ss i).parses, Bare K e.2 := by
      intro i
      induction i with
      | zero => intro _; exact ⟨rfl, hP⟩
      | succ i ihi =>
        intro hi
        obtain ⟨a, b⟩ := ihi (by omega)
        exact ⟨(h i (by omega)).notes.trans a, ih i (by omega) (ntL_get hO i (by omega)) (by rw [a]; exact hM) b⟩
    exact (key _ (Nat.le_refl _)).2
  | again h ih => intro hO hM hP; simp only [Way.nt] at hO; exact ih (hE _ hO) hM hP
mutual
/-- the groups that count note below K -/
def Tn.eff (K : Nat) : Tn → Prop
  | .mk k R a s mn mx lz ix nm => (k = 7 → 2 * ix + 1 < (K : Int)) ∧ (¬ (k = 6 ∧ mx = 0) → effL K s)
def effL (K : Nat) : List Tn → Prop
  | [] => True
  | t :: ts => t.eff K ∧ effL K ts
end
theorem effL_snoc {K : Nat} {t : Tn} : ∀ {ts : List Tn}, effL K (ts ++ [t]) ↔ effL K ts ∧ t.eff K := by
  intro ts
  induction ts with
  | nil => simp [effL]
  | cons u ts ih => simp only [List.cons_append, effL, ih, and_assoc]
/-- more loops, each noting below K -/
structure MorN (E : Nat → Way) (K : Nat) (A A' : Nat → Prop) : Prop where
  sub : ∀ b, A b → A' b
  new : ∀ b, A' b → A b ∨ (E b).nt K A'
section
variable {E : Nat → Way} {K : Nat}
theorem MorN.refl (A : Nat → Prop) : MorN E K A A := ⟨fun _ h => h, fun _ h => .inl h⟩
theorem MorN.trans {A A1 A2 : Nat → Prop} (h : MorN E K A A1) (h' : MorN E K A1 A2) : MorN E K A A2 :=
  ⟨fun b hb => h'.sub b (h.sub b hb), fun b hb => by
    rcases h'.new b hb with hb | hb
    · rcases h.new b hb with hb | hb
      · exact .inl hb
      · exact .inr (nt_mono h'.sub _ hb)
    · exact .inr hb⟩
def NtM (E : Nat → Way) (K : Nat) (B W : Way) : Prop := ∀ A, B.nt K A → ∃ A', MorN E K A A' ∧ W.nt K A'
theorem NtM.self (B : Way) : NtM E K B B := fun A h => ⟨A, .refl A, h⟩
theorem NtM.seq {B W W' : Way} (h : NtM E K B W) (h' : NtM E K W W') : NtM E K B W' := fun A hb => by
  obtain ⟨A1, m1, h1⟩ := h A hb
  obtain ⟨A2, m2, h2⟩ := h' A1 h1
  exact ⟨A2, m1.trans m2, h2⟩
theorem NtM.map {B W W' : Way} (h : NtM E K B W) (hW : ∀ A, W.nt K A → W'.nt K A) : NtM E K B W' := fun A hb => by
  obtain ⟨A1, m1, h1⟩ := h A hb
  exact ⟨A1, m1, hW _ h1⟩
theorem NtM.round {n : Int} {b : Nat} {B : Way} (lz : Bool) (h : NtM E K (Dcd lz n b B) (E b)) {A : Nat → Prop} (hB : B.nt K A) : ∃ A', MorN E K A A' ∧ (E b).nt K A' ∧ (Dcd lz n b B).nt K A' := by
  have hD : (Dcd lz n b B).nt K (fun x => A x ∨ x = b) := by
    have hB' := nt_mono (A' := fun x => A x ∨ x = b) (fun x hx => .inl hx) B hB
    simp only [Way.nt]
    cases lz <;> simp [ntL, hB', Way.nt]
  obtain ⟨A1, m1, h1⟩ := h _ hD
  refine ⟨A1, ⟨fun x hx => m1.sub x (.inl hx), fun x hx => ?_⟩, h1, nt_mono m1.sub _ hD⟩
  rcases m1.new x hx with (hx | rfl) | hx
  · exact .inl hx
  · exact .inr h1
  · exact .inr hx
theorem Beg.notes {t : Tn} {n n1 : Int} {B W : Way} (h : Beg E t n B n1 W) : t.eff K → NtM E K B W := by
  refine Beg.rec (motive_1 := fun t n B n1 W _ => t.eff K → NtM E K B W) (motive_2 := fun ts n B n1 W _ => effL K ts → NtM E K B W)
    (motive_3 := fun ts n B n1 Ws _ => effL K ts → ∀ A, B.nt K A → ∃ A', MorN E K A A' ∧ ntL K A' Ws)
    (motive_4 := fun t c n B n1 W _ => (c ≠ 0 → t.eff K) → NtM E K B W) (motive_5 := fun t lz B c n n1 W _ => (c ≠ 0 → t.eff K) → NtM E K B W)
    ?_ ?_ ?_ ?_ ?_ ?_ ?_ ?_ ?_ ?_ ?_ ?_ ?_ ?_ ?_ ?_ ?_ h
  · intro R a s mn mx lz ix nm n B _
    exact (NtM.self B).map fun _ h => by simp only [Way.nt]; exact h
  · intro R a s mn mx lz ix nm n B _
    exact (NtM.self B).map fun _ h => by simp only [Way.nt]; exact h
  · intro R a s mn mx lz ix nm n B _
    exact (NtM.self B).map fun _ h => by simp only [Way.nt]; exact h
  · intro R a s mn mx lz ix nm n n' B W _ h hf
    simp only [Tn.eff] at hf
    exact h (hf.2 (by omega))
  · intro R a s mn mx lz ix nm n n' B Ws _ h hf A hb
    simp only [Tn.eff] at hf
    obtain ⟨A1, m1, h1⟩ := h (hf.2 (by omega)) A hb
    exact ⟨A1, m1, by simp only [Way.nt]; exact h1⟩
  · intro R a t mn mx lz i nm n n' B W _ h hf A hb
    simp only [Tn.eff, effL] at hf
    have hi : 2 * i + 1 < K := by have := hf.1 trivial; omega
    obtain ⟨A1, m1, h1⟩ := h (hf.2 (by omega)).1 A (by simp only [Way.nt]; exact ⟨hi, hb⟩)
    exact ⟨A1, m1, by simp only [Way.nt]; exact ⟨by omega, h1⟩⟩
  · intro R a t lz ix nm n n2 b B _ h hf A hb
    simp only [Tn.eff, effL] at hf
    obtain ⟨A1, m1, _, h1⟩ := (h (hf.2 (by omega)).1).round lz hb
    exact ⟨A1, m1, h1⟩
  · intro R a t c lz ix nm n n2 n3 b B W3 _ _ h hT hf
    simp only [Tn.eff, effL] at hf
    have he := (hf.2 (by omega)).1
    refine NtM.seq (fun A hb => ?_) (hT fun _ => he)
    obtain ⟨A1, m1, h1, _⟩ := (h he).round lz hb
    exact ⟨A1, m1, h1⟩
  · intro R a t c m lz ix nm n n1 n2 B W1 W2 _ _ hO hT hf
    simp only [Tn.eff, effL] at hf
    exact (hO fun h0 => (hf.2 (by omega)).1).seq (hT fun h0 => (hf.2 (by omega)).1)
  · intro n B _
    exact .self B
  · intro t ts n n1 n2 B W1 W2 _ _ h h2 hf
    simp only [effL] at hf
    exact (h hf.2).seq (h2 hf.1)
  · intro n B _ A hb
    exact ⟨A, .refl A, by simp [ntL]⟩
  · intro t ts n n1 n2 B W2 Ws _ _ hl hl2 hf A hb
    rw [effL_snoc] at hf
    obtain ⟨A1, m1, h1⟩ := hl hf.1 A hb
    obtain ⟨A2, m2, h2⟩ := hl2 hf.2 A1 (nt_mono m1.sub _ hb)
    exact ⟨A2, m1.trans m2, ntL_snoc h2 (ntL_mono m2.sub _ h1)⟩
  · intro t n W _
    exact .self W
  · intro t c n n1 n2 W W1 W2 _ _ h h2 hf
    have he := hf (by omega)
    exact (h fun _ => he).seq (h2 he)
  · intro t lz B n _
    exact .self B
  · intro t lz B c n n1 n2 W1 W2 _ _ h h2 hf A hb
    have he := hf (by omega)
    obtain ⟨A1, m1, h1⟩ := ((h fun _ => he).seq (h2 he)) A hb
    have hb1 := nt_mono m1.sub _ hb
    refine ⟨A1, m1, ?_⟩
    simp only [Way.nt]
    cases lz <;> simp [ntL, h1, hb1]
end
/-- THE CAPTURES of groups that do not count are not set -/
theorem PS.unset {t : Tn} {K K' : Nat} {tx : List Int} {p : Nat} {l : List (Int × List Int)} (h : PS t K' tx p l) (hK : 2 ≤ K) (hf : t.eff K) : ∀ e ∈ l, ∀ k, K ≤ k → e.2.getD k (-1) = -1 := by
  obtain ⟨E, W, n1, s', hB, hE, hg, hx, rfl⟩ := h.ex
  obtain ⟨A, hM, hc⟩ := hB.notes hf (fun _ => False) (by simp [Way.nt])
  refine ex_bare (A := A) (fun b hb => ?_) hK hx hc ?_ (fun e he => by cases he)
  · rcases hM.new b hb with h | h
    · exact h.elim
    · exact h
  · refine Bare.set (fun k hk => ?_) (by omega) _
    simp only [List.getD_eq_getElem?_getD, List.getElem?_replicate]
    split <;> simp
/- how great the indices of an unfolded tree are -/
theorem giL_le {G : Int} : ∀ (ts : List Tn) (m : Int), giL ts m ≤ G ↔ m ≤ G ∧ ∀ t ∈ ts, t.gi ≤ G := by
  intro ts
  induction ts with
  | nil => intro m; simp [giL]
  | cons t ts ih =>
    intro m
    simp only [giL, ih, List.mem_cons]
    constructor
    · rintro ⟨h1, h2⟩
      refine ⟨by omega, fun u hu => ?_⟩
      rcases hu with rfl | hu
      · omega
      · exact h2 u hu
    · rintro ⟨h1, h2⟩
      have := h2 t (.inl rfl)
      exact ⟨by omega, fun u hu => h2 u (.inr hu)⟩
theorem gi_loopN {x : Tn} {mn mx : Int} {lz : Bool} {G : Int} : (loopN x mn mx lz).gi ≤ G ↔ 0 ≤ G ∧ x.gi ≤ G := by
  simp only [loopN, Tn.gi, giL_le]
  simp
theorem gi_rowN {l : List Tn} {G : Int} (hG : 0 ≤ G) : (rowN l).gi ≤ G ↔ ∀ x ∈ l, x.gi ≤ G := by
  match l with
  | [] => simp [rowN, Tn.gi, giL, hG]
  | [x] => simp [rowN]
  | x :: y :: l => simp only [rowN, Tn.gi, giL_le, hG, true_and]
theorem gi_optN {x : Tn} {lz : Bool} {G : Int} (hG : 0 ≤ G) : ∀ k, (optN x lz k).gi ≤ G ↔ x.gi ≤ G := by
  intro k
  induction k with
  | zero => simp only [optN, gi_loopN, hG, true_and]
  | succ k ih =>
    simp only [optN, gi_loopN, hG, true_and, gi_rowN hG]
    simp [ih]
theorem gi_sprN {x : Tn} {mn mx : Int} {lz : Bool} {G : Int} (hG : 0 ≤ G) (h0 : 0 ≤ mn) (hx : mx = -1 ∨ mn ≤ mx) : (x.gi ≤ G → (sprN x mn mx lz).gi ≤ G) ∧ (mx ≠ 0 → (sprN x mn mx lz).gi ≤ G → x.gi ≤ G) := by
  unfold sprN
  by_cases c0 : mx < 0
  · rw [if_pos c0]
    by_cases c1 : mn < 2
    · rw [if_pos c1]
      simp only [gi_loopN, hG, true_and]
      exact ⟨fun h => h, fun _ h => h⟩
    · rw [if_neg c1]
      simp only [gi_rowN hG, List.mem_append, List.mem_singleton, List.mem_replicate]
      refine ⟨fun h y hy => ?_, fun _ h => ?_⟩
      · rcases hy with ⟨_, rfl⟩ | rfl
        · exact h
        · exact gi_loopN.2 ⟨hG, h⟩
      · exact (gi_loopN.1 (h _ (.inr rfl))).2
  · rw [if_neg c0]
    simp only [gi_rowN hG, List.mem_append, List.mem_replicate]
    refine ⟨fun h y hy => ?_, fun hne h => ?_⟩
    · rcases hy with ⟨_, rfl⟩ | hy
      · exact h
      · split at hy
        · simp only [List.mem_singleton] at hy
          subst hy
          exact (gi_optN hG _).2 h
        · cases hy
    · by_cases c2 : mn < mx
      · rw [if_pos c2] at h
        exact (gi_optN hG _).1 (h _ (.inr (List.mem_singleton.2 rfl)))
      · exact h x (.inl ⟨by omega, rfl⟩)
mutual
theorem spread_gi : ∀ (t : Tn), t.fine = true → ∀ (G : Int), 0 ≤ G → (t.gi ≤ G → t.spread.gi ≤ G) ∧ (t.spread.gi ≤ G → t.eff (2 * G + 2).toNat)
  | .mk k R a s mn mx lz ix nm, hf, G, hG => by
    simp only [Tn.fine, Bool.and_eq_true] at hf
    have FN := fine_nodeZ hf.1
    obtain ⟨i1, i2⟩ := spreadL_gi s hf.2 G hG
    by_cases h6 : k = 6
    · subst h6
      obtain ⟨q1, q2, q3, q4⟩ := FN.rep rfl
      match s, q1, i1, i2 with
      | [x], _, i1, i2 =>
      simp only [spreadL, List.mem_singleton, forall_eq] at i1 i2
      have e : (Tn.mk 6 R a [x] mn mx lz ix nm).spread = sprN x.spread mn mx lz := by simp [Tn.spread, spreadL]
      rw [e]
      obtain ⟨j1, j2⟩ := gi_sprN (x := x.spread) (lz := lz) hG q2 (by omega : mx = -1 ∨ mn ≤ mx)
      refine ⟨fun h => ?_, fun h => ?_⟩
      · simp only [Tn.gi, giL_le] at h
        exact j1 (i1 (h.2 x (by simp)))
      · simp only [Tn.eff]
        exact ⟨fun h => by omega, fun hn => i2 (j2 (fun h0 => hn (by simp [h0])) h)⟩
    · have e : (Tn.mk k R a s mn mx lz ix nm).spread = .mk k R a (spreadL s) mn mx lz ix nm := by simp [Tn.spread, h6]
      rw [e]
      simp only [Tn.gi, giL_le, Tn.eff]
      exact ⟨fun h => ⟨h.1, i1 h.2⟩, fun h => ⟨fun h7 => by have := (FN.grp h7).2; omega, fun _ => i2 h.2⟩⟩
theorem spreadL_gi : ∀ (ts : List Tn), fineL ts = true → ∀ (G : Int), 0 ≤ G → ((∀ t ∈ ts, t.gi ≤ G) → ∀ t ∈ spreadL ts, t.gi ≤ G) ∧ ((∀ t ∈ spreadL ts, t.gi ≤ G) → effL (2 * G + 2).toNat ts)
  | [], _, G, _ => by simp [spreadL, effL]
  | t :: ts, hf, G, hG => by
    simp only [fineL, Bool.and_eq_true] at hf
    obtain ⟨a1, a2⟩ := spread_gi t hf.1 G hG
    obtain ⟨b1, b2⟩ := spreadL_gi ts hf.2 G hG
    simp only [spreadL, List.mem_cons, forall_eq_or_imp, effL]
    exact ⟨fun h => ⟨a1 h.1, b1 h.2⟩, fun h => ⟨a2 h.1, b2 h.2⟩⟩
end
end Go.Proofs.Ytdidopgenhpakaa
/- HELPERS: a tree unfolded: it may be, its counts are x*, x+, x?, its nodes are few; its parses are there, and they are the tree's. -/
namespace Go.Proofs.Ytdidopgenhpakaa
open Go.RowKit
set_option linter.unusedVariables false
set_option linter.unusedSimpArgs false
theorem nb_loop (mn mx : Int) (lz : Bool) (h : mn = 0 ∧ mx = -1 ∨ mn = 1 ∧ mx = -1 ∨ mn = 0 ∧ mx = 1) : nodeB 6 [] 0 1 mn mx lz 0 ⟨#[]⟩ = true := by
  rcases h with ⟨rfl, rfl⟩ | ⟨rfl, rfl⟩ | ⟨rfl, rfl⟩ <;> simp [nodeB, bareB, ByteArray.toList, ByteArray.toList.loop, ByteArray.size]
theorem nb_empty : nodeB 1 [] 0 0 0 0 false 0 ⟨#[]⟩ = true := by simp [nodeB, bareB, ByteArray.toList, ByteArray.toList.loop, ByteArray.size]
theorem nb_cat (n : Nat) (h : 2 ≤ n) : nodeB 4 [] 0 n 0 0 false 0 ⟨#[]⟩ = true := by simp [nodeB, bareB, ByteArray.toList, ByteArray.toList.loop, ByteArray.size, h]
theorem fineL_allx : ∀ {l : List Tn}, (∀ x ∈ l, x.fine = true) → fineL l = true
  | [], _ => rfl
  | t :: ts, h => by simp only [fineL, Bool.and_eq_true]; exact ⟨h t (List.mem_cons_self ..), fineL_allx fun x hx => h x (List.mem_cons_of_mem _ hx)⟩
theorem fine_row {l : List Tn} (h : ∀ x ∈ l, x.fine = true) : (rowN l).fine = true := by
  match l, h with
  | [], _ => simp only [rowN, Tn.fine, List.length_nil, nb_empty, fineL]; rfl
  | [x], h => exact h x (by simp)
  | x :: y :: l, h =>
    simp only [rowN, Tn.fine, Bool.and_eq_true]
    exact ⟨nb_cat _ (by simp), fineL_allx h⟩
theorem fine_loop {x : Tn} (h : x.fine = true) {mn mx : Int} (lz : Bool) (hm : mn = 0 ∧ mx = -1 ∨ mn = 1 ∧ mx = -1 ∨ mn = 0 ∧ mx = 1) : (loopN x mn mx lz).fine = true := by
  simp only [loopN, Tn.fine, List.length_cons, List.length_nil, Bool.and_eq_true, fineL, h]
  exact ⟨nb_loop mn mx lz hm, by trivial⟩
theorem fine_opt {x : Tn} (h : x.fine = true) (lz : Bool) : ∀ k, (optN x lz k).fine = true
  | 0 => fine_loop h lz (.inr (.inr ⟨rfl, rfl⟩))
  | k + 1 => fine_loop (fine_row fun y hy => by simp at hy; rcases hy with rfl | rfl; exact h; exact fine_opt h lz k) lz (.inr (.inr ⟨rfl, rfl⟩))
theorem fine_spr {x : Tn} (h : x.fine = true) {mn mx : Int} (lz : Bool) (h0 : 0 ≤ mn) : (sprN x mn mx lz).fine = true := by
  unfold sprN
  split
  · split
    · exact fine_loop h lz (by omega)
    · refine fine_row fun y hy => ?_
      rcases List.mem_append.1 hy with hy | hy
      · rw [List.eq_of_mem_replicate hy]; exact h
      · simp at hy; rw [hy]; exact fine_loop h lz (.inr (.inl ⟨rfl, rfl⟩))
  · refine fine_row fun y hy => ?_
    rcases List.mem_append.1 hy with hy | hy
    · rw [List.eq_of_mem_replicate hy]; exact h
    · split at hy
      · simp at hy; rw [hy]; exact fine_opt h lz _
      · cases hy
mutual
/-- the counts are x*, x+, x? -/
def Tn.sfT : Tn → Prop
  | .mk k R a s mn mx lz ix nm => (k = 6 → (mn = 0 ∧ mx = -1 ∨ mn = 1 ∧ mx = -1) ∨ mn = 0 ∧ mx = 1) ∧ sfTL s
def sfTL : List Tn → Prop
  | [] => True
  | t :: ts => t.sfT ∧ sfTL ts
end
theorem sfTL_all : ∀ {l : List Tn}, (∀ x ∈ l, x.sfT) → sfTL l
  | [], _ => trivial
  | t :: ts, h => ⟨h t (List.mem_cons_self ..), sfTL_all fun x hx => h x (List.mem_cons_of_mem _ hx)⟩
theorem sf_row {l : List Tn} (h : ∀ x ∈ l, x.sfT) : (rowN l).sfT := by
  match l, h with
  | [], _ => simp only [rowN, Tn.sfT, sfTL]; exact ⟨fun h => absurd h (by decide), trivial⟩
  | [x], h => exact h x (by simp)
  | x :: y :: l, h =>
    simp only [rowN, Tn.sfT]
    exact ⟨fun h => absurd h (by decide), sfTL_all h⟩
theorem sf_loop {x : Tn} (h : x.sfT) {mn mx : Int} (lz : Bool) (hm : mn = 0 ∧ mx = -1 ∨ mn = 1 ∧ mx = -1 ∨ mn = 0 ∧ mx = 1) : (loopN x mn mx lz).sfT := by
  simp only [loopN, Tn.sfT, sfTL]
  exact ⟨fun _ => by omega, h, trivial⟩
theorem sf_opt {x : Tn} (h : x.sfT) (lz : Bool) : ∀ k, (optN x lz k).sfT
  | 0 => sf_loop h lz (.inr (.inr ⟨rfl, rfl⟩))
  | k + 1 => sf_loop (sf_row fun y hy => by simp at hy; rcases hy with rfl | rfl; exact h; exact sf_opt h lz k) lz (.inr (.inr ⟨rfl, rfl⟩))
theorem sf_spr {x : Tn} (h : x.sfT) {mn mx : Int} (lz : Bool) (h0 : 0 ≤ mn) : (sprN x mn mx lz).sfT := by
  unfold sprN
  split
  · split
    · exact sf_loop h lz (by omega)
    · refine sf_row fun y hy => ?_
      rcases List.mem_append.1 hy with hy | hy
      · rw [List.eq_of_mem_replicate hy]; exact h
      · simp at hy; rw [hy]; exact sf_loop h lz (.inr (.inl ⟨rfl, rfl⟩))
  · refine sf_row fun y hy => ?_
    rcases List.mem_append.1 hy with hy | hy
    · rw [List.eq_of_mem_replicate hy]; exact h
    · split at hy
      · simp at hy; rw [hy]; exact sf_opt h lz _
      · cases hy
mutual
theorem spread_ok : ∀ (t : Tn), t.fine = true → t.spread.fine = true ∧ t.spread.sfT
  | .mk k R a s mn mx lz ix nm, h => by
    simp only [Tn.fine, Bool.and_eq_true] at h
    have hF := fine_nodeZ h.1
    obtain ⟨i1, i2⟩ := spreadL_ok s h.2
    by_cases hk : k = 6
    · obtain ⟨q1, q2, q3, q4⟩ := hF.rep hk
      obtain ⟨x, rfl⟩ : ∃ t, s = [t] := List.length_eq_one_iff.1 q1
      simp only [Tn.spread, hk, if_true, spreadL]
      simp only [spreadL, fineL, sfTL, Bool.and_eq_true] at i1 i2
      exact ⟨fine_spr i1.1 lz q2, sf_spr i2.1 lz q2⟩
    · simp only [Tn.spread, if_neg hk, Tn.fine, Tn.sfT, Bool.and_eq_true]
      refine ⟨⟨?_, i1⟩, fun e => absurd e hk, i2⟩
      rw [spreadL_map, List.length_map]
      exact h.1
theorem spreadL_ok : ∀ (ts : List Tn), fineL ts = true → fineL (spreadL ts) = true ∧ sfTL (spreadL ts)
  | [], _ => ⟨rfl, trivial⟩
  | t :: ts, h => by
    simp only [fineL, Bool.and_eq_true] at h
    obtain ⟨a1, a2⟩ := spread_ok t h.1
    obtain ⟨b1, b2⟩ := spreadL_ok ts h.2
    simp only [spreadL, fineL, sfTL, Bool.and_eq_true]
    exact ⟨⟨a1, b1⟩, a2, b2⟩
end
theorem nodes_row (l : List Tn) : (rowN l).nodes ≤ 1 + nodesL l := by
  match l with
  | [] => simp [rowN, Tn.nodes, nodesL]
  | [x] => simp [rowN, nodesL]
  | x :: y :: l => simp [rowN, Tn.nodes]
theorem nodes_repl (x : Tn) : ∀ c, nodesL (List.replicate c x) = c * x.nodes
  | 0 => by simp [nodesL]
  | c + 1 => by rw [List.replicate_succ, nodesL, nodes_repl x c, Nat.succ_mul]; omega
theorem nodes_loop (x : Tn) (mn mx : Int) (lz : Bool) : (loopN x mn mx lz).nodes = 1 + x.nodes := by simp [loopN, Tn.nodes, nodesL]
theorem nodes_opt (x : Tn) (lz : Bool) : ∀ k, (optN x lz k).nodes ≤ (k + 1) * x.nodes + 2 * k + 1
  | 0 => by rw [optN, nodes_loop]; omega
  | k + 1 => by
    have h1 := nodes_opt x lz k
    have h2 := nodes_row [x, optN x lz k]
    rw [optN, nodes_loop]
    simp only [nodesL] at h2
    rw [Nat.succ_mul (k + 1)]
    omega
theorem nodes_spr {x : Tn} {n : Nat} (hx : x.nodes + 2 ≤ 3 * n) {mn mx : Int} (lz : Bool) (h0 : 0 ≤ mn) (h1 : mx = -1 ∨ mn ≤ mx) : (sprN x mn mx lz).nodes + 2 ≤ 3 * repN mn mx n := by
  unfold sprN repN
  by_cases c : mx < 0
  · have hm : mx = -1 := by omega
    rw [if_pos c, if_pos hm]
    split
    · rw [nodes_loop]
      have h3 : max mn.toNat 1 = 1 := by omega
      rw [h3]
      omega
    · have h2 := nodes_row (List.replicate (mn - 1).toNat x ++ [loopN x 1 (-1) lz])
      rw [nodesL_app, nodes_repl] at h2
      simp only [nodesL, nodes_loop] at h2
      have h3 : max mn.toNat 1 = (mn - 1).toNat + 1 := by omega
      rw [h3]
      generalize (mn - 1).toNat = c at *
      have h4 := Nat.mul_le_mul_left c hx
      have h5 : c * (x.nodes + 2) = c * x.nodes + 2 * c := by rw [Nat.mul_add]; omega
      have h6 : c * (3 * n) = 3 * (c * n) := by rw [Nat.mul_left_comm]
      have h7 : (c + 1) * n = c * n + n := Nat.succ_mul _ _
      rw [h5, h6] at h4
      rw [h7]
      clear h5 h6 h7
      generalize c * x.nodes = A at *
      generalize c * n = C at *
      omega
  · have hm : ¬ mx = -1 := by omega
    rw [if_neg c, if_neg hm]
    have h4 := Nat.mul_le_mul_left mn.toNat hx
    have h5 : mn.toNat * (x.nodes + 2) = mn.toNat * x.nodes + 2 * mn.toNat := by rw [Nat.mul_add]; omega
    have h6 : mn.toNat * (3 * n) = 3 * (mn.toNat * n) := by rw [Nat.mul_left_comm]
    rw [h5, h6] at h4
    by_cases d : mn < mx
    · rw [if_pos d]
      have h2 := nodes_row (List.replicate mn.toNat x ++ [optN x lz (mx - mn - 1).toNat])
      rw [nodesL_app, nodes_repl] at h2
      simp only [nodesL] at h2
      have h7 := nodes_opt x lz (mx - mn - 1).toNat
      have e : (mx - mn).toNat = (mx - mn - 1).toNat + 1 := by omega
      rw [e]
      generalize (mx - mn - 1).toNat = k at *
      have h8 := Nat.mul_le_mul_left (k + 1) hx
      have h9 : (k + 1) * (x.nodes + 2) = (k + 1) * x.nodes + 2 * (k + 1) := by rw [Nat.mul_add]; omega
      have h10 : (k + 1) * (3 * n) = 3 * ((k + 1) * n) := by rw [Nat.mul_left_comm]
      have h11 : (k + 1) * (1 + n) = (k + 1) + (k + 1) * n := by rw [Nat.mul_add]; omega
      rw [h9, h10] at h8
      rw [h11]
      generalize (k + 1) * x.nodes = A at *
      generalize (k + 1) * n = C at *
      generalize mn.toNat * x.nodes = A' at *
      generalize mn.toNat * n = C' at *
      omega
    · rw [if_neg d, List.append_nil]
      have e : (mx - mn).toNat = 0 := by omega
      rw [e]
      rcases Nat.lt_or_ge mn.toNat 2 with g | g
      · rcases Nat.lt_or_ge mn.toNat 1 with g' | g'
        · have : mn.toNat = 0 := by omega
          rw [this]; simp [rowN, Tn.nodes, nodesL]
        · have : mn.toNat = 1 := by omega
          rw [this]; simp [rowN]; omega
      · have h2 := nodes_row (List.replicate mn.toNat x)
        rw [nodes_repl] at h2
        generalize mn.toNat * x.nodes = A' at *
        generalize mn.toNat * n = C' at *
        omega
mutual
theorem spread_nodes : ∀ (t : Tn), t.fine = true → t.spread.nodes + 2 ≤ 3 * t.sz
  | .mk k R a s mn mx lz ix nm, h => by
    simp only [Tn.fine, Bool.and_eq_true] at h
    have hF := fine_nodeZ h.1
    have i1 := spreadL_nodes s h.2
    by_cases hk : k = 6
    · obtain ⟨q1, q2, q3, q4⟩ := hF.rep hk
      obtain ⟨x, rfl⟩ : ∃ t, s = [t] := List.length_eq_one_iff.1 q1
      simp only [spreadL, nodesL, szL, List.length_cons, List.length_nil] at i1
      simp only [Tn.spread, Tn.sz, hk, if_true, spreadL]
      exact nodes_spr (by simp only [szL]; omega) lz q2 (by omega)
    · simp only [Tn.spread, if_neg hk, Tn.nodes, Tn.sz]
      omega
theorem spreadL_nodes : ∀ (ts : List Tn), fineL ts = true → nodesL (spreadL ts) + 2 * ts.length ≤ 3 * szL ts
  | [], _ => by simp [spreadL, nodesL, szL]
  | t :: ts, h => by
    simp only [fineL, Bool.and_eq_true] at h
    have h1 := spread_nodes t h.1
    have h2 := spreadL_nodes ts h.2
    simp only [spreadL, nodesL, szL, List.length_cons]
    omega
end
/-- a way to begin is there -/
structure BX (t : Nat) (n : Int) (lo : Nat) (n' : Int) (lo' : Nat) (LE : List (Nat × Way)) : Prop where
  n1 : n ≤ n' ∧ n' ≤ n + 2 * (t : Int)
  l1 : lo ≤ lo'
  ke : ∀ p ∈ LE, lo ≤ p.1 ∧ p.1 < lo'
  nd : (LE.map Prod.fst).Nodup
  wf : ∀ p ∈ LE, Gw p.2 ∧ p.2.ua = []
theorem BX.nil (t : Nat) (n : Int) (lo : Nat) : BX t n lo n lo [] := ⟨⟨by omega, by omega⟩, Nat.le_refl _, fun p h => (by cases h), (by simp), fun p h => (by cases h)⟩
theorem BX.one {n : Int} {lo : Nat} (t : Nat) (h : 1 ≤ t) : BX t n lo (n + 1) lo [] := ⟨⟨by omega, by omega⟩, Nat.le_refl _, fun p h => (by cases h), (by simp), fun p h => (by cases h)⟩
theorem BX.seq {t u v : Nat} {n n1 n2 : Int} {lo lo1 lo2 : Nat} {LE LE' : List (Nat × Way)} (h : BX t n lo n1 lo1 LE) (h' : BX u n1 lo1 n2 lo2 LE') (hv : t + u ≤ v) : BX v n lo n2 lo2 (LE ++ LE') := by
  have a1 := h.n1
  have a2 := h'.n1
  have b1 := h.l1
  have b2 := h'.l1
  refine ⟨⟨by omega, by omega⟩, by omega, fun p hp => ?_, ?_, fun p hp => ?_⟩
  · rcases List.mem_append.1 hp with hp | hp
    · have := h.ke p hp; omega
    · have := h'.ke p hp; omega
  · rw [List.map_append, List.nodup_append]
    refine ⟨h.nd, h'.nd, fun x hx y hy => ?_⟩
    obtain ⟨p, hp, rfl⟩ := List.mem_map.1 hx
    obtain ⟨q, hq, rfl⟩ := List.mem_map.1 hy
    have := h.ke p hp
    have := h'.ke q hq
    omega
  · rcases List.mem_append.1 hp with hp | hp
    · exact h.wf p hp
    · exact h'.wf p hp
theorem BX.more {t u : Nat} {n n1 n2 : Int} {lo lo1 : Nat} {LE : List (Nat × Way)} (h : BX t n lo n1 lo1 LE) (h1 : n1 ≤ n2 ∧ n2 ≤ n1 + 2 * ((u : Int) - (t : Int))) : BX u n lo n2 lo1 LE := by
  have := h.n1
  exact ⟨⟨by omega, by omega⟩, h.l1, h.ke, h.nd, h.wf⟩
/-- a loop more -/
theorem BX.loop {t u : Nat} {n n2 : Int} {lo lo1 : Nat} {LE : List (Nat × Way)} {W : Way} (h : BX t (n + 1) (lo + 1) n2 lo1 LE) (hu : t + 1 ≤ u) (hW : Gw W ∧ W.ua = []) : BX u n lo n2 lo1 ((lo, W) :: LE) := by
  have a1 := h.n1
  have b1 := h.l1
  refine ⟨⟨by omega, by omega⟩, by omega, fun p hp => ?_, ?_, fun p hp => ?_⟩
  · rcases List.mem_cons.1 hp with rfl | hp
    · exact ⟨Nat.le_refl _, by show lo < lo1; omega⟩
    · have := h.ke p hp; omega
  · rw [List.map_cons, List.nodup_cons]
    refine ⟨fun hx => ?_, h.nd⟩
    obtain ⟨p, hp, e⟩ := List.mem_map.1 hx
    have := h.ke p hp
    simp only at e
    omega
  · rcases List.mem_cons.1 hp with rfl | hp
    · exact hW
    · exact h.wf p hp
theorem app_all {LE LE' : List (Nat × Way)} {E : Nat → Way} (h : ∀ p ∈ LE ++ LE', E p.1 = p.2) : (∀ p ∈ LE, E p.1 = p.2) ∧ ∀ p ∈ LE', E p.1 = p.2 := ⟨fun p hp => h p (List.mem_append.2 (.inl hp)), fun p hp => h p (List.mem_append.2 (.inr hp))⟩
theorem right_few {R : List (Int × Int)} (h : rightB R = true) : R.length ≤ 1000000 := by
  simp only [rightB, Bool.and_eq_true, decide_eq_true_eq] at h
  omega
mutual
theorem beg_ex : ∀ (t : Tn), t.fine = true → t.sfT → ∀ (n : Int) (B : Way) (lo : Nat), 0 ≤ n → n + 2 * (t.nodes : Int) ≤ 900000000 → Gw B → ∃ n' W lo' LE, BX t.nodes n lo n' lo' LE ∧ Gw W ∧ W.ua = [] ∧ ∀ E : Nat → Way, (∀ p ∈ LE, E p.1 = p.2) → Beg E t n B n' W
  | .mk k R a s mn mx lz ix nm, hf, hs, n, B, lo, hn, hb, hB => by
    simp only [Tn.fine, Bool.and_eq_true] at hf
    simp only [Tn.sfT] at hs
    simp only [Tn.nodes] at hb ⊢
    have hF := fine_nodeZ hf.1
    rcases hF.kind with rfl | rfl | rfl | rfl | rfl | rfl | rfl
    · exact ⟨n + 1, .once (n + 1) B, lo, [], .one _ (by omega), hB.once (by omega) (by omega), by simp [Way.ua], fun E _ => .empty⟩
    · exact ⟨n + 1, .once (n + 1) (.runeOf R B), lo, [], .one _ (by omega), (hB.runeOf (right_few (hF.cls rfl))).once (by omega) (by omega), by simp [Way.ua], fun E _ => .cls⟩
    · exact ⟨n + 1, .once (n + 1) (.ifHolds a B), lo, [], .one _ (by omega), hB.ifHolds.once (by omega) (by omega), by simp [Way.ua], fun E _ => .ast⟩
    · obtain ⟨n', W, lo', LE, h1, h2, h3, h4⟩ := begC_ex s hf.2 hs.2 n B lo hn (by omega) hB
      have := h1.n1
      exact ⟨n', W, lo', LE, h1.more ⟨by omega, by omega⟩, h2, h3 (by have := hF.two (.inl rfl); intro e; rw [e] at this; simp at this), fun E hE => .cat (h4 E hE)⟩
    · obtain ⟨n', Ws, lo', LE, h1, h2, h4⟩ := begA_ex s hf.2 hs.2 [] n n B lo lo [] [] 0 hn (by omega) hB (.nil 0 n lo) .nil (fun E _ => .nil)
      rw [Nat.zero_add] at h1
      have := h1.n1
      exact ⟨n' + 1, .once (n' + 1) (.inOrder Ws), lo', LE, h1.more ⟨by omega, by omega⟩, (Gw.inOrder h2).once (by omega) (by omega), by simp [Way.ua], fun E hE => .alt (h4 E hE)⟩
    · obtain ⟨q1, q2, q3, q4⟩ := hF.rep rfl
      obtain ⟨t, rfl⟩ : ∃ t, s = [t] := List.length_eq_one_iff.1 q1
      simp only [fineL, sfTL, Bool.and_eq_true, nodesL] at hf hs hb ⊢
      rcases hs.1 trivial with hm | ⟨rfl, rfl⟩
      · obtain ⟨n2, W2, lo2, LE2, h1, h2, h3, h4⟩ := beg_ex t hf.2.1 hs.2.1 (n + 1) (Dcd lz n lo B) (lo + 1) (by omega) (by omega) ((Gw.pair hB (.again lo)).once (by omega) (by omega))
        have hx : BX (1 + (t.nodes + 0)) n lo n2 lo2 ((lo, W2) :: LE2) := h1.loop (by omega) ⟨h2, h3⟩
        rcases hm with ⟨rfl, rfl⟩ | ⟨rfl, rfl⟩
        · refine ⟨n2, Dcd lz n lo B, lo2, _, hx, (Gw.pair hB (.again lo)).once (by omega) (by omega), by simp [Way.ua], fun E hE => .any0 ?_⟩
          have e : E lo = W2 := hE (lo, W2) (List.mem_cons_self ..)
          rw [e]
          exact h4 E fun p hp => hE p (List.mem_cons_of_mem _ hp)
        · refine ⟨n2, W2, lo2, _, hx, h2, h3, fun E hE => ?_⟩
          have e : E lo = W2 := hE (lo, W2) (List.mem_cons_self ..)
          have h5 := h4 E fun p hp => hE p (List.mem_cons_of_mem _ hp)
          rw [← e] at h5 ⊢
          exact Beg.any (c := 0) h5 .zero
      · obtain ⟨n2, W2, lo2, LE2, h1, h2, h3, h4⟩ := beg_ex t hf.2.1 hs.2.1 n B lo hn (by omega) hB
        have := h1.n1
        refine ⟨n2 + 1, .once (n2 + 1) (.inOrder (if lz = true then [B, W2] else [W2, B])), lo2, LE2, h1.more ⟨by omega, by omega⟩, (Gw.pair hB h2).once (by omega) (by omega), by simp [Way.ua], fun E hE => ?_⟩
        exact Beg.bnd (c := 0) (m := 1) (.succ .zero (h4 E hE)) .zero
    · obtain ⟨q1, q2, q3⟩ := hF.grp rfl
      obtain ⟨t, rfl⟩ : ∃ t, s = [t] := List.length_eq_one_iff.1 q1
      simp only [fineL, sfTL, Bool.and_eq_true, nodesL] at hf hs hb ⊢
      obtain ⟨i, rfl⟩ := Int.eq_ofNat_of_zero_le (show 0 ≤ ix by omega)
      obtain ⟨n', W, lo', LE, h1, h2, h3, h4⟩ := beg_ex t hf.2.1 hs.2.1 n (.noted (2 * i + 1) B) lo hn (by omega) hB.noted
      have := h1.n1
      exact ⟨n' + 1, .once (n' + 1) (.noted (2 * i) W), lo', LE, h1.more ⟨by omega, by omega⟩, h2.noted.once (by omega) (by omega), by simp [Way.ua], fun E hE => .grp (h4 E hE)⟩
theorem begC_ex : ∀ (ts : List Tn), fineL ts = true → sfTL ts → ∀ (n : Int) (B : Way) (lo : Nat), 0 ≤ n → n + 2 * (nodesL ts : Int) ≤ 900000000 → Gw B → ∃ n' W lo' LE, BX (nodesL ts) n lo n' lo' LE ∧ Gw W ∧ (ts ≠ [] → W.ua = []) ∧ ∀ E : Nat → Way, (∀ p ∈ LE, E p.1 = p.2) → BegC E ts n B n' W
  | [], hf, hs, n, B, lo, hn, hb, hB => ⟨n, B, lo, [], .nil _ _ _, hB, fun h => absurd rfl h, fun E _ => .nil⟩
  | t :: ts, hf, hs, n, B, lo, hn, hb, hB => by
    simp only [fineL, Bool.and_eq_true] at hf
    simp only [sfTL] at hs
    simp only [nodesL] at hb ⊢
    obtain ⟨n1, W1, lo1, LE1, h1, h2, h3, h4⟩ := begC_ex ts hf.2 hs.2 n B lo hn (by omega) hB
    have a1 := h1.n1
    obtain ⟨n2, W2, lo2, LE2, g1, g2, g3, g4⟩ := beg_ex t hf.1 hs.1 n1 W1 lo1 (by omega) (by omega) h2
    exact ⟨n2, W2, lo2, LE1 ++ LE2, h1.seq g1 (by omega), g2, fun _ => g3, fun E hE => .cons (h4 E (app_all hE).1) (g4 E (app_all hE).2)⟩
theorem begA_ex : ∀ (ts : List Tn), fineL ts = true → sfTL ts → ∀ (us : List Tn) (n n0 : Int) (B : Way) (lo lo0 : Nat) (Ws : List Way) (LE : List (Nat × Way)) (c : Nat), 0 ≤ n → n + 2 * (nodesL ts : Int) ≤ 900000000 → Gw B → BX c n0 lo0 n lo LE → GwL Ws → (∀ E : Nat → Way, (∀ p ∈ LE, E p.1 = p.2) → BegA E us n0 B n Ws) →
    ∃ n' Ws' lo' LE', BX (c + nodesL ts) n0 lo0 n' lo' LE' ∧ GwL Ws' ∧ ∀ E : Nat → Way, (∀ p ∈ LE', E p.1 = p.2) → BegA E (us ++ ts) n0 B n' Ws'
  | [], hf, hs, us, n, n0, B, lo, lo0, Ws, LE, c, hn, hb, hB, hX, hW, hA => ⟨n, Ws, lo, LE, by simp only [nodesL, Nat.add_zero]; exact hX, hW, fun E hE => by rw [List.append_nil]; exact hA E hE⟩
  | t :: ts, hf, hs, us, n, n0, B, lo, lo0, Ws, LE, c, hn, hb, hB, hX, hW, hA => by
    simp only [fineL, Bool.and_eq_true] at hf
    simp only [sfTL] at hs
    simp only [nodesL] at hb ⊢
    obtain ⟨n1, W1, lo1, LE1, g1, g2, g3, g4⟩ := beg_ex t hf.1 hs.1 n B lo hn (by omega) hB
    have a1 := g1.n1
    obtain ⟨n2, Ws2, lo2, LE2, k1, k2, k3⟩ := begA_ex ts hf.2 hs.2 (us ++ [t]) n1 n0 B lo1 lo0 (Ws ++ [W1]) (LE ++ LE1) (c + t.nodes) (by omega) (by omega) hB (hX.seq g1 (Nat.le_refl _)) (hW.snoc g2) (fun E hE => .snoc (hA E (app_all hE).1) (g4 E (app_all hE).2))
    refine ⟨n2, Ws2, lo2, LE2, by rw [← Nat.add_assoc]; exact k1, k2, fun E hE => ?_⟩
    have := k3 E hE
    rw [List.append_assoc] at this
    exact this
end
/-- the parses of such a tree are there -/
theorem PS.of_sf {t : Tn} (hf : t.fine = true) (hs : t.sfT) (hn : t.nodes ≤ 400000000) (K : Nat) (tx : List Int) (p : Nat) (hp : p ≤ tx.length) : ∃ l, PS t K tx p l := by
  have h1 : Gw (.once 1 .through) := ⟨by simp only [Way.tg]; exact ⟨⟨by omega, by omega⟩, .inl ⟨trivial, trivial⟩⟩, by simp only [Way.few]⟩
  obtain ⟨n1, W, lo, LE, hX, hW, _, hE⟩ := beg_ex t hf hs 1 (.once 1 .through) 0 (by omega) (by omega) h1
  have hEg := envOf_good LE hX.wf
  obtain ⟨s', hx, _⟩ := good_all (tx := tx) (E := envOf LE) (top := 1000000000) (fun b => ⟨(hEg b).1.tg, (hEg b).2⟩) _ ⟨[], (List.replicate K (-1)).set 0 (p : Int), []⟩ W p (Nat.le_refl _) hW.tg hp
  exact ⟨s'.parses, ⟨envOf LE, W, n1, s', hE (envOf LE) (envOf_mem LE hX.nd), hEg, hW, hx, rfl⟩⟩
/-- a tree unfolded has its parses -/
theorem PS.spread_eq {t : Tn} {K : Nat} {tx : List Int} {p : Nat} {l m : List (Int × List Int)} (h : PS t.spread K tx p l) (h' : PS t K tx p m) : l = m := by
  obtain ⟨E, W, n1, s1, hB, hE, hg, hx, rfl⟩ := h.ex
  obtain ⟨E', W', n1', s1', hB', hE', hg', hx', rfl⟩ := h'.ex
  obtain ⟨G0, hG0⟩ : ∃ G0 : Mat, G0 = ⟨fun a a' => a = 1 ∧ a' = 1, fun _ _ => False, fun _ _ => False, fun _ => .through, false, Eq, Eq⟩ := ⟨_, rfl⟩
  obtain ⟨G, hI, hgr, hS, h0, hH⟩ := beg_spread hB' _ _ _ _ hB G0 (by rw [hG0]) (by rw [hG0]; exact ⟨fun a a' h => by simp at h; omega, fun _ _ h => h.elim, fun a a' m m' h1 h2 => by simp at h1 h2; omega, fun _ _ _ h => h.elim, fun _ _ _ h => h.elim⟩) (by rw [hG0]; exact .once ⟨rfl, rfl⟩ .through) ⟨1, by rw [hG0]; exact .once (n' := 1) ⟨rfl, rfl⟩⟩
  have hnr : G.NR = Eq := by rw [hgr.nr, hG0]
  have hpr : G.PR = Eq := by rw [hgr.pr, hG0]
  have hdr : G.drop = false := by rw [hgr.dr, hG0]
  have hok : G.Ok E E' := by
    refine ⟨hI.one, hI.noC, hI.oneX, fun b b' hb => ?_, fun c x ν ν' hd hn => ?_, fun c x ν ν' hd _ => (by rw [hdr] at hd; cases hd), fun q ν ν' a b hn h => ?_⟩
    · rcases hgr.new b b' hb with hb | hb
      · rw [hG0] at hb; exact hb.elim
      · exact hb
    · rw [hnr] at hn ⊢; rw [hn]
    · rw [hpr] at h ⊢
      rw [hnr] at hn
      rw [hn, h]
  obtain ⟨s2, hx2, hA⟩ := sim_ex hok hx W' ⟨[], (List.replicate K (-1)).set 0 (p : Int), []⟩ NoP hS ⟨fun a a' q _ => by simp, fun m n0 q _ hm => by simp at hm, by rw [hnr], by rw [hpr]⟩ (Pend.no _ _)
  have e := hx'.det hx2
  subst e
  have := hA.pr
  rw [hpr] at this
  exact this
end Go.Proofs.Ytdidopgenhpakaa
/- HELPERS: a tree unfolded and its simple form do the same. -/
namespace Go.Proofs.Ytdidopgenhpakaa
open Go.RowKit
set_option linter.unusedVariables false
set_option linter.unusedSimpArgs false
/-- things ahead of a way that do nothing -/
inductive Wrp (n : Int) (B : Way) : Int → Way → Prop
  | one : Wrp n B (n + 1) (.once (n + 1) B)
  | more {n1 : Int} {W : Way} (h : Wrp n B n1 W) : Wrp n B (n1 + 1) (.once (n1 + 1) W)
section
variable {E E' : Nat → Way} {n n1 n2 n' n1' n2' : Int} {B W V B' W' V' : Way}
theorem Wrp.seq (h : Wrp n B n1 W) (h' : Wrp n1 W n2 V) : Wrp n B n2 V := by
  induction h' with
  | one => exact .more h
  | more _ ih => exact .more ih
theorem Wrp.left (h : Wrp n B n1 W) (n' : Int) (B' : Way) : SMu E E' n B n1 W n' B' n' B' := by
  induction h with
  | one => exact (SMu.self _ _ _ _).extra
  | more _ ih => exact ih.extra
theorem Wrp.pair (h : Wrp n B n1 W) (n' : Int) (B' : Way) : SMu E E' n B n1 W n' B' (n' + 1) (.once (n' + 1) B') := by
  induction h with
  | one => exact SMu.pair fun G hI hS _ => ⟨G, hI, .refl _ _ _, hS⟩
  | more _ ih => exact ih.extra
/-- alternatives that stand among others -/
def AlO (E E' : Nat → Way) (n : Int) (B : Way) (n1 : Int) (W : Way) (n' : Int) (B' : Way) (n1' : Int) (Ws' : List Way) : Prop :=
  ∀ G, Miu n n' G → Siu G B B' → (∃ h, Hdu G B h) → ∃ G' M, Miu n1 n1' G' ∧ Gru E E' n n' G n1 n1' G' ∧ SiF G' M W Ws' ∧ M.Nodup ∧ ∀ m ∈ M, n < m ∧ m ≤ n1 ∧ G'.free m
theorem AlO.wrap {Ws' : List Way} (h : AlO E E' n B n1 W n' B' n1' Ws') : AlO E E' n B (n1 + 1) (.once (n1 + 1) W) n' B' n1' Ws' := fun G hI hS hH => by
  obtain ⟨G1, M, i1, g1, s1, hM, hf⟩ := h G hI hS hH
  refine ⟨G1, (n1 + 1) :: M, i1.wide (by omega) (Int.le_refl _), g1.trans (.wide _ _ _ (by omega) (Int.le_refl _)) i1, .wrap s1, List.nodup_cons.2 ⟨fun hm => by have := (hf _ hm).2.1; omega, hM⟩, fun m hm => ?_⟩
  rcases List.mem_cons.1 hm with rfl | hm
  · exact ⟨by have := g1.l1; omega, Int.le_refl _, i1.new (by omega)⟩
  · exact ⟨(hf m hm).1, by have := (hf m hm).2.1; omega, (hf m hm).2.2⟩
theorem AlO.wraps {Ws' : List Way} (h : AlO E E' n B n1 W n' B' n1' Ws') (hw : Wrp n1 W n2 V) : AlO E E' n B n2 V n' B' n1' Ws' := by
  induction hw with
  | one => exact h.wrap
  | more _ ih => exact ih.wrap
theorem AlO.pre {Ws' : List Way} (h : SMu E E' n B n1 W n' B' n1' W') (h' : AlO E E' n1 W n2 V n1' W' n2' Ws') : AlO E E' n B n2 V n' B' n2' Ws' := fun G hI hS hH => by
  obtain ⟨G1, i1, g1, s1, d1⟩ := h G hI hS hH
  obtain ⟨G2, M, i2, g2, s2, hM, hf⟩ := h' G1 i1 s1 d1
  exact ⟨G2, M, i2, g1.trans g2 i1, s2, hM, fun m hm => ⟨by have := (hf m hm).1; have := g1.l1; omega, (hf m hm).2⟩⟩
/-- a tree and its simple form do the same -/
structure Gp (E E' : Nat → Way) (a u : Tn) : Prop where
  nf : Nf u
  sb : ∀ {n n1 n' n1' : Int} {B W B' W' : Way}, Beg E a n B n1 W → Beg E' u n' B' n1' W' → SMu E E' n B n1 W n' B' n1' W'
  em : u.kind = 1 → ∀ {n n1 : Int} {B W : Way}, Beg E a n B n1 W → Wrp n B n1 W
  al : u.kind = 5 → ∀ {n n1 n' n1' : Int} {B W B' : Way} {Ws' : List Way}, Beg E a n B n1 W → BegA E' u.subs n' B' n1' Ws' → AlO E E' n B n1 W n' B' n1' Ws'
theorem begC_app {xs ys : List Tn} (h : BegC E (xs ++ ys) n B n2 V) : ∃ n1 W, BegC E ys n B n1 W ∧ BegC E xs n1 W n2 V := by
  induction xs generalizing n2 V with
  | nil => exact ⟨n2, V, h, .nil⟩
  | cons x xs ih =>
    obtain ⟨n1, W, h1, h2⟩ := BegC.first h
    obtain ⟨n0, W0, h3, h4⟩ := ih h1
    exact ⟨n0, W0, h3, .cons h4 h2⟩
theorem begA_app {xs : List Tn} : ∀ {ys : List Tn} {n n2 : Int} {B : Way} {Ws : List Way}, BegA E (xs ++ ys.reverse) n B n2 Ws → ∃ n1 Ws1 Ws2, Ws = Ws1 ++ Ws2 ∧ BegA E xs n B n1 Ws1 ∧ BegA E ys.reverse n1 B n2 Ws2
  | [], n, n2, B, Ws, h => ⟨n2, Ws, [], by simp, by simpa using h, .nil⟩
  | y :: ys, n, n2, B, Ws, h => by
    rw [List.reverse_cons, ← List.append_assoc] at h
    obtain ⟨n1, Ws1, W, rfl, h1, h2⟩ := h.last
    obtain ⟨n0, Wa, Wb, rfl, h3, h4⟩ := begA_app (ys := ys) h1
    exact ⟨n0, Wa, Wb ++ [W], by simp, h3, by rw [List.reverse_cons]; exact .snoc h4 h2⟩
theorem begA_app' {xs ys : List Tn} {Ws : List Way} (h : BegA E (xs ++ ys) n B n2 Ws) : ∃ n1 Ws1 Ws2, Ws = Ws1 ++ Ws2 ∧ BegA E xs n B n1 Ws1 ∧ BegA E ys n1 B n2 Ws2 := by
  have h' : BegA E (xs ++ ys.reverse.reverse) n B n2 Ws := by rw [List.reverse_reverse]; exact h
  have := begA_app h'
  rw [List.reverse_reverse] at this
  exact this
theorem begA_one {u : Tn} {Ws : List Way} (h : BegA E [u] n B n2 Ws) : ∃ W, Ws = [W] ∧ Beg E u n B n2 W := by
  obtain ⟨n1, Ws1, W, rfl, h1, h2⟩ := BegA.last (ts := []) h
  obtain ⟨rfl, rfl⟩ := h1.none
  exact ⟨W, rfl, h2⟩
theorem begC_sole {u : Tn} (h : BegC E [u] n B n2 V) : Beg E u n B n2 V := by
  obtain ⟨n1, W, h1, h2⟩ := BegC.first h
  obtain ⟨rfl, rfl⟩ := h1.none
  exact h2
theorem nf_jn_nil {u : Tn} (h : Nf u) (hj : jn u = []) : u.kind = 1 := by
  unfold jn at hj
  split at hj
  · assumption
  · unfold within at hj
    split at hj
    · rename_i h1 h4
      cases h with
      | leaf hk _ => simp [Tn.kind] at h4; omega
      | cat h2 _ _ => simp [Tn.subs] at hj; rw [hj] at h2; simp at h2
      | alt _ _ _ => simp [Tn.kind] at h4
      | loop _ _ => simp [Tn.kind] at h4
      | grp _ _ => simp [Tn.kind] at h4
    · cases hj
theorem nf_jn_one {u v : Tn} (h : Nf u) (hj : jn u = [v]) : u = v := by
  unfold jn at hj
  split at hj
  · cases hj
  · unfold within at hj
    split at hj
    · rename_i h1 h4
      cases h with
      | leaf hk _ => simp [Tn.kind] at h4; omega
      | cat h2 _ _ => simp [Tn.subs] at hj; rw [hj] at h2; simp at h2
      | alt _ _ _ => simp [Tn.kind] at h4
      | loop _ _ => simp [Tn.kind] at h4
      | grp _ _ => simp [Tn.kind] at h4
    · simpa using hj
theorem nf_jn_mem {u v : Tn} (h : Nf u) (hv : v ∈ jn u) : v.kind ≠ 1 := by
  unfold jn at hv
  split at hv
  · cases hv
  · rename_i h1
    unfold within at hv
    split at hv
    · rename_i h4
      cases h with
      | leaf hk _ => simp [Tn.kind] at h4; omega
      | cat _ h2 _ => exact (h2 v hv).1
      | alt _ _ _ => simp [Tn.kind] at h4
      | loop _ _ => simp [Tn.kind] at h4
      | grp _ _ => simp [Tn.kind] at h4
    · simp at hv
      rw [hv]; exact h1
theorem beg_jn {u : Tn} (h : Nf u) (h1 : u.kind ≠ 1) (hb : BegC E (jn u) n B n2 V) : Beg E u n B n2 V := by
  unfold jn at hb
  rw [if_neg h1] at hb
  unfold within at hb
  split at hb
  · rename_i h4
    cases h with
    | leaf hk _ => simp [Tn.kind] at h4; omega
    | cat _ _ _ => exact .cat hb
    | alt _ _ _ => simp [Tn.kind] at h4
    | loop _ _ => simp [Tn.kind] at h4
    | grp _ _ => simp [Tn.kind] at h4
  · exact begC_sole hb
/-- trees one behind another, and what they are in a JOIN -/
theorem sc (P : List (Tn × Tn)) (hP : ∀ x ∈ P, Gp E E' x.1 x.2) : ∀ {n n1 n' n1' : Int} {B W B' W' : Way}, BegC E (P.map Prod.fst) n B n1 W → BegC E' (P.flatMap fun x => jn x.2) n' B' n1' W' → SMu E E' n B n1 W n' B' n1' W' := by
  induction P with
  | nil =>
    intro n n1 n' n1' B W B' W' h h'
    obtain ⟨rfl, rfl⟩ := h.none
    obtain ⟨rfl, rfl⟩ := BegC.none h'
    exact .self _ _ _ _
  | cons x P ih =>
    intro n n1 n' n1' B W B' W' h h'
    rw [List.map_cons] at h
    rw [List.flatMap_cons] at h'
    obtain ⟨m, V, h1, h2⟩ := h.first
    obtain ⟨m', V', h3, h4⟩ := begC_app h'
    have hx := hP x (List.mem_cons_self ..)
    refine (ih (fun y hy => hP y (List.mem_cons_of_mem _ hy)) h1 h3).seq ?_
    by_cases h0 : x.2.kind = 1
    · have e : jn x.2 = [] := by unfold jn; rw [if_pos h0]
      rw [e] at h4
      obtain ⟨rfl, rfl⟩ := h4.none
      exact (hx.em h0 h2).left _ _
    · exact hx.sb h2 (beg_jn hx.nf h0 h4)
/-- nothing but what is empty -/
theorem wrpC (P : List (Tn × Tn)) (hP : ∀ x ∈ P, Gp E E' x.1 x.2 ∧ x.2.kind = 1) : ∀ {n n1 : Int} {B W : Way}, BegC E (P.map Prod.fst) n B n1 W → (P = [] ∧ n1 = n ∧ W = B) ∨ Wrp n B n1 W := by
  induction P with
  | nil =>
    intro n n1 B W h
    obtain ⟨rfl, rfl⟩ := h.none
    exact .inl ⟨rfl, rfl, rfl⟩
  | cons x P ih =>
    intro n n1 B W h
    rw [List.map_cons] at h
    obtain ⟨m, V, h1, h2⟩ := h.first
    have hx := hP x (List.mem_cons_self ..)
    have h3 := hx.1.em hx.2 h2
    rcases ih (fun y hy => hP y (List.mem_cons_of_mem _ hy)) h1 with ⟨_, rfl, rfl⟩ | h4
    · exact .inr h3
    · exact .inr (h4.seq h3)
theorem flat_one {P : List (Tn × Tn)} {v : Tn} (h : (P.flatMap fun x => jn x.2) = [v]) : ∃ P1 x P2, P = P1 ++ x :: P2 ∧ (∀ y ∈ P1, jn y.2 = []) ∧ (∀ y ∈ P2, jn y.2 = []) ∧ jn x.2 = [v] := by
  induction P with
  | nil => cases h
  | cons x P ih =>
    rw [List.flatMap_cons] at h
    by_cases h0 : jn x.2 = []
    · rw [h0, List.nil_append] at h
      obtain ⟨P1, y, P2, rfl, h1, h2, h3⟩ := ih h
      exact ⟨x :: P1, y, P2, rfl, fun z hz => by rcases List.mem_cons.1 hz with rfl | hz; exact h0; exact h1 z hz, h2, h3⟩
    · rw [List.append_eq_singleton_iff] at h
      rcases h with ⟨h1, _⟩ | ⟨h1, h2⟩
      · exact absurd h1 h0
      · refine ⟨[], x, P, rfl, fun z hz => (by cases hz), fun z hz => ?_, h1⟩
        rw [List.flatMap_eq_nil_iff] at h2
        exact h2 z hz
theorem joinU_kind {us : List Tn} : us = [] ∨ (∃ v, us = [v] ∧ joinU us = v) ∨ joinU us = zN 4 us := by
  match us with
  | [] => exact .inl rfl
  | [v] => exact .inr (.inl ⟨v, rfl, rfl⟩)
  | a :: b :: s => exact .inr (.inr rfl)
/-- A JOIN -/
theorem gp_join {a : Tn} (P : List (Tn × Tn)) (h0 : P ≠ []) (hP : ∀ x ∈ P, Gp E E' x.1 x.2) (ha : ∀ {n n1 : Int} {B W : Way}, Beg E a n B n1 W → BegC E (P.map Prod.fst) n B n1 W) (hn : Nf (joinU (P.flatMap fun x => jn x.2))) : Gp E E' a (joinU (P.flatMap fun x => jn x.2)) := by
  have hemp : (P.flatMap fun x => jn x.2) = [] → ∀ {n n1 : Int} {B W : Way}, Beg E a n B n1 W → Wrp n B n1 W := fun he n n1 B W h => by
    rw [List.flatMap_eq_nil_iff] at he
    rcases wrpC P (fun x hx => ⟨hP x hx, nf_jn_nil (hP x hx).nf (he x hx)⟩) (ha h) with ⟨h1, _⟩ | h1
    · exact absurd h1 h0
    · exact h1
  have hmem : ∀ v ∈ (P.flatMap fun x => jn x.2), v.kind ≠ 1 := fun v hv => by
    obtain ⟨x, hx, hv⟩ := List.mem_flatMap.1 hv
    exact nf_jn_mem (hP x hx).nf hv
  refine ⟨hn, fun h h' => ?_, fun hk => ?_, fun hk => ?_⟩
  · rcases joinU_kind (us := P.flatMap fun x => jn x.2) with he | ⟨v, he, hv⟩ | hv
    · rw [he] at h'
      obtain ⟨rfl, rfl⟩ := Beg.empties h'
      exact (hemp he h).pair _ _
    · rw [hv] at h'
      exact sc P hP (ha h) (by rw [he]; exact .cons .nil h')
    · rw [hv] at h'
      exact sc P hP (ha h) h'.cats
  · refine hemp ?_
    rcases joinU_kind (us := P.flatMap fun x => jn x.2) with he | ⟨v, he, hv⟩ | hv
    · exact he
    · rw [hv] at hk
      exact absurd hk (hmem v (by rw [he]; simp))
    · rw [hv] at hk
      simp [Tn.kind] at hk
  · rcases joinU_kind (us := P.flatMap fun x => jn x.2) with he | ⟨v, he, hv⟩ | hv
    · rw [he] at hk
      simp [joinU, Tn.kind] at hk
    · intro n n1 n' n1' B W B' Ws' h h'
      rw [hv] at h' hk
      obtain ⟨P1, x, P2, rfl, h1, h2, h3⟩ := flat_one he
      have hx := hP x (by simp)
      have ex := nf_jn_one hx.nf h3
      have hb := ha h
      rw [List.map_append, List.map_cons] at hb
      obtain ⟨m1, V1, hb1, hb2⟩ := begC_app hb
      obtain ⟨m0, V0, hb3, hb4⟩ := hb1.first
      have hA : AlO E E' m0 V0 m1 V1 n' B' n1' Ws' := hx.al (by rw [ex]; exact hk) hb4 (by rw [ex]; exact h')
      have hB : AlO E E' n B m1 V1 n' B' n1' Ws' := by
        rcases wrpC P2 (fun y hy => ⟨hP y (by simp [hy]), nf_jn_nil (hP y (by simp [hy])).nf (h2 y hy)⟩) hb3 with ⟨_, rfl, rfl⟩ | hw
        · exact hA
        · exact AlO.pre (hw.left n' B') hA
      rcases wrpC P1 (fun y hy => ⟨hP y (by simp [hy]), nf_jn_nil (hP y (by simp [hy])).nf (h1 y hy)⟩) hb2 with ⟨_, rfl, rfl⟩ | hw
      · exact hB
      · exact hB.wraps hw
    · rw [hv] at hk
      simp [Tn.kind] at hk
theorem begC_row {l : List Tn} (h0 : l ≠ []) (h : Beg E (rowN l) n B n1 W) : BegC E l n B n1 W := by
  match l, h0, h with
  | [x], _, h => exact .cons .nil h
  | x :: y :: l, _, h => exact Beg.cats h
end
end Go.Proofs.Ytdidopgenhpakaa
/- HELPERS: a tree and its simple form have the same parses. -/
namespace Go.Proofs.Ytdidopgenhpakaa
open Go.RowKit
set_option linter.unusedVariables false
set_option linter.unusedSimpArgs false
section
variable {E E' : Nat → Way} {n n1 n2 n' n1' n2' : Int} {B W V B' W' V' : Way}
theorem SiL.app {G : Mau} {M N : List Int} {l l' k k' : List Way} (h : SiL G M l l') (h' : SiL G N k k') : SiL G (M ++ N) (l ++ k) (l' ++ k') := by
  induction l generalizing M l' with
  | nil =>
    cases h
    exact h'
  | cons d l ih =>
    cases h with
    | cons h t => exact .cons h (ih t)
    | flat h t =>
      rw [List.append_assoc, List.append_assoc]
      exact .flat h (ih t)
theorem snocRec {α : Type} {C : List α → Prop} (h0 : C []) (h1 : ∀ l x, C l → C (l ++ [x])) : ∀ l, C l := fun l => by
  rw [← List.reverse_reverse l]
  induction l.reverse with
  | nil => exact h0
  | cons x m ih => rw [List.reverse_cons]; exact h1 _ _ ih
/-- alternatives -/
theorem sa (P : List (Tn × Tn)) : (∀ x ∈ P, Gp E E' x.1 x.2) → ∀ {n n1 n' n1' : Int} {B B' : Way} {Ws Ws' : List Way}, BegA E (P.map Prod.fst) n B n1 Ws → BegA E' (P.flatMap fun x => within 5 x.2) n' B' n1' Ws' →
    ∀ G, Miu n n' G → Siu G B B' → (∃ h, Hdu G B h) → ∃ G' M, Miu n1 n1' G' ∧ Gru E E' n n' G n1 n1' G' ∧ SiL G' M Ws Ws' ∧ M.Nodup ∧ ∀ m ∈ M, n < m ∧ m ≤ n1 ∧ G'.free m := by
  refine snocRec (C := fun P => (∀ x ∈ P, Gp E E' x.1 x.2) → ∀ {n n1 n' n1' : Int} {B B' : Way} {Ws Ws' : List Way}, BegA E (P.map Prod.fst) n B n1 Ws → BegA E' (P.flatMap fun x => within 5 x.2) n' B' n1' Ws' →
    ∀ G, Miu n n' G → Siu G B B' → (∃ h, Hdu G B h) → ∃ G' M, Miu n1 n1' G' ∧ Gru E E' n n' G n1 n1' G' ∧ SiL G' M Ws Ws' ∧ M.Nodup ∧ ∀ m ∈ M, n < m ∧ m ≤ n1 ∧ G'.free m) ?_ ?_ P
  · intro hP n n1 n' n1' B B' Ws Ws' h h' G hI hS hH
    obtain ⟨rfl, rfl⟩ := BegA.none h
    obtain ⟨rfl, rfl⟩ := BegA.none h'
    exact ⟨G, [], hI, .refl _ _ _, .nil, List.nodup_nil, fun m hm => by cases hm⟩
  · intro P x ih hP n n1 n' n1' B B' Ws Ws' h h' G hI hS hH
    rw [List.map_append, List.map_cons, List.map_nil] at h
    rw [List.flatMap_append, List.flatMap_cons, List.flatMap_nil, List.append_nil] at h'
    obtain ⟨m, Wa, V, rfl, h1, h2⟩ := h.last
    obtain ⟨m', Wa', Wb', rfl, h3, h4⟩ := begA_app' h'
    have hx := hP x (by simp)
    obtain ⟨G1, M1, i1, g1, s1, hM1, hf1⟩ := ih (fun y hy => hP y (by simp [hy])) h1 h3 G hI hS hH
    have hS1 := g1.sim hI hS
    have hH1 : ∃ h, Hdu G1 B h := by obtain ⟨h0, hh⟩ := hH; exact ⟨h0, hh.up g1.c g1.x⟩
    by_cases h5 : x.2.kind = 5
    · have e : within 5 x.2 = x.2.subs := by unfold within; rw [if_pos h5]
      rw [e] at h4
      obtain ⟨G2, M2, i2, g2, s2, hM2, hf2⟩ := hx.al h5 h2 h4 G1 i1 hS1 hH1
      refine ⟨G2, M1 ++ (M2 ++ []), i2, g1.trans g2 i1, (g2.simL i1 s1).app ?_, ?_, fun y hy => ?_⟩
      · have := SiL.flat s2 SiL.nil
        rw [List.append_nil Wb'] at this
        exact this
      · rw [List.append_nil, List.nodup_append]
        exact ⟨hM1, hM2, fun a ha b hb e => by have := (hf1 a ha).2.1; have := (hf2 b hb).1; omega⟩
      · rw [List.append_nil] at hy
        rcases List.mem_append.1 hy with hy | hy
        · exact ⟨(hf1 y hy).1, by have := (hf1 y hy).2.1; have := g2.l1; omega, g2.fr y (hf1 y hy).2.1 (hf1 y hy).2.2⟩
        · exact ⟨by have := (hf2 y hy).1; have := g1.l1; omega, (hf2 y hy).2⟩
    · have e : within 5 x.2 = [x.2] := by unfold within; rw [if_neg h5]
      rw [e] at h4
      obtain ⟨V', rfl, h4'⟩ := begA_one h4
      obtain ⟨G2, i2, g2, s2, _⟩ := hx.sb h2 h4' G1 i1 hS1 hH1
      refine ⟨G2, M1 ++ [], i2, g1.trans g2 i1, (g2.simL i1 s1).app (.cons s2 .nil), by rw [List.append_nil]; exact hM1, fun y hy => ?_⟩
      rw [List.append_nil] at hy
      exact ⟨(hf1 y hy).1, by have := (hf1 y hy).2.1; have := g2.l1; omega, g2.fr y (hf1 y hy).2.1 (hf1 y hy).2.2⟩
/-- x? -/
theorem gp_quest {a u : Tn} (lz : Bool) (h : Gp E E' a u) : Gp E E' (loopN a 0 1 lz) (loopT 0 1 lz u) := by
  refine ⟨.loop (.inl ⟨rfl, rfl⟩) h.nf, fun h1 h2 => ?_, fun hk => by simp [Tn.kind] at hk, fun hk => by simp [Tn.kind] at hk⟩
  obtain ⟨t, e, h1⟩ := Beg.rep h1
  simp only [List.cons.injEq, and_true] at e
  subst e
  obtain ⟨t, e, h2⟩ := Beg.rep h2
  simp only [List.cons.injEq, and_true] at e
  subst e
  rcases h1 with ⟨b, _, e, _⟩ | ⟨b, c, n2, _, e, _⟩ | ⟨c, m, k1, W1, e1, e2, hO, hT⟩
  · exact absurd e (by decide)
  · exact absurd e (by decide)
  rcases h2 with ⟨b, _, e, _⟩ | ⟨b, c, n2, _, e, _⟩ | ⟨c', m', k1', W1', e1', e2', hO', hT'⟩
  · exact absurd e (by decide)
  · exact absurd e (by decide)
  obtain rfl : c = 0 := by omega
  obtain rfl : c' = 0 := by omega
  obtain rfl : m = 1 := by omega
  obtain rfl : m' = 1 := by omega
  obtain ⟨rfl, rfl⟩ := hT.none
  obtain ⟨rfl, rfl⟩ := hT'.none
  obtain ⟨q1, q2, V1, V2, rfl, rfl, o1, o2⟩ := hO.next
  obtain ⟨q1', q2', V1', V2', rfl, rfl, o1', o2'⟩ := hO'.next
  obtain ⟨rfl, rfl⟩ := o1.none
  obtain ⟨rfl, rfl⟩ := o1'.none
  exact (h.sb o2 o2').two
/-- x*, x+ -/
theorem gp_star {a u : Tn} (lz : Bool) (h : Gp E E' a u) : Gp E E' (loopN a 0 (-1) lz) (loopT 0 (-1) lz u) := by
  refine ⟨.loop (.inr (.inl ⟨rfl, rfl⟩)) h.nf, fun h1 h2 => ?_, fun hk => by simp [Tn.kind] at hk, fun hk => by simp [Tn.kind] at hk⟩
  obtain ⟨t, e, h1⟩ := Beg.rep h1
  simp only [List.cons.injEq, and_true] at e
  subst e
  obtain ⟨t, e, h2⟩ := Beg.rep h2
  simp only [List.cons.injEq, and_true] at e
  subst e
  rcases h1 with ⟨b, _, _, r1, rfl⟩ | ⟨b, c, n2, e, _⟩ | ⟨c, m, k1, W1, e1, e2, hO, hT⟩
  rotate_left
  · omega
  · omega
  rcases h2 with ⟨b', _, _, r2, rfl⟩ | ⟨b, c, n2, e, _⟩ | ⟨c', m', k1', W1', e1', e2', hO', hT'⟩
  rotate_left
  · omega
  · omega
  intro G hI hS hH
  obtain ⟨G1, i1, g1, _, s1, _, d1⟩ := (h.sb r1 r2).round G hI hS
  exact ⟨G1, i1, g1, s1, d1⟩
theorem gp_plus {a u : Tn} (lz : Bool) (h : Gp E E' a u) : Gp E E' (loopN a 1 (-1) lz) (loopT 1 (-1) lz u) := by
  refine ⟨.loop (.inr (.inr ⟨rfl, rfl⟩)) h.nf, fun h1 h2 => ?_, fun hk => by simp [Tn.kind] at hk, fun hk => by simp [Tn.kind] at hk⟩
  obtain ⟨t, e, h1⟩ := Beg.rep h1
  simp only [List.cons.injEq, and_true] at e
  subst e
  obtain ⟨t, e, h2⟩ := Beg.rep h2
  simp only [List.cons.injEq, and_true] at e
  subst e
  rcases h1 with ⟨b, e, _⟩ | ⟨b, c, n2, e, _, r1, t1⟩ | ⟨c, m, k1, W1, e1, e2, hO, hT⟩
  · exact absurd e (by decide)
  rotate_left
  · omega
  rcases h2 with ⟨b', e, _⟩ | ⟨b', c', n2', e', _, r2, t2⟩ | ⟨c', m', k1', W1', e1', e2', hO', hT'⟩
  · exact absurd e (by decide)
  rotate_left
  · omega
  obtain rfl : c = 0 := by omega
  obtain rfl : c' = 0 := by omega
  obtain ⟨rfl, rfl⟩ := t1.none
  obtain ⟨rfl, rfl⟩ := t2.none
  intro G hI hS hH
  obtain ⟨G1, i1, g1, s1, _, d1, _⟩ := (h.sb r1 r2).round G hI hS
  exact ⟨G1, i1, g1, s1, d1⟩
theorem map_pair {α : Type} (f : α → Tn) (g : α → Tn) (l : List α) : (l.map fun x => (f x, g x)).map Prod.fst = l.map f ∧ ((l.map fun x => (f x, g x)).flatMap fun x => jn x.2) = (l.map g).flatMap jn := by
  constructor
  · simp
  · rw [List.flatMap_map, List.flatMap_map]
theorem gp_opt {x y : Tn} (lz : Bool) (h : Gp E E' x y) : ∀ k, Gp E E' (optN x lz k) (optT y lz (k + 1))
  | 0 => gp_quest lz h
  | k + 1 => by
    have ih := gp_opt lz h k
    have e : joinT [(y, 1), (optT y lz (k + 1), 1)] = joinU ([(x, y), (optN x lz k, optT y lz (k + 1))].flatMap fun z => jn z.2) := by
      rw [← joinT_runs 1 h.nf ih.nf, joinT_jn]
      · simp
      · intro z hz
        simp at hz
        rcases hz with rfl | rfl
        · exact h.nf
        · exact ih.nf
    have hn := nf_opt lz h.nf (k + 2)
    show Gp E E' (loopN (rowN [x, optN x lz k]) 0 1 lz) (loopT 0 1 lz (joinT [(y, 1), (optT y lz (k + 1), 1)]))
    refine gp_quest lz ?_
    have hn2 : Nf (joinT [(y, 1), (optT y lz (k + 1), 1)]) := by
      have : Nf (loopT 0 1 lz (joinT [(y, 1), (optT y lz (k + 1), 1)])) := hn
      cases this with
      | loop _ hy => exact hy
    rw [e] at hn2 ⊢
    refine gp_join _ (by simp) (fun z hz => ?_) (fun hb => ?_) hn2
    · simp at hz
      rcases hz with rfl | rfl
      · exact h
      · exact ih
    · exact begC_row (by simp) hb
/-- a row of copies, and something behind -/
theorem gp_rep {x y o v : Tn} (c : Nat) (h : Gp E E' x y) (ho : Gp E E' o v) (hn : Nf (joinT [(y, c), (v, 1)])) : Gp E E' (rowN (List.replicate c x ++ [o])) (joinT [(y, c), (v, 1)]) := by
  have e : joinT [(y, c), (v, 1)] = joinU ((List.replicate c (x, y) ++ [(o, v)]).flatMap fun z => jn z.2) := by
    rw [← joinT_runs c h.nf ho.nf, joinT_jn]
    · simp [List.flatMap_append, List.flatMap_replicate]
    · intro z hz
      rcases List.mem_append.1 hz with hz | hz
      · rw [List.eq_of_mem_replicate hz]; exact h.nf
      · simp at hz; rw [hz]; exact ho.nf
  rw [e] at hn ⊢
  refine gp_join _ (by simp) (fun z hz => ?_) (fun hb => ?_) hn
  · rcases List.mem_append.1 hz with hz | hz
    · rw [List.eq_of_mem_replicate hz]; exact h
    · simp at hz; rw [hz]; exact ho
  · rw [List.map_append, List.map_replicate]
    exact begC_row (by simp) hb
/-- a row of copies -/
theorem gp_reps {x y : Tn} (c : Nat) (h : Gp E E' x y) (hn : Nf (joinT [(y, c + 1), (emptyT, 1)])) : Gp E E' (rowN (List.replicate (c + 1) x)) (joinT [(y, c + 1), (emptyT, 1)]) := by
  have e : joinT [(y, c + 1), (emptyT, 1)] = joinU ((List.replicate (c + 1) (x, y)).flatMap fun z => jn z.2) := by
    rw [← joinT_runs (c + 1) h.nf nf_empty, joinT_jn]
    · rw [List.flatMap_append, List.flatMap_replicate, List.flatMap_replicate]
      simp [jn, Tn.kind]
    · intro z hz
      rcases List.mem_append.1 hz with hz | hz
      · rw [List.eq_of_mem_replicate hz]; exact h.nf
      · simp at hz; rw [hz]; exact nf_empty
  rw [e] at hn ⊢
  refine gp_join _ (by simp) (fun z hz => ?_) (fun hb => ?_) hn
  · rw [List.eq_of_mem_replicate hz]; exact h
  · rw [List.map_replicate]
    exact begC_row (by simp) hb
theorem gp_empty {R : List (Int × Int)} {a : Int} {s : List Tn} {mn mx : Int} {lz : Bool} {ix : Int} {nm : ByteArray} {u : Tn} (hu : u.kind = 1) (hn : Nf u) : Gp E E' (.mk 1 R a s mn mx lz ix nm) u := by
  refine ⟨hn, fun h1 h2 => ?_, fun _ n n1 B W h1 => ?_, fun hk => absurd (hu.symm.trans hk) (by decide)⟩
  · obtain ⟨k, R', a', s', mn', mx', lz', ix', nm'⟩ := u
    simp only [Tn.kind] at hu
    subst hu
    obtain ⟨rfl, rfl⟩ := h1.empties
    obtain ⟨rfl, rfl⟩ := h2.empties
    exact SMu.pair fun G hI hS _ => ⟨G, hI, .refl _ _ _, hS⟩
  · obtain ⟨rfl, rfl⟩ := h1.empties
    exact .one
theorem spr0 (x : Tn) (lz : Bool) : sprN x 0 (-1) lz = loopN x 0 (-1) lz := by simp [sprN]
theorem rep0 (y : Tn) (lz : Bool) : repT y 0 (-1) lz = loopT 0 (-1) lz y := by simp [repT]
theorem sprP (x : Tn) (c : Nat) (lz : Bool) : sprN x ((c : Int) + 1) (-1) lz = rowN (List.replicate c x ++ [loopN x 1 (-1) lz]) := by
  unfold sprN
  rw [if_pos (by omega)]
  cases c with
  | zero => simp [rowN]
  | succ c => rw [if_neg (by omega), show (((c + 1 : Nat) : Int) + 1 - 1).toNat = c + 1 by omega]
theorem repP (y : Tn) (c : Nat) (lz : Bool) : repT y ((c : Int) + 1) (-1) lz = joinT [(y, c), (loopT 1 (-1) lz y, 1)] := by
  unfold repT
  rw [if_neg (by simp), if_neg (by omega), show ((c : Int) + 1 - 1).toNat = c by omega]
theorem repB (y : Tn) (c k : Nat) (lz : Bool) : repT y (c : Int) ((c : Int) + (k : Int)) lz = joinT [(y, c), (optT y lz k, 1)] := by
  unfold repT
  rw [if_pos (by omega), show ((c : Int) + (k : Int) - (c : Int)).toNat = k by omega, show ((c : Int)).toNat = c by omega]
theorem sprB0 (x : Tn) (c : Nat) (lz : Bool) : sprN x (c : Int) (c : Int) lz = rowN (List.replicate c x) := by
  unfold sprN
  rw [if_neg (by omega), if_neg (by omega), List.append_nil, show ((c : Int)).toNat = c by omega]
theorem sprB (x : Tn) (c k : Nat) (lz : Bool) : sprN x (c : Int) ((c : Int) + ((k : Int) + 1)) lz = rowN (List.replicate c x ++ [optN x lz k]) := by
  unfold sprN
  rw [if_neg (by omega), if_pos (by omega), show ((c : Int)).toNat = c by omega, show ((c : Int) + ((k : Int) + 1) - (c : Int) - 1).toNat = k by omega]
theorem rowS_ones5 (l : List Tn) : rowS 5 (ones l) = l.flatMap (within 5) := by
  simp [rowS, ones, List.flatMap_map]
mutual
/-- A TREE UNFOLDED AND ITS SIMPLE FORM do the same -/
theorem gp_S : ∀ t : Tn, t.fine = true → Gp E E' t.spread t.S
  | .mk k R a s mn mx lz ix nm, hf0 => by
    have hN := nf_S _ hf0
    have hf := hf0
    simp only [Tn.fine, Bool.and_eq_true] at hf
    have hF := fine_nodeZ hf.1
    have ih := gp_SL s hf.2
    rcases hF.kind with rfl | rfl | rfl | rfl | rfl | rfl | rfl
    · have e : (Tn.mk 1 R a s mn mx lz ix nm).spread = .mk 1 R a (spreadL s) mn mx lz ix nm := by simp [Tn.spread]
      rw [e]
      exact gp_empty (by simp [Tn.S, Tn.kind]) hN
    · have e : (Tn.mk 2 R a s mn mx lz ix nm).spread = .mk 2 R a (spreadL s) mn mx lz ix nm := by simp [Tn.spread]
      have e' : (Tn.mk 2 R a s mn mx lz ix nm).S = .mk 2 R a [] mn mx lz ix nm := by simp [Tn.S]
      rw [e'] at hN
      rw [e, e']
      refine ⟨hN, fun h1 h2 => ?_, fun hk => by simp [Tn.kind] at hk, fun hk => by simp [Tn.kind] at hk⟩
      obtain ⟨rfl, rfl⟩ := h1.classes
      obtain ⟨rfl, rfl⟩ := h2.classes
      exact SMu.pair fun G hI hS _ => ⟨G, hI, .refl _ _ _, .runeOf hS⟩
    · have e : (Tn.mk 3 R a s mn mx lz ix nm).spread = .mk 3 R a (spreadL s) mn mx lz ix nm := by simp [Tn.spread]
      have e' : (Tn.mk 3 R a s mn mx lz ix nm).S = .mk 3 R a [] mn mx lz ix nm := by simp [Tn.S]
      rw [e'] at hN
      rw [e, e']
      refine ⟨hN, fun h1 h2 => ?_, fun hk => by simp [Tn.kind] at hk, fun hk => by simp [Tn.kind] at hk⟩
      obtain ⟨rfl, rfl⟩ := h1.asserts
      obtain ⟨rfl, rfl⟩ := h2.asserts
      exact SMu.pair fun G hI hS _ => ⟨G, hI, .refl _ _ _, .ifHolds hS⟩
    · have e : (Tn.mk 4 R a s mn mx lz ix nm).spread = .mk 4 R a (spreadL s) mn mx lz ix nm := by simp [Tn.spread]
      obtain ⟨m1, m2⟩ := map_pair Tn.spread Tn.S s
      have e' : (Tn.mk 4 R a s mn mx lz ix nm).S = joinU ((s.map fun x => (x.spread, x.S)).flatMap fun x => jn x.2) := by
        rw [m2, ← SL_map, ← joinT_jn (nf_SL s hf.2)]
        simp [Tn.S]
      rw [e'] at hN
      rw [e, e']
      refine gp_join _ ?_ (fun z hz => ?_) (fun hb => ?_) hN
      · have := hF.two (.inl rfl)
        intro h
        rw [List.map_eq_nil_iff] at h
        rw [h] at this
        simp at this
      · obtain ⟨t, ht, rfl⟩ := List.mem_map.1 hz
        exact ih t ht
      · rw [m1, ← spreadL_map]
        exact hb.cats
    · have e : (Tn.mk 5 R a s mn mx lz ix nm).spread = .mk 5 R a (spreadL s) mn mx lz ix nm := by simp [Tn.spread]
      obtain ⟨m1, _⟩ := map_pair Tn.spread Tn.S s
      have e' : (Tn.mk 5 R a s mn mx lz ix nm).S = zN 5 ((s.map fun x => (x.spread, x.S)).flatMap fun x => within 5 x.2) := by
        have : (Tn.mk 5 R a s mn mx lz ix nm).S = zN 5 (rowS 5 (ones (SL s))) := by simp [Tn.S]
        rw [this, rowS_ones5, SL_map, List.flatMap_map, List.flatMap_map]
      rw [e'] at hN
      rw [e, e']
      have hP : ∀ z ∈ (s.map fun x => (x.spread, x.S)), Gp E E' z.1 z.2 := fun z hz => by
        obtain ⟨t, ht, rfl⟩ := List.mem_map.1 hz
        exact ih t ht
      refine ⟨hN, fun h1 h2 => ?_, fun hk => by simp [Tn.kind] at hk, fun _ n n1 n' n1' B W B' Ws' h1 h2 => ?_⟩
      · obtain ⟨q, Ws, rfl, rfl, r1⟩ := h1.alts
        obtain ⟨q', Ws', rfl, rfl, r2⟩ := h2.alts
        rw [spreadL_map, ← m1] at r1
        exact SMu.alts (sa _ hP r1 r2)
      · obtain ⟨q, Ws, rfl, rfl, r1⟩ := h1.alts
        rw [spreadL_map, ← m1] at r1
        intro G hI hS hH
        obtain ⟨G1, M, i1, g1, s1, hM, hfr⟩ := sa _ hP r1 h2 G hI hS hH
        refine ⟨G1, (q + 1) :: M, i1.wide (by omega) (Int.le_refl _), g1.trans (.wide _ _ _ (by omega) (Int.le_refl _)) i1, .alt s1, List.nodup_cons.2 ⟨fun hm => by have := (hfr _ hm).2.1; omega, hM⟩, fun m hm => ?_⟩
        rcases List.mem_cons.1 hm with rfl | hm
        · exact ⟨by have := g1.l1; omega, Int.le_refl _, i1.new (by omega)⟩
        · exact ⟨(hfr m hm).1, by have := (hfr m hm).2.1; omega, (hfr m hm).2.2⟩
    · obtain ⟨q1, q2, q3, q4⟩ := hF.rep rfl
      obtain ⟨t, rfl⟩ : ∃ t, s = [t] := List.length_eq_one_iff.1 q1
      have h := ih t (by simp)
      have e : (Tn.mk 6 R a [t] mn mx lz ix nm).spread = sprN t.spread mn mx lz := by simp [Tn.spread, spreadL]
      have e' : (Tn.mk 6 R a [t] mn mx lz ix nm).S = repT t.S mn mx lz := by simp [Tn.S, SL]
      rw [e'] at hN
      rw [e, e']
      obtain ⟨c, rfl⟩ := Int.eq_ofNat_of_zero_le q2
      rcases q4 with rfl | ⟨q4, _⟩
      · cases c with
        | zero =>
          show Gp E E' (sprN t.spread 0 (-1) lz) (repT t.S 0 (-1) lz)
          rw [spr0, rep0]
          exact gp_star lz h
        | succ c =>
          have e1 := sprP t.spread c lz
          have e2 := repP t.S c lz
          rw [show ((c + 1 : Nat) : Int) = (c : Int) + 1 by omega] at hN ⊢
          rw [e2] at hN
          rw [e1, e2]
          exact gp_rep _ h (gp_plus lz h) hN
      · obtain ⟨k, rfl⟩ : ∃ k : Nat, mx = (c : Int) + (k : Int) := ⟨(mx - c).toNat, by omega⟩
        have e2 := repB t.S c k lz
        rw [e2] at hN
        rw [e2]
        cases k with
        | zero =>
          have e1 := sprB0 t.spread c lz
          rw [show (c : Int) + ((0 : Nat) : Int) = (c : Int) by omega, e1]
          cases c with
          | zero => exact gp_empty (by simp [optT, joinT, List.filter, keep, joinK, timesOf, Tn.kind]) hN
          | succ c => exact gp_reps c h hN
        | succ k =>
          have e1 := sprB t.spread c k lz
          rw [show (c : Int) + ((k + 1 : Nat) : Int) = (c : Int) + ((k : Int) + 1) by omega, e1]
          exact gp_rep _ h (gp_opt lz h k) hN
    · obtain ⟨q1, q2, q3⟩ := hF.grp rfl
      obtain ⟨t, rfl⟩ : ∃ t, s = [t] := List.length_eq_one_iff.1 q1
      have h := ih t (by simp)
      have e : (Tn.mk 7 R a [t] mn mx lz ix nm).spread = .mk 7 R a [t.spread] mn mx lz ix nm := by simp [Tn.spread, spreadL]
      have e' : (Tn.mk 7 R a [t] mn mx lz ix nm).S = .mk 7 [] 0 [t.S] 0 0 false ix nm := by simp [Tn.S, SL]
      rw [e'] at hN
      rw [e, e']
      refine ⟨hN, fun h1 h2 => ?_, fun hk => by simp [Tn.kind] at hk, fun hk => by simp [Tn.kind] at hk⟩
      obtain ⟨u, i, m1, W1, e1, e2, rfl, rfl, r1⟩ := h1.group
      obtain ⟨u', i', m1', W1', e1', e2', rfl, rfl, r1'⟩ := h2.group
      simp only [List.cons.injEq, and_true] at e1 e1'
      subst e1 e1'
      obtain rfl : i = i' := by omega
      refine SMu.pair fun G hI hS ⟨h0, hH⟩ => ?_
      obtain ⟨G1, i1, g1, s1, _⟩ := h.sb r1 r1' G hI (.noted hS) ⟨h0, .noted hH⟩
      exact ⟨G1, i1, g1, .noted s1⟩
theorem gp_SL : ∀ ts : List Tn, fineL ts = true → ∀ t ∈ ts, Gp E E' t.spread t.S
  | [], _, t, ht => by cases ht
  | u :: ts, hf, t, ht => by
    simp only [fineL, Bool.and_eq_true] at hf
    rcases List.mem_cons.1 ht with h | ht
    · rw [h]; exact gp_S u hf.1
    · exact gp_SL ts hf.2 t ht
end
end
/-- the parses of a tree unfolded are those of its simple form -/
theorem PS.simp_eq {t : Tn} {K : Nat} {tx : List Int} {p : Nat} {l m : List (Int × List Int)} (hf : t.fine = true) (h : PS t.spread K tx p l) (h' : PS t.S K tx p m) : l = m := by
  obtain ⟨E, W, n1, s1, hB, hE, hg, hx, rfl⟩ := h.ex
  obtain ⟨E', W', n1', s1', hB', hE', hg', hx', rfl⟩ := h'.ex
  obtain ⟨G0, hG0⟩ : ∃ G0 : Mau, G0 = ⟨fun a a' => a = 1 ∧ a' = 1, fun _ _ => False, fun _ _ => False, fun _ => .through, fun _ _ => False⟩ := ⟨_, rfl⟩
  have i0 : Miu 1 1 G0 := by
    rw [hG0]
    exact ⟨fun a a' h => by simp at h; omega, fun _ _ h => h.elim, fun _ _ h => h.elim, fun a a' m m' h1 h2 => by simp at h1 h2; omega, fun _ _ _ h => h.elim, fun _ _ _ h => h.elim, fun _ _ _ h => h.elim, fun _ _ _ h => h.elim, fun _ _ _ h => h.elim⟩
  obtain ⟨G, hI, hgr, hS, h0, hH⟩ := (gp_S (E := E) (E' := E') t hf).sb hB hB' G0 i0 (by rw [hG0]; exact .once ⟨rfl, rfl⟩ .through) ⟨1, by rw [hG0]; exact .once (n' := 1) ⟨rfl, rfl⟩⟩
  have hok : G.Ok E E' := by
    refine ⟨hI.one, hI.noC, hI.oneX, hI.yC, hI.yX, hI.oneY, fun b b' hb => ?_⟩
    rcases hgr.new b b' hb with hb | hb
    · rw [hG0] at hb; exact hb.elim
    · exact hb
  obtain ⟨s2, hx2, hA, _⟩ := (siu_ex (E' := E') hok hx).one W' ⟨[], (List.replicate K (-1)).set 0 (p : Int), []⟩ NoP hS ⟨fun a a' q _ => by simp, fun m n0 q _ hm => by simp at hm, fun m n0 q _ hm => by simp at hm, rfl, rfl⟩ (Peu.no _ _)
  have e := hx'.det hx2
  subst e
  exact hA.pr
end Go.Proofs.Ytdidopgenhpakaa
/- HELPERS: the law MeaningCopies walked. -/
namespace Go.Proofs.Ytdidopgenhpakaa
open Go.RowKit
set_option linter.unusedVariables false
set_option linter.unusedSimpArgs false
theorem PreL.get : ∀ {l l' : List (Int × List Int)}, PreL l l' → l.length = l'.length ∧ ∀ i (h : i < l.length) (h' : i < l'.length), l[i].1 = l'[i].1 ∧ Pre l[i].2 l'[i].2
  | [], [], _ => ⟨rfl, fun i h => by simp at h⟩
  | e :: l, e' :: l', h => by
    obtain ⟨h1, h2, h3⟩ := h
    obtain ⟨q1, q2⟩ := PreL.get h3
    refine ⟨by simp [q1], fun i hi hi' => ?_⟩
    cases i with
    | zero => exact ⟨h1, h2⟩
    | succ i => exact q2 i (by simpa using hi) (by simpa using hi')
  | [], _ :: _, h => h.elim
  | _ :: _, [], h => h.elim
end Go.Proofs.Ytdidopgenhpakaa
namespace Go.Proofs.Ytdidopgenhpakaa
open Go.RowKit
set_option linter.unusedVariables false
set_option linter.unusedSimpArgs false
/-- the same greatest index -/
def Gi (a u : Tn) : Prop := ∀ G : Int, 0 ≤ G → (a.gi ≤ G ↔ u.gi ≤ G)
theorem jn_gi {u : Tn} (h : Nf u) {G : Int} (hG : 0 ≤ G) : (∀ v ∈ jn u, v.gi ≤ G) ↔ u.gi ≤ G := by
  unfold jn
  by_cases h1 : u.kind = 1
  · rw [if_pos h1]
    refine ⟨fun _ => ?_, fun _ v hv => by cases hv⟩
    cases h with
    | leaf hk hn =>
      simp only [Tn.kind] at h1
      have := (fine_nodeZ hn).idx (by omega)
      simp only [Tn.gi, giL]
      omega
    | cat _ _ _ => simp [Tn.kind] at h1
    | alt _ _ _ => simp [Tn.kind] at h1
    | loop _ _ => simp [Tn.kind] at h1
    | grp _ _ => simp [Tn.kind] at h1
  · rw [if_neg h1]
    unfold within
    by_cases h4 : u.kind = 4
    · rw [if_pos h4]
      cases h with
      | leaf hk _ => simp [Tn.kind] at h4; omega
      | cat _ _ _ => simp only [Tn.subs, Tn.gi, giL_le]; exact ⟨fun h => ⟨hG, h⟩, fun h => h.2⟩
      | alt _ _ _ => simp [Tn.kind] at h4
      | loop _ _ => simp [Tn.kind] at h4
      | grp _ _ => simp [Tn.kind] at h4
    · rw [if_neg h4]; simp
theorem within5_gi {u : Tn} (h : Nf u) {G : Int} (hG : 0 ≤ G) : (∀ v ∈ within 5 u, v.gi ≤ G) ↔ u.gi ≤ G := by
  unfold within
  by_cases h5 : u.kind = 5
  · rw [if_pos h5]
    cases h with
    | leaf hk _ => simp [Tn.kind] at h5; omega
    | cat _ _ _ => simp [Tn.kind] at h5
    | alt _ _ _ => simp only [Tn.subs, Tn.gi, giL_le]; exact ⟨fun h => ⟨hG, h⟩, fun h => h.2⟩
    | loop _ _ => simp [Tn.kind] at h5
    | grp _ _ => simp [Tn.kind] at h5
  · rw [if_neg h5]; simp
theorem joinU_gi (us : List Tn) {G : Int} (hG : 0 ≤ G) : (joinU us).gi ≤ G ↔ ∀ u ∈ us, u.gi ≤ G := by
  match us with
  | [] => simp [joinU, Tn.gi, giL]; exact hG
  | [u] => simp [joinU]
  | a :: b :: s => simp only [joinU, Tn.gi, giL_le]; exact ⟨fun h => h.2, fun h => ⟨hG, h⟩⟩
theorem gi_join (P : List (Tn × Tn)) (hP : ∀ x ∈ P, Gi x.1 x.2 ∧ Nf x.2) {G : Int} (hG : 0 ≤ G) : (joinU (P.flatMap fun x => jn x.2)).gi ≤ G ↔ ∀ x ∈ P, x.1.gi ≤ G := by
  rw [joinU_gi _ hG]
  constructor
  · intro h x hx
    exact ((hP x hx).1 G hG).2 ((jn_gi (hP x hx).2 hG).1 fun v hv => h v (List.mem_flatMap.2 ⟨x, hx, hv⟩))
  · intro h v hv
    obtain ⟨x, hx, hv⟩ := List.mem_flatMap.1 hv
    exact (jn_gi (hP x hx).2 hG).2 (((hP x hx).1 G hG).1 (h x hx)) v hv
theorem gi_joinR {y v x o : Tn} (c : Nat) (hy : Nf y) (hv : Nf v) (h : Gi x y) (ho : Gi o v) : Gi (rowN (List.replicate c x ++ [o])) (joinT [(y, c), (v, 1)]) := fun G hG => by
  have e : joinT [(y, c), (v, 1)] = joinU ((List.replicate c (x, y) ++ [(o, v)]).flatMap fun z => jn z.2) := by
    rw [← joinT_runs c hy hv, joinT_jn]
    · simp [List.flatMap_append, List.flatMap_replicate]
    · intro z hz
      rcases List.mem_append.1 hz with hz | hz
      · rw [List.eq_of_mem_replicate hz]; exact hy
      · simp at hz; rw [hz]; exact hv
  rw [e, gi_join _ (fun z hz => ?_) hG, gi_rowN hG]
  · constructor
    · intro hh z hz
      rcases List.mem_append.1 hz with hz | hz
      · rw [List.mem_replicate] at hz
        rw [hz.2]
        exact hh x (List.mem_append.2 (.inl (List.mem_replicate.2 ⟨hz.1, rfl⟩)))
      · simp at hz
        rw [hz]
        exact hh o (by simp)
    · intro hh z hz
      rcases List.mem_append.1 hz with hz | hz
      · rw [List.mem_replicate] at hz
        rw [hz.2]
        exact hh (x, y) (List.mem_append.2 (.inl (List.mem_replicate.2 ⟨hz.1, rfl⟩)))
      · simp at hz
        rw [hz]
        exact hh (o, v) (by simp)
  · rcases List.mem_append.1 hz with hz | hz
    · rw [List.eq_of_mem_replicate hz]; exact ⟨h, hy⟩
    · simp at hz; rw [hz]; exact ⟨ho, hv⟩
theorem gi_loop2 {a u : Tn} (h : Gi a u) (mn mx : Int) (lz : Bool) : Gi (loopN a mn mx lz) (loopT mn mx lz u) := fun G hG => by
  simp only [loopN, Tn.gi, giL_le, List.mem_singleton, forall_eq]
  rw [h G hG]
theorem gi_empty0 : Gi emptyT emptyT := fun G hG => Iff.rfl
theorem gi_opt2 {x y : Tn} (hy : Nf y) (lz : Bool) (h : Gi x y) : ∀ k, Gi (optN x lz k) (optT y lz (k + 1))
  | 0 => gi_loop2 h 0 1 lz
  | k + 1 => gi_loop2 (gi_joinR 1 hy (nf_opt lz hy (k + 1)) h (gi_opt2 hy lz h k)) 0 1 lz
mutual
theorem S_gi : ∀ t : Tn, t.fine = true → Gi t.spread t.S
  | .mk k R a s mn mx lz ix nm, hf0 => by
    have hf := hf0
    simp only [Tn.fine, Bool.and_eq_true] at hf
    have hF := fine_nodeZ hf.1
    have ih := S_giL s hf.2
    rcases hF.kind with rfl | rfl | rfl | rfl | rfl | rfl | rfl
    · have := hF.leaf (by omega)
      obtain rfl := List.length_eq_zero_iff.1 this
      intro G hG
      simp [Tn.spread, Tn.S, spreadL, Tn.gi, giL]
    · have := hF.leaf (by omega)
      obtain rfl := List.length_eq_zero_iff.1 this
      intro G hG
      simp [Tn.spread, Tn.S, spreadL, Tn.gi, giL]
    · have := hF.leaf (by omega)
      obtain rfl := List.length_eq_zero_iff.1 this
      intro G hG
      simp [Tn.spread, Tn.S, spreadL, Tn.gi, giL]
    · have e : (Tn.mk 4 R a s mn mx lz ix nm).spread = .mk 4 R a (spreadL s) mn mx lz ix nm := by simp [Tn.spread]
      obtain ⟨m1, m2⟩ := map_pair Tn.spread Tn.S s
      have e' : (Tn.mk 4 R a s mn mx lz ix nm).S = joinU ((s.map fun x => (x.spread, x.S)).flatMap fun x => jn x.2) := by
        rw [m2, ← SL_map, ← joinT_jn (nf_SL s hf.2)]
        simp [Tn.S]
      intro G hG
      have h0 := hF.idx (by decide)
      rw [e, e', gi_join _ (fun z hz => ?_) hG]
      · simp only [Tn.gi, giL_le, spreadL_map, List.mem_map, forall_exists_index, and_imp, forall_apply_eq_imp_iff₂]
        exact ⟨fun h => h.2, fun h => ⟨by omega, h⟩⟩
      · obtain ⟨t, ht, rfl⟩ := List.mem_map.1 hz
        exact ⟨ih t ht, nf_SL s hf.2 _ (by rw [SL_map]; exact List.mem_map.2 ⟨t, ht, rfl⟩)⟩
    · have e : (Tn.mk 5 R a s mn mx lz ix nm).spread = .mk 5 R a (spreadL s) mn mx lz ix nm := by simp [Tn.spread]
      have e' : (Tn.mk 5 R a s mn mx lz ix nm).S = zN 5 (s.flatMap fun x => within 5 x.S) := by
        have : (Tn.mk 5 R a s mn mx lz ix nm).S = zN 5 (rowS 5 (ones (SL s))) := by simp [Tn.S]
        rw [this, rowS_ones5, SL_map, List.flatMap_map]
      intro G hG
      have h0 := hF.idx (by decide)
      have hn : ∀ t ∈ s, Nf t.S := fun t ht => nf_SL s hf.2 _ (by rw [SL_map]; exact List.mem_map.2 ⟨t, ht, rfl⟩)
      rw [e, e']
      simp only [Tn.gi, giL_le, spreadL_map, List.mem_map, forall_exists_index, and_imp, forall_apply_eq_imp_iff₂, List.mem_flatMap]
      constructor
      · intro h
        refine ⟨hG, fun v t ht hv => ?_⟩
        exact (within5_gi (hn t ht) hG).2 ((ih t ht G hG).1 (h.2 t ht)) v hv
      · intro h
        refine ⟨by omega, fun t ht => (ih t ht G hG).2 ((within5_gi (hn t ht) hG).1 fun v hv => h.2 v t ht hv)⟩
    · obtain ⟨q1, q2, q3, q4⟩ := hF.rep rfl
      obtain ⟨t, rfl⟩ : ∃ t, s = [t] := List.length_eq_one_iff.1 q1
      have h := ih t (by simp)
      simp only [fineL, Bool.and_true] at hf
      have hy : Nf t.S := nf_S t hf.2
      have e : (Tn.mk 6 R a [t] mn mx lz ix nm).spread = sprN t.spread mn mx lz := by simp [Tn.spread, spreadL]
      have e' : (Tn.mk 6 R a [t] mn mx lz ix nm).S = repT t.S mn mx lz := by simp [Tn.S, SL]
      rw [e, e']
      obtain ⟨c, rfl⟩ := Int.eq_ofNat_of_zero_le q2
      rcases q4 with rfl | ⟨q4, _⟩
      · cases c with
        | zero =>
          show Gi (sprN t.spread 0 (-1) lz) (repT t.S 0 (-1) lz)
          rw [spr0, rep0]
          exact gi_loop2 h 0 (-1) lz
        | succ c =>
          rw [show ((c + 1 : Nat) : Int) = (c : Int) + 1 by omega, sprP, repP]
          exact gi_joinR c hy (.loop (.inr (.inr ⟨rfl, rfl⟩)) hy) h (gi_loop2 h 1 (-1) lz)
      · obtain ⟨k, rfl⟩ : ∃ k : Nat, mx = (c : Int) + (k : Int) := ⟨(mx - c).toNat, by omega⟩
        rw [repB]
        cases k with
        | zero =>
          rw [show (c : Int) + ((0 : Nat) : Int) = (c : Int) by omega, sprB0]
          have h3 := gi_joinR (o := emptyT) c hy nf_empty h gi_empty0
          intro G hG
          rw [show optT t.S lz 0 = emptyT from rfl, ← h3 G hG, gi_rowN hG, gi_rowN hG]
          constructor
          · intro hh z hz
            rcases List.mem_append.1 hz with hz | hz
            · exact hh z hz
            · simp at hz; rw [hz]; simp [Tn.gi, giL]; exact hG
          · intro hh z hz
            exact hh z (List.mem_append.2 (.inl hz))
        | succ k =>
          rw [show (c : Int) + ((k + 1 : Nat) : Int) = (c : Int) + ((k : Int) + 1) by omega, sprB]
          exact gi_joinR c hy (nf_opt lz hy (k + 1)) h (gi_opt2 hy lz h k)
    · obtain ⟨q1, q2, q3⟩ := hF.grp rfl
      obtain ⟨t, rfl⟩ : ∃ t, s = [t] := List.length_eq_one_iff.1 q1
      have h := ih t (by simp)
      intro G hG
      have e : (Tn.mk 7 R a [t] mn mx lz ix nm).spread = .mk 7 R a [t.spread] mn mx lz ix nm := by simp [Tn.spread, spreadL]
      have e' : (Tn.mk 7 R a [t] mn mx lz ix nm).S = .mk 7 [] 0 [t.S] 0 0 false ix nm := by simp [Tn.S, SL]
      rw [e, e']
      simp only [Tn.gi, giL_le, List.mem_singleton, forall_eq]
      rw [h G hG]
theorem S_giL : ∀ ts : List Tn, fineL ts = true → ∀ t ∈ ts, Gi t.spread t.S
  | [], _, t, ht => by cases ht
  | u :: ts, hf, t, ht => by
    simp only [fineL, Bool.and_eq_true] at hf
    rcases List.mem_cons.1 ht with h | ht
    · rw [h]; exact S_gi u hf.1
    · exact S_giL ts hf.2 t ht
end
/-- a simple form is its own unfolded form -/
theorem Nf.spread_eq {t : Tn} (h : Nf t) : t.spread = t := by
  have key : ∀ s : List Tn, (∀ u ∈ s, u.spread = u) → spreadL s = s := fun s hs => by
    rw [spreadL_map]
    conv => rhs; rw [← List.map_id s]
    exact List.map_congr_left fun u hu => hs u hu
  induction h with
  | @leaf k R a mn mx lz ix nm hk hn => rcases hk with rfl | rfl | rfl <;> simp [Tn.spread, spreadL]
  | cat _ _ _ ih => simp [Tn.spread, key _ ih]
  | alt _ _ _ ih => simp [Tn.spread, key _ ih]
  | @loop mn mx lz y h hy ih =>
    have e : (loopT mn mx lz y).spread = sprN y.spread mn mx lz := by simp [Tn.spread, spreadL]
    rw [e, ih]
    rcases h with ⟨rfl, rfl⟩ | ⟨rfl, rfl⟩ | ⟨rfl, rfl⟩
    · simp [sprN, rowN, optN, loopN]
    · simp [sprN, loopN]
    · simp [sprN, loopN]
  | grp _ _ ih => simp [Tn.spread, spreadL, ih]
/-- what is told of a tree's parses and of its simple form's -/
theorem PS.simple {t : Tn} {G G' : Nat} {tx : List Int} {p : Nat} {l m : List (Int × List Int)} (hf : t.fine = true) (hsz : t.sz ≤ 2000) (hnd : t.S.nodes ≤ 200000) (hp : p ≤ tx.length) (hG : t.S.gi = (G : Int)) (hG' : t.gi = (G' : Int)) (h : PS t (2 * G' + 2) tx p l) (h' : PS t.S (2 * G + 2) tx p m) :
    m.length = l.length ∧ G ≤ G' ∧ ∀ i (h : i < l.length) (h' : i < m.length), m[i].1 = l[i].1 ∧ l[i].2.length = 2 * G' + 2 ∧ m[i].2.length = 2 * G + 2 ∧ (∀ k, k < 2 * G + 2 → m[i].2.getD k 0 = l[i].2.getD k 0) ∧ ∀ k, 2 * G + 2 ≤ k → k < 2 * G' + 2 → l[i].2.getD k 0 = -1 := by
  have hN := nf_S t hf
  have hgi := S_gi t hf
  obtain ⟨s1, _⟩ := spread_gi t hf (G' : Int) (by omega)
  obtain ⟨_, s3⟩ := spread_gi t hf (G : Int) (by omega)
  have hGG : G ≤ G' := by have := (hgi (G' : Int) (by omega)).1 (s1 (by omega)); omega
  have hef := s3 ((hgi (G : Int) (by omega)).2 (by omega))
  rw [show (2 * (G : Int) + 2).toNat = 2 * G + 2 by omega] at hef
  have hun := h.unset (by omega) hef
  have hw := h.within (by omega) (t.fine_from1 hf)
  have hw' := h'.within (by omega) (t.S.fine_from1 hN.fine)
  obtain ⟨f1, f2⟩ := spread_ok t hf
  have hsn := spread_nodes t hf
  obtain ⟨la, ha⟩ := PS.of_sf f1 f2 (by omega) (2 * G' + 2) tx p hp
  have f3 := (spread_ok t.S hN.fine).2
  rw [hN.spread_eq] at f3
  obtain ⟨lb, hb⟩ := PS.of_sf hN.fine f3 (by omega) (2 * G' + 2) tx p hp
  have e1 := PS.spread_eq ha h
  have e2 := PS.simp_eq hf ha hb
  have hpre : PreL m lb := PS.spread (t := t.S) (K := 2 * G + 2) (K' := 2 * G' + 2) (by omega) (by rw [hN.spread_eq]; exact h') hb
  rw [← e2, e1] at hpre
  obtain ⟨q1, q2⟩ := hpre.get
  refine ⟨q1, hGG, fun i hi hi' => ?_⟩
  obtain ⟨r1, r2, r3⟩ := q2 i hi' hi
  have e1 := (hw l[i] (List.getElem_mem hi)).len
  have e2 := (hw' m[i] (List.getElem_mem hi')).len
  refine ⟨r1, e1, e2, fun k hk => ?_, fun k hk hk' => ?_⟩
  · have := r3 k (by omega)
    simp only [List.getD_eq_getElem?_getD, this]
  · have := hun l[i] (List.getElem_mem hi) k hk
    simp only [List.getD_eq_getElem?_getD, List.getElem?_eq_getElem (show k < l[i].2.length by omega), Option.getD_some] at this ⊢
    exact this
end Go.Proofs.Ytdidopgenhpakaa
