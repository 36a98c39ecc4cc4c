/- HELPERS: the hunt: on, behind the whole. -/
import Derived.Test.YtnpocciioedgpaaK09
import Derived.Test.YtnpocciioedgpaaKX
/- HELPERS: trees whose nodes bear numbers; the way in which each node is begun as a thing of its own; side by side with a tree's own way. -/
namespace Go.Proofs.Ytnpocciioedgpaa
open Go.RowKit
set_option linter.unusedVariables false
set_option linter.unusedSimpArgs false
/-- what holds of the things so far: U: those of the left -/
structure MInvU (U : Int → Prop) (n' : Int) (G : Mat) : Prop where
  le : ∀ a a', G.C a a' → U a ∧ a' ≤ n'
  xle : ∀ m n0, G.X m n0 → U m
  one : ∀ a a' m m', G.C a a' → G.C m m' → (a = m ↔ a' = m')
  noC : ∀ m n0 a', G.X m n0 → ¬ G.C m a'
  oneX : ∀ m n0 n1, G.X m n0 → G.X m n1 → n0 = n1
structure GrowU (E E' : Nat → Way) (U : Int → Prop) (n' : Int) (G : Mat) (U1 : Int → Prop) (n1' : Int) (G' : Mat) : Prop where
  l1 : ∀ m, U m → U1 m
  l2 : n' ≤ n1'
  dr : G'.drop = G.drop
  nr : G'.NR = G.NR
  pr : G'.PR = G.PR
  c : ∀ a a', G.C a a' → G'.C a a'
  x : ∀ m n0, G.X m n0 → G'.X m n0
  bd : ∀ m, U m → G'.Bd m = G.Bd m
  l : ∀ b b', G.L b b' → G'.L b b'
  new : ∀ b b', G'.L b b' → G.L b b' ∨ Sim G' (E b) (E' b')
section
variable {E E' : Nat → Way} {U U1 U2 : Int → Prop} {n' n1' n2' : Int} {G G1 G2 : Mat}
theorem GrowU.refl (U : Int → Prop) (n' : Int) (G : Mat) : GrowU E E' U n' G U n' G := ⟨fun _ h => h, Int.le_refl _, rfl, rfl, rfl, fun _ _ h => h, fun _ _ h => h, fun _ _ => rfl, fun _ _ h => h, fun _ _ h => .inl h⟩
theorem Sim.upU (hI : MInvU U n' G) (hd : G1.drop = G.drop) (hc : ∀ a a', G.C a a' → G1.C a a') (hx : ∀ m n0, G.X m n0 → G1.X m n0) (hb : ∀ m, U m → G1.Bd m = G.Bd m) (hl : ∀ b b', G.L b b' → G1.L b b') {W W' : Way} (h : Sim G W W') : Sim G1 W W' := by
  induction h with
  | through => exact .through
  | once hC _ ih => exact .once (hc _ _ hC) ih
  | more hX hb2 hh _ ih => exact .more (hx _ _ hX) ((hb _ (hI.xle _ _ hX)).trans hb2) (hh.up hc hx) ih
  | noted hk _ ih => exact .noted (hd.trans hk) ih
  | dropped hk _ ih => exact .dropped (hd.trans hk) ih
  | runeOf _ ih => exact .runeOf ih
  | ifHolds _ ih => exact .ifHolds ih
  | inOrder hl _ ih => exact .inOrder hl ih
  | again h => exact .again (hl _ _ h)
theorem GrowU.sim (h : GrowU E E' U n' G U1 n1' G1) (hI : MInvU U n' G) {W W' : Way} (hS : Sim G W W') : Sim G1 W W' := hS.upU hI h.dr h.c h.x h.bd h.l
theorem GrowU.trans (h : GrowU E E' U n' G U1 n1' G1) (h' : GrowU E E' U1 n1' G1 U2 n2' G2) (hI : MInvU U1 n1' G1) : GrowU E E' U n' G U2 n2' G2 :=
  ⟨fun m hm => h'.l1 m (h.l1 m hm), Int.le_trans h.l2 h'.l2, h'.dr.trans h.dr, h'.nr.trans h.nr, h'.pr.trans h.pr, fun a a' x => h'.c _ _ (h.c _ _ x), fun a a' x => h'.x _ _ (h.x _ _ x), fun m hm => (h'.bd m (h.l1 m hm)).trans (h.bd m hm), fun b b' x => h'.l _ _ (h.l _ _ x), fun b b' x => by
    rcases h'.new b b' x with x | x
    · rcases h.new b b' x with x | x
      · exact .inl x
      · exact .inr (h'.sim hI x)
    · exact .inr x⟩
/-- one more pair of things -/
def Mat.pairU (G : Mat) (a n' : Int) : Mat := { G with C := fun x x' => G.C x x' ∨ (x = a ∧ x' = n' + 1) }
/-- one more thing on the left -/
def Mat.extraU (G : Mat) (a h0 : Int) (d : Way) : Mat := { G with X := fun m n0 => G.X m n0 ∨ (m = a ∧ n0 = h0), Bd := upd G.Bd a d }
abbrev Plus (U : Int → Prop) (a : Int) : Int → Prop := fun m => U m ∨ m = a
theorem MInvU.pair (h : MInvU U n' G) {a : Int} (ha : ¬ U a) : MInvU (Plus U a) (n' + 1) (G.pairU a n') := by
  refine ⟨fun x x' hc => ?_, fun m n0 hx => .inl (h.xle m n0 hx), fun x x' m m' h1 h2 => ?_, fun m n0 x' hx hc => ?_, h.oneX⟩
  · rcases hc with hc | ⟨rfl, rfl⟩
    · have := h.le x x' hc; exact ⟨.inl this.1, by omega⟩
    · exact ⟨.inr rfl, Int.le_refl _⟩
  · rcases h1 with h1 | ⟨rfl, rfl⟩ <;> rcases h2 with h2 | ⟨rfl, rfl⟩
    · exact h.one x x' m m' h1 h2
    · have := h.le x x' h1
      exact ⟨fun e => absurd (e ▸ this.1) ha, fun e => by omega⟩
    · have := h.le m m' h2
      exact ⟨fun e => absurd (e ▸ this.1) ha, fun e => by omega⟩
    · simp
  · rcases hc with hc | ⟨rfl, _⟩
    · exact h.noC m n0 x' hx hc
    · exact ha (h.xle _ _ hx)
theorem MInvU.extra (h : MInvU U n' G) {a : Int} (ha : ¬ U a) (h0 : Int) (d : Way) : MInvU (Plus U a) n' (G.extraU a h0 d) := by
  refine ⟨fun x x' hc => ⟨.inl (h.le x x' hc).1, (h.le x x' hc).2⟩, fun m n0 hx => ?_, h.one, fun m n0 x' hx hc => ?_, fun m n0 n1 h1 h2 => ?_⟩
  · rcases hx with hx | ⟨rfl, _⟩
    · exact .inl (h.xle m n0 hx)
    · exact .inr rfl
  · rcases hx with hx | ⟨rfl, _⟩
    · exact h.noC m n0 x' hx hc
    · exact ha (h.le _ _ hc).1
  · rcases h1 with h1 | ⟨rfl, rfl⟩ <;> rcases h2 with h2 | ⟨e, rfl⟩
    · exact h.oneX m n0 n1 h1 h2
    · subst e; exact absurd (h.xle _ _ h1) ha
    · exact absurd (h.xle _ _ h2) ha
    · rfl
theorem MInvU.loops (h : MInvU U n' G) (b b' : Nat) : MInvU U n' (G.loops b b') := ⟨h.le, h.xle, h.one, h.noC, h.oneX⟩
theorem GrowU.pair (U : Int → Prop) (a n' : Int) (G : Mat) : GrowU E E' U n' G (Plus U a) (n' + 1) (G.pairU a n') := ⟨fun _ h => .inl h, by omega, rfl, rfl, rfl, fun _ _ h => .inl h, fun _ _ h => h, fun _ _ => rfl, fun _ _ h => h, fun _ _ h => .inl h⟩
theorem GrowU.extra {U : Int → Prop} {a : Int} (ha : ¬ U a) (n' : Int) (G : Mat) (h0 : Int) (d : Way) : GrowU E E' U n' G (Plus U a) n' (G.extraU a h0 d) :=
  ⟨fun _ h => .inl h, by omega, rfl, rfl, rfl, fun _ _ h => h, fun _ _ h => .inl h, fun m hm => by show upd G.Bd a d m = _; simp only [upd]; exact if_neg (fun (e : m = a) => ha (e ▸ hm)), fun _ _ h => h, fun _ _ h => .inl h⟩
end
/-- a tree whose nodes bear numbers -/
inductive Lt where
  | mk (lb : Nat) (k : Int) (R : List (Int × Int)) (a : Int) (s : List Lt) (mn mx : Int) (lz : Bool) (ix : Int) (nm : ByteArray)
mutual
def Lt.tn : Lt → Tn
  | .mk lb k R a s mn mx lz ix nm => .mk k R a (tnL s) mn mx lz ix nm
def tnL : List Lt → List Tn
  | [] => []
  | t :: ts => t.tn :: tnL ts
end
mutual
/-- its numbers -/
def Lt.lbs : Lt → List Nat
  | .mk lb k R a s mn mx lz ix nm => lb :: lbsL s
def lbsL : List Lt → List Nat
  | [] => []
  | t :: ts => t.lbs ++ lbsL ts
end
theorem tnL_map (ts : List Lt) : tnL ts = ts.map Lt.tn := by
  induction ts with
  | nil => rfl
  | cons t ts ih => simp [tnL, ih]
theorem lbsL_app (ts us : List Lt) : lbsL (ts ++ us) = lbsL ts ++ lbsL us := by
  induction ts with
  | nil => rfl
  | cons t ts ih => simp [lbsL, ih]
/-- the thing that is the node's beginning; that it is decided about -/
abbrev kb (lb : Nat) : Int := 2 * (lb : Int) + 2
abbrev kd (lb : Nat) : Int := 2 * (lb : Int) + 3
/-- to decide about a loop -/
abbrev Kd (lz : Bool) (lb : Nat) (B : Way) : Way := .once (kd lb) (.inOrder (if lz = true then [B, .again lb] else [.again lb, B]))
mutual
/-- the way of a tree, each node begun as a thing of its own -/
def Lt.fw : Lt → Way → Way
  | .mk lb k R a s mn mx lz ix nm, B => .once (kb lb)
    (if k = 2 then .runeOf R B else if k = 3 then .ifHolds a B else if k = 4 then fwC s B else if k = 5 then .inOrder (fwA s B)
     else if k = 7 then .noted (2 * ix.toNat) (fwH s (.noted (2 * ix.toNat + 1) B))
     else if k = 6 then (if mx < 0 then (if mn = 0 then Kd lz lb B else fwH s (Kd lz lb B)) else .inOrder (if lz = true then [B, fwH s B] else [fwH s B, B]))
     else B)
def fwC : List Lt → Way → Way
  | [], B => B
  | t :: ts, B => t.fw (fwC ts B)
def fwA : List Lt → Way → List Way
  | [], _ => []
  | t :: ts, B => t.fw B :: fwA ts B
def fwH : List Lt → Way → Way
  | [], B => B
  | t :: _, B => t.fw B
end
mutual
/-- what the loops go round is there; the counts are x*, x+, x? -/
def Lt.eo (E : Nat → Way) : Lt → Way → Prop
  | .mk lb k R a s mn mx lz ix nm, B =>
    (k = 4 → eoC E s B) ∧ (k = 5 → eoA E s B) ∧ (k = 7 → eoH E s (.noted (2 * ix.toNat + 1) B)) ∧
    (k = 6 → (mn = 0 ∧ mx = -1 ∨ mn = 1 ∧ mx = -1) ∧ E lb = fwH s (Kd lz lb B) ∧ eoH E s (Kd lz lb B) ∨ (mn = 0 ∧ mx = 1) ∧ eoH E s B)
def eoC (E : Nat → Way) : List Lt → Way → Prop
  | [], _ => True
  | t :: ts, B => t.eo E (fwC ts B) ∧ eoC E ts B
def eoA (E : Nat → Way) : List Lt → Way → Prop
  | [], _ => True
  | t :: ts, B => t.eo E B ∧ eoA E ts B
def eoH (E : Nat → Way) : List Lt → Way → Prop
  | [], _ => True
  | t :: _, B => t.eo E B
end
theorem fwA_snoc (t : Lt) (B : Way) : ∀ ts : List Lt, fwA (ts ++ [t]) B = fwA ts B ++ [t.fw B] := by
  intro ts
  induction ts with
  | nil => rfl
  | cons u ts ih => simp [fwA, ih]
theorem eoA_snoc (E : Nat → Way) (t : Lt) (B : Way) : ∀ ts : List Lt, eoA E (ts ++ [t]) B ↔ eoA E ts B ∧ t.eo E B := by
  intro ts
  induction ts with
  | nil => simp [eoA]
  | cons u ts ih => simp only [List.cons_append, eoA, ih, and_assoc]
/-- the things of these numbers are new -/
def Fresh (U : Int → Prop) (L : List Nat) : Prop := ∀ lb ∈ L, ¬ U (kb lb) ∧ ¬ U (kd lb)
/-- nothing more but things of these numbers -/
def Only (U U1 : Int → Prop) (L : List Nat) : Prop := ∀ m, U1 m → U m ∨ ∃ lb ∈ L, m = kb lb ∨ m = kd lb
theorem Fresh.next {U U1 : Int → Prop} {L L' : List Nat} (h : Fresh U L') (ho : Only U U1 L) (hd : ∀ x ∈ L, ∀ y ∈ L', x ≠ y) : Fresh U1 L' := fun lb hlb => by
  refine ⟨fun hu => ?_, fun hu => ?_⟩
  · rcases ho _ hu with hu | ⟨x, hx, e⟩
    · exact (h lb hlb).1 hu
    · have := hd x hx lb hlb
      simp only [kb, kd] at e
      omega
  · rcases ho _ hu with hu | ⟨x, hx, e⟩
    · exact (h lb hlb).2 hu
    · have := hd x hx lb hlb
      simp only [kb, kd] at e
      omega
theorem Only.trans {U U1 U2 : Int → Prop} {L L' M : List Nat} (h : Only U U1 L) (h' : Only U1 U2 L') (h1 : ∀ x ∈ L, x ∈ M) (h2 : ∀ x ∈ L', x ∈ M) : Only U U2 M := fun m hm => by
  rcases h' m hm with hm | ⟨x, hx, e⟩
  · rcases h m hm with hm | ⟨x, hx, e⟩
    · exact .inl hm
    · exact .inr ⟨x, h1 x hx, e⟩
  · exact .inr ⟨x, h2 x hx, e⟩
theorem Only.refl (U : Int → Prop) (L : List Nat) : Only U U L := fun m h => .inl h
theorem Only.plus {U U1 : Int → Prop} {L : List Nat} (h : Only U U1 L) {lb : Nat} (hl : lb ∈ L) {a : Int} (ha : a = kb lb ∨ a = kd lb) : Only U (Plus U1 a) L := fun m hm => by
  rcases hm with hm | rfl
  · exact h m hm
  · exact .inr ⟨lb, hl, ha⟩
/-- to begin these side by side keeps them alike -/
def SU (E E' : Nat → Way) (L : List Nat) (B W : Way) (n' : Int) (B' : Way) (n1' : Int) (W' : Way) : Prop :=
  ∀ U G, G.drop = false → MInvU U n' G → Fresh U L → Sim G B B' → (∃ h, Hdp G B h) → ∃ U1 G', MInvU U1 n1' G' ∧ GrowU E E' U n' G U1 n1' G' ∧ Only U U1 L ∧ Sim G' W W' ∧ ∃ h, Hdp G' W h
section
variable {E E' : Nat → Way} {n' n1' n2' : Int}
theorem SU.self (L : List Nat) (n' : Int) (B B' : Way) : SU E E' L B B n' B' n' B' := fun U G _ hI _ hS hH => ⟨U, G, hI, .refl _ _ _, .refl _ _, hS, hH⟩
theorem SU.seq {L L' : List Nat} {B W V B' W' V' : Way} (hd : ∀ x ∈ L, ∀ y ∈ L', x ≠ y) (h : SU E E' L B W n' B' n1' W') (h' : SU E E' L' W V n1' W' n2' V') : SU E E' (L' ++ L) B V n' B' n2' V' := fun U G hdp hI hF hS hH => by
  obtain ⟨U1, G1, i1, g1, o1, s1, d1⟩ := h U G hdp hI (fun lb hl => hF lb (List.mem_append.2 (.inr hl))) hS hH
  obtain ⟨U2, G2, i2, g2, o2, s2, d2⟩ := h' U1 G1 (g1.dr.trans hdp) i1 (Fresh.next (fun lb hl => hF lb (List.mem_append.2 (.inl hl))) o1 hd) s1 d1
  exact ⟨U2, G2, i2, g1.trans g2 i1, o1.trans o2 (fun x hx => List.mem_append.2 (.inr hx)) (fun x hx => List.mem_append.2 (.inl hx)), s2, d2⟩
/-- both do it as one thing more -/
theorem SU.pair {L : List Nat} {lb : Nat} (hl : lb ∉ L) {B W B' W' : Way} (h : ∀ U G, G.drop = false → MInvU U n' G → Fresh U L → Sim G B B' → (∃ h, Hdp G B h) → ∃ U1 G', MInvU U1 n1' G' ∧ GrowU E E' U n' G U1 n1' G' ∧ Only U U1 L ∧ Sim G' W W') : SU E E' (lb :: L) B (.once (kb lb) W) n' B' (n1' + 1) (.once (n1' + 1) W') := fun U G hdp hI hF hS hH => by
  obtain ⟨U1, G1, i1, g1, o1, s1⟩ := h U G hdp hI (fun x hx => hF x (List.mem_cons_of_mem _ hx)) hS hH
  have hfr := Fresh.next (L' := [lb]) (fun x hx => hF x (by simp at hx; simp [hx])) o1 (fun x hx y hy e => by simp at hy; exact hl (by rw [← hy, ← e]; exact hx))
  have hn := (hfr lb (by simp)).1
  have g2 := GrowU.pair (E := E) (E' := E') U1 (kb lb) n1' G1
  exact ⟨_, _, i1.pair hn, g1.trans g2 i1, Only.plus (o1.trans (Only.refl U1 []) (fun x hx => List.mem_cons_of_mem _ hx) (fun x hx => by cases hx)) (List.mem_cons_self ..) (.inl rfl), .once (.inr ⟨rfl, rfl⟩) (g2.sim i1 s1), _, .once (.inr ⟨rfl, rfl⟩)⟩
/-- the left does it as one thing more -/
theorem SU.extra {L : List Nat} {lb : Nat} {B W B' W' : Way} (h : ∀ U G, G.drop = false → MInvU U n' G → Fresh U (lb :: L) → Sim G B B' → (∃ h, Hdp G B h) → ∃ U1 G', MInvU U1 n1' G' ∧ GrowU E E' U n' G U1 n1' G' ∧ Only U U1 (lb :: L) ∧ ¬ U1 (kb lb) ∧ Sim G' W W' ∧ ∃ h, Hdp G' W h) : SU E E' (lb :: L) B (.once (kb lb) W) n' B' n1' W' := fun U G hdp hI hF hS hH => by
  obtain ⟨U1, G1, i1, g1, o1, hn, s1, h0, d1⟩ := h U G hdp hI hF hS hH
  have g2 := GrowU.extra (E := E) (E' := E') hn n1' G1 h0 W
  have d2 : Hdp (G1.extraU (kb lb) h0 W) W h0 := d1.up g2.c g2.x
  exact ⟨_, _, i1.extra hn h0 W, g1.trans g2 i1, o1.plus (List.mem_cons_self ..) (.inl rfl), .more (.inr ⟨rfl, rfl⟩) (by show upd G1.Bd (kb lb) W (kb lb) = W; simp [upd]) d2 (g2.sim i1 s1), h0, .more (.inr ⟨rfl, rfl⟩) d2⟩
/-- loops side by side -/
theorem SU.round {L : List Nat} {lb b' : Nat} {B B' : Way} {lz : Bool} (hl : lb ∉ L) (h : SU E E' L (Kd lz lb B) (E lb) (n' + 1) (Dcd lz n' b' B') n2' (E' b')) (U : Int → Prop) (G : Mat) (hdp : G.drop = false) (hI : MInvU U n' G) (hF : Fresh U (lb :: L)) (hS : Sim G B B') :
    ∃ U1 G', MInvU U1 n2' G' ∧ GrowU E E' U n' G U1 n2' G' ∧ Only U U1 (lb :: L) ∧ ¬ U1 (kb lb) ∧ Sim G' (E lb) (E' b') ∧ Sim G' (Kd lz lb B) (Dcd lz n' b' B') ∧ (∃ h, Hdp G' (E lb) h) ∧ ∃ h, Hdp G' (Kd lz lb B) h := by
  have hnd := (hF lb (List.mem_cons_self ..)).2
  obtain ⟨G0, hG0⟩ : ∃ G0, G0 = (G.loops lb b').pairU (kd lb) n' := ⟨_, rfl⟩
  have hI0 : MInvU (Plus U (kd lb)) (n' + 1) G0 := by rw [hG0]; exact (hI.loops lb b').pair hnd
  have hC : G0.C (kd lb) (n' + 1) := by rw [hG0]; exact .inr ⟨rfl, rfl⟩
  have hL : G0.L lb b' := by rw [hG0]; exact .inr ⟨rfl, rfl⟩
  have hB : Sim G0 B B' := by rw [hG0]; exact hS.upU (G1 := (G.loops lb b').pairU (kd lb) n') hI rfl (fun _ _ h => Or.inl h) (fun _ _ h => h) (fun _ _ => rfl) (fun _ _ h => Or.inl h)
  have hD : Sim G0 (Kd lz lb B) (Dcd lz n' b' B') := by
    refine .once hC (.inOrder (by cases lz <;> rfl) fun i hi hi' => ?_)
    cases lz
    · match i, hi, hi' with
      | 0, _, _ => exact .again hL
      | 1, _, _ => exact hB
      | i + 2, hi, _ => exact absurd (show i + 2 < 2 from hi) (by omega)
    · match i, hi, hi' with
      | 0, _, _ => exact hB
      | 1, _, _ => exact .again hL
      | i + 2, hi, _ => exact absurd (show i + 2 < 2 from hi) (by omega)
  have hF0 : Fresh (Plus U (kd lb)) L := fun x hx => by
    have hne : x ≠ lb := fun e => hl (e ▸ hx)
    have := hF x (List.mem_cons_of_mem _ hx)
    refine ⟨fun h => ?_, fun h => ?_⟩
    · rcases h with h | h
      · exact this.1 h
      · simp only [kb, kd] at h; omega
    · rcases h with h | h
      · exact this.2 h
      · simp only [kd] at h; omega
  obtain ⟨U1, G1, i1, g1, o1, s1, d1⟩ := h (Plus U (kd lb)) G0 (by rw [hG0]; exact hdp) hI0 hF0 hD ⟨_, .once hC⟩
  refine ⟨U1, G1, i1, ⟨fun m hm => g1.l1 m (.inl hm), by have := g1.l2; omega, by rw [g1.dr, hG0]; rfl, by rw [g1.nr, hG0]; rfl, by rw [g1.pr, hG0]; rfl, fun a a' x => g1.c _ _ (by rw [hG0]; exact .inl x), fun m n0 x => g1.x _ _ (by rw [hG0]; exact x), fun m hm => (g1.bd m (.inl hm)).trans (by rw [hG0]; rfl), fun x x' hx => g1.l _ _ (by rw [hG0]; exact .inl hx), fun x x' hx => ?_⟩, fun m hm => ?_, fun hm => ?_, s1, g1.sim hI0 hD, d1, _, .once (g1.c _ _ hC)⟩
  · rcases g1.new x x' hx with hx | hx
    · rw [hG0] at hx
      rcases hx with hx | ⟨rfl, rfl⟩
      · exact .inl hx
      · exact .inr s1
    · exact .inr hx
  · rcases o1 m hm with (hm | rfl) | ⟨x, hx, e⟩
    · exact .inl hm
    · exact .inr ⟨lb, List.mem_cons_self .., .inr rfl⟩
    · exact .inr ⟨x, List.mem_cons_of_mem _ hx, e⟩
  · rcases o1 _ hm with (hm | hm) | ⟨x, hx, e⟩
    · exact (hF lb (List.mem_cons_self ..)).1 hm
    · simp only [kb, kd] at hm; omega
    · have hne : x ≠ lb := fun e => hl (e ▸ hx)
      simp only [kb, kd] at e; omega
end
end Go.Proofs.Ytnpocciioedgpaa
/- HELPERS: SIDE BY SIDE: the way of a tree whose nodes bear numbers, and the tree's own: the same parses. -/
namespace Go.Proofs.Ytnpocciioedgpaa
open Go.RowKit
set_option linter.unusedVariables false
set_option linter.unusedSimpArgs false
theorem tnL_one {s : List Lt} {t : Tn} (h : tnL s = [t]) : ∃ T, s = [T] ∧ T.tn = t := by
  match s, h with
  | [], h => simp [tnL] at h
  | [T], h => simp [tnL] at h; exact ⟨T, rfl, h⟩
  | _ :: _ :: _, h => simp [tnL] at h
theorem tnL_snoc {s : List Lt} {ts : List Tn} {t : Tn} (h : tnL s = ts ++ [t]) : ∃ s1 T, s = s1 ++ [T] ∧ tnL s1 = ts ∧ T.tn = t := by
  rw [tnL_map] at h
  obtain ⟨s1, s2, rfl, h1, h2⟩ := List.map_eq_append_iff.1 h
  obtain ⟨T, rfl, h3⟩ := tnL_one (by rw [tnL_map]; exact h2)
  exact ⟨s1, T, rfl, by rw [tnL_map]; exact h1, h3⟩
theorem full_sim {E E' : Nat → Way} {t : Tn} {n' n1' : Int} {B' W' : Way} (h : Beg E' t n' B' n1' W') : ∀ T : Lt, T.tn = t → T.lbs.Nodup → ∀ B, T.eo E B → SU E E' T.lbs B (T.fw B) n' B' n1' W' := by
  refine Beg.rec (motive_1 := fun t n' B' n1' W' _ => ∀ T : Lt, T.tn = t → T.lbs.Nodup → ∀ B, T.eo E B → SU E E' T.lbs B (T.fw B) n' B' n1' W')
    (motive_2 := fun ts n' B' n1' W' _ => ∀ Ts : List Lt, tnL Ts = ts → (lbsL Ts).Nodup → ∀ B, eoC E Ts B → SU E E' (lbsL Ts) B (fwC Ts B) n' B' n1' W')
    (motive_3 := fun ts n' B' n1' Ws' _ => ∀ Ts : List Lt, tnL Ts = ts → (lbsL Ts).Nodup → ∀ B, eoA E Ts B → ∀ U G, G.drop = false → MInvU U n' G → Fresh U (lbsL Ts) → Sim G B B' → (∃ h, Hdp G B h) → ∃ U1 G', MInvU U1 n1' G' ∧ GrowU E E' U n' G U1 n1' G' ∧ Only U U1 (lbsL Ts) ∧ Sim G' (.inOrder (fwA Ts B)) (.inOrder Ws'))
    (motive_4 := fun t c n' B' n1' W' _ => c = 0 → n1' = n' ∧ W' = B')
    (motive_5 := fun t lz B' c n' n1' W' _ => (c = 0 → n1' = n' ∧ W' = B') ∧ (c = 1 → ∀ T : Lt, T.tn = t → T.lbs.Nodup → ∀ B, T.eo E B → ∃ n2 W2, n1' = n2 + 1 ∧ W' = .once (n2 + 1) (.inOrder (if lz = true then [B', W2] else [W2, B'])) ∧ SU E E' T.lbs B (T.fw B) n' B' n2 W2))
    ?_ ?_ ?_ ?_ ?_ ?_ ?_ ?_ ?_ ?_ ?_ ?_ ?_ ?_ ?_ ?_ ?_ h
  · intro R a s mn mx lz ix nm n' B' T hT hN B hE
    cases T with
    | mk lb k R a s mn mx lz ix nm =>
    simp only [Lt.tn, Tn.mk.injEq] at hT
    obtain ⟨rfl, rfl, rfl, _, rfl, rfl, rfl, rfl, rfl⟩ := hT
    simp only [Lt.lbs, List.nodup_cons] at hN ⊢
    simp [Lt.fw]
    exact SU.pair hN.1 fun U G _ hI _ hS _ => ⟨U, G, hI, .refl _ _ _, .refl _ _, hS⟩
  · intro R a s mn mx lz ix nm n' B' T hT hN B hE
    cases T with
    | mk lb k R a s mn mx lz ix nm =>
    simp only [Lt.tn, Tn.mk.injEq] at hT
    obtain ⟨rfl, rfl, rfl, _, rfl, rfl, rfl, rfl, rfl⟩ := hT
    simp only [Lt.lbs, List.nodup_cons] at hN ⊢
    simp [Lt.fw]
    exact SU.pair hN.1 fun U G _ hI _ hS _ => ⟨U, G, hI, .refl _ _ _, .refl _ _, .runeOf hS⟩
  · intro R a s mn mx lz ix nm n' B' T hT hN B hE
    cases T with
    | mk lb k R a s mn mx lz ix nm =>
    simp only [Lt.tn, Tn.mk.injEq] at hT
    obtain ⟨rfl, rfl, rfl, _, rfl, rfl, rfl, rfl, rfl⟩ := hT
    simp only [Lt.lbs, List.nodup_cons] at hN ⊢
    simp [Lt.fw]
    exact SU.pair hN.1 fun U G _ hI _ hS _ => ⟨U, G, hI, .refl _ _ _, .refl _ _, .ifHolds hS⟩
  · intro R a s mn mx lz ix nm n' n1' B' W' _ ih T hT hN B hE
    cases T with
    | mk lb k R a s mn mx lz ix nm =>
    simp only [Lt.tn, Tn.mk.injEq] at hT
    obtain ⟨rfl, rfl, rfl, hs, rfl, rfl, rfl, rfl, rfl⟩ := hT
    simp only [Lt.lbs, List.nodup_cons] at hN ⊢
    simp only [Lt.eo] at hE
    have hE4 := hE.1 trivial
    simp [Lt.fw]
    refine SU.extra fun U G hd hI hF hS hH => ?_
    obtain ⟨U1, G1, i1, g1, o1, s1, d1⟩ := ih s hs hN.2 B hE4 U G hd hI (fun x hx => hF x (List.mem_cons_of_mem _ hx)) hS hH
    have hfr := Fresh.next (L' := [lb]) (fun x hx => hF x (by simp at hx; simp [hx])) o1 (fun x hx y hy e => by simp at hy; exact hN.1 (by rw [← hy, ← e]; exact hx))
    exact ⟨U1, G1, i1, g1, o1.trans (Only.refl U1 []) (fun x hx => List.mem_cons_of_mem _ hx) (fun x hx => by cases hx), (hfr lb (by simp)).1, s1, d1⟩
  · intro R a s mn mx lz ix nm n' n1' B' Ws' _ ih T hT hN B hE
    cases T with
    | mk lb k R a s mn mx lz ix nm =>
    simp only [Lt.tn, Tn.mk.injEq] at hT
    obtain ⟨rfl, rfl, rfl, hs, rfl, rfl, rfl, rfl, rfl⟩ := hT
    simp only [Lt.lbs, List.nodup_cons] at hN ⊢
    simp only [Lt.eo] at hE
    have hE5 := hE.2.1 trivial
    simp [Lt.fw]
    exact SU.pair hN.1 fun U G hd hI hF hS hH => ih s hs hN.2 B hE5 U G hd hI hF hS hH
  · intro R a t mn mx lz i nm n' n1' B' W' _ ih T hT hN B hE
    cases T with
    | mk lb k R a s mn mx lz ix nm =>
    simp only [Lt.tn, Tn.mk.injEq] at hT
    obtain ⟨rfl, rfl, rfl, hs, rfl, rfl, rfl, rfl, rfl⟩ := hT
    obtain ⟨T0, rfl, hT0⟩ := tnL_one hs
    simp only [Lt.lbs, lbsL, List.append_nil, List.nodup_cons] at hN ⊢
    simp only [Lt.eo, eoH] at hE
    have hE7 := hE.2.2.1 trivial
    simp only [Int.toNat_natCast] at hE7
    simp [Lt.fw, fwH]
    refine SU.pair hN.1 fun U G hd hI hF hS ⟨h0, hH⟩ => ?_
    obtain ⟨U1, G1, i1, g1, o1, s1, _⟩ := ih T0 hT0 hN.2 _ hE7 U G hd hI hF (.noted hd hS) ⟨h0, .noted hH⟩
    exact ⟨U1, G1, i1, g1, o1, .noted (g1.dr.trans hd) s1⟩
  · intro R a t lz ix nm n' n2' b' B' _ ih T hT hN B hE
    cases T with
    | mk lb k R a s mn mx lz ix nm =>
    simp only [Lt.tn, Tn.mk.injEq] at hT
    obtain ⟨rfl, rfl, rfl, hs, rfl, rfl, rfl, rfl, rfl⟩ := hT
    obtain ⟨T0, rfl, hT0⟩ := tnL_one hs
    simp only [Lt.lbs, lbsL, List.append_nil, List.nodup_cons] at hN ⊢
    simp only [Lt.eo, eoH, fwH] at hE
    rcases hE.2.2.2 trivial with ⟨_, hE1, hE2⟩ | ⟨h1, _⟩
    · simp [Lt.fw]
      refine SU.extra fun U G hd hI hF hS hH => ?_
      have hr := ih T0 hT0 hN.2 _ hE2
      rw [← hE1] at hr
      obtain ⟨U1, G1, i1, g1, o1, hn, _, s2, _, d2⟩ := SU.round hN.1 hr U G hd hI hF hS
      exact ⟨U1, G1, i1, g1, o1, hn, s2, d2⟩
    · omega
  · intro R a t c lz ix nm n' n2' n3' b' B' W3' _ _ ih ihT T hT hN B hE
    cases T with
    | mk lb k R a s mn mx lz ix nm =>
    simp only [Lt.tn, Tn.mk.injEq] at hT
    obtain ⟨rfl, rfl, rfl, hs, rfl, rfl, rfl, rfl, rfl⟩ := hT
    obtain ⟨T0, rfl, hT0⟩ := tnL_one hs
    simp only [Lt.lbs, lbsL, List.append_nil, List.nodup_cons] at hN ⊢
    simp only [Lt.eo, eoH, fwH] at hE
    rcases hE.2.2.2 trivial with ⟨h1, hE1, hE2⟩ | ⟨h1, _⟩
    · have hc : c = 0 := by omega
      obtain ⟨rfl, rfl⟩ := ihT hc
      subst hc
      simp [Lt.fw, fwH]
      refine SU.extra fun U G hd hI hF hS hH => ?_
      have hr := ih T0 hT0 hN.2 _ hE2
      rw [← hE1] at hr
      obtain ⟨U1, G1, i1, g1, o1, hn, s1, _, d1, _⟩ := SU.round hN.1 hr U G hd hI hF hS
      rw [← hE1]
      exact ⟨U1, G1, i1, g1, o1, hn, s1, d1⟩
    · omega
  · intro R a t c m lz ix nm n' n1' n2' B' W1' W2' hO0 hT0 ihO ihT T hT hN B hE
    cases T with
    | mk lb k R a s mn mx lz ix nm =>
    simp only [Lt.tn, Tn.mk.injEq] at hT
    obtain ⟨rfl, rfl, rfl, hs, rfl, rfl, rfl, rfl, rfl⟩ := hT
    obtain ⟨T0, rfl, hT1⟩ := tnL_one hs
    simp only [Lt.lbs, lbsL, List.append_nil, List.nodup_cons] at hN ⊢
    simp only [Lt.eo, eoH, fwH] at hE
    rcases hE.2.2.2 trivial with ⟨h1, _⟩ | ⟨h1, hE2⟩
    · omega
    · have hc : c = 0 := by omega
      have hm : m = 1 := by omega
      obtain ⟨rfl, rfl⟩ := ihT hc
      obtain ⟨n2, W2, rfl, rfl, hSU⟩ := ihO.2 hm T0 hT1 hN.2 B hE2
      subst hc hm
      simp [Lt.fw, fwH]
      refine SU.pair hN.1 fun U G hd hI hF hS hH => ?_
      obtain ⟨U1, G1, i1, g1, o1, s1, _⟩ := hSU U G hd hI hF hS hH
      exact ⟨U1, G1, i1, g1, o1, sim_two s1 (g1.sim hI hS) lz⟩
  · intro n' B' Ts hT hN B hE
    match Ts, hT with
    | [], _ => exact .self _ _ _ _
    | _ :: _, h => simp [tnL] at h
  · intro t ts n' n1' n2' B' W1' W2' _ _ h h2 Ts hT hN B hE
    match Ts, hT with
    | [], h => simp [tnL] at h
    | T :: Ts, hT =>
      simp only [tnL, List.cons.injEq] at hT
      simp only [lbsL, List.nodup_append] at hN ⊢
      simp only [eoC] at hE
      simp only [fwC]
      exact SU.seq (fun x hx y hy e => hN.2.2 y hy x hx e.symm) (h Ts hT.2 hN.2.1 B hE.2) (h2 T hT.1 hN.1 _ hE.1)
  · intro n' B' Ts hT hN B hE U G hd hI hF hS hH
    match Ts, hT with
    | [], _ => exact ⟨U, G, hI, .refl _ _ _, .refl _ _, .inOrder rfl fun i hi => by simp [fwA] at hi⟩
    | _ :: _, h => simp [tnL] at h
  · intro t ts n' n1' n2' B' W2' Ws' _ _ hl hl2 Ts hT hN B hE U G hd hI hF hS hH
    obtain ⟨Ts1, T, rfl, hT1, hT2⟩ := tnL_snoc hT
    rw [lbsL_app] at hN hF
    simp only [lbsL, List.append_nil, List.nodup_append] at hN hF
    rw [eoA_snoc] at hE
    obtain ⟨U1, G1, i1, g1, o1, s1⟩ := hl Ts1 hT1 hN.1 B hE.1 U G hd hI (fun x hx => hF x (List.mem_append.2 (.inl hx))) hS hH
    obtain ⟨h0, hH⟩ := hH
    obtain ⟨U2, G2, i2, g2, o2, s2, _⟩ := hl2 T hT2 hN.2.1 B hE.2 U1 G1 (g1.dr.trans hd) i1 (Fresh.next (fun x hx => hF x (List.mem_append.2 (.inr hx))) o1 (fun x hx y hy => hN.2.2 x hx y hy)) (g1.sim hI hS) ⟨h0, hH.up g1.c g1.x⟩
    have s3 := g2.sim i1 s1
    refine ⟨U2, G2, i2, g1.trans g2 i1, o1.trans o2 (fun x hx => by rw [lbsL_app]; exact List.mem_append.2 (.inl hx)) (fun x hx => by rw [lbsL_app]; simp only [lbsL, List.append_nil]; exact List.mem_append.2 (.inr hx)), ?_⟩
    rw [fwA_snoc]
    cases s3 with
    | inOrder el s3 =>
      refine .inOrder (by simp [el]) fun i hi hi' => ?_
      by_cases hi2 : i < (fwA Ts1 B).length
      · rw [List.getElem_append_left hi2, List.getElem_append_left (by omega)]
        exact s3 i hi2 (by omega)
      · simp only [List.length_append, List.length_cons, List.length_nil] at hi hi'
        obtain rfl : i = (fwA Ts1 B).length := by omega
        rw [List.getElem_concat_length rfl, List.getElem_concat_length el]
        exact s2
  · intro t n' W' _
    exact ⟨rfl, rfl⟩
  · intro t c n' n1' n2' W' W1' W2' _ _ h h2 hc
    omega
  · intro t lz B' n'
    exact ⟨fun _ => ⟨rfl, rfl⟩, fun h => by omega⟩
  · intro t lz B' c n' n1' n2' W1' W2' _ _ h h2
    refine ⟨fun hc => by omega, fun hc T hT hN B hE => ?_⟩
    obtain ⟨rfl, rfl⟩ := h.1 (by omega)
    exact ⟨_, _, rfl, rfl, h2 T hT hN B hE⟩
end Go.Proofs.Ytnpocciioedgpaa
/- HELPERS: all walks, one by one, against the way that does no thing twice: of each end the first. -/
namespace Go.Proofs.Ytnpocciioedgpaa
open Go.RowKit
set_option linter.unusedVariables false
set_option linter.unusedSimpArgs false
/-- all walks by a way, each with what it has done itself; an end counts once -/
inductive Hx (tx : List Int) (E : Nat → Way) : Way → Nat → List (Int × Int) → List Int → List (Int × List Int) → List (Int × List Int) → Prop
  | there {p : Nat} {was : List (Int × Int)} {ν : List Int} {out : List (Int × List Int)} (h : (p : Int) ∈ out.map Prod.fst) : Hx tx E (.once 1 .through) p was ν out out
  | new {p : Nat} {was : List (Int × Int)} {ν : List Int} {out : List (Int × List Int)} (h : (p : Int) ∉ out.map Prod.fst) : Hx tx E (.once 1 .through) p was ν out (out ++ [((p : Int), ν.set 1 (p : Int))])
  | skip {n : Int} {d : Way} {p : Nat} {was : List (Int × Int)} {ν : List Int} {out : List (Int × List Int)} (h1 : n ≠ 1) (h : (n, (p : Int)) ∈ was) : Hx tx E (.once n d) p was ν out out
  | once {n : Int} {d : Way} {p : Nat} {was : List (Int × Int)} {ν : List Int} {out out' : List (Int × List Int)} (h1 : n ≠ 1) (h : (n, (p : Int)) ∉ was) (hd : Hx tx E d p ((n, (p : Int)) :: was) ν out out') : Hx tx E (.once n d) p was ν out out'
  | noted {c : Nat} {d : Way} {p : Nat} {was : List (Int × Int)} {ν : List Int} {out out' : List (Int × List Int)} (hd : Hx tx E d p was (ν.set c (p : Int)) out out') : Hx tx E (.noted c d) p was ν out out'
  | over {R : Rng} {d : Way} {p : Nat} {was : List (Int × Int)} {ν : List Int} {out : List (Int × List Int)} (h : tx.length ≤ p) : Hx tx E (.runeOf R d) p was ν out out
  | other {R : Rng} {d : Way} {p : Nat} {was : List (Int × Int)} {ν : List Int} {out : List (Int × List Int)} (h : p < tx.length) (hr : (rightB R && hasB R (tx.getD p 0)) = false) : Hx tx E (.runeOf R d) p was ν out out
  | rune {R : Rng} {d : Way} {p : Nat} {was : List (Int × Int)} {ν : List Int} {out out' : List (Int × List Int)} (h : p < tx.length) (hr : (rightB R && hasB R (tx.getD p 0)) = true) (hd : Hx tx E d (p + 1) was ν out out') : Hx tx E (.runeOf R d) p was ν out out'
  | fails {a : Int} {d : Way} {p : Nat} {was : List (Int × Int)} {ν : List Int} {out : List (Int × List Int)} (h : heldB tx a p = false) : Hx tx E (.ifHolds a d) p was ν out out
  | holds {a : Int} {d : Way} {p : Nat} {was : List (Int × Int)} {ν : List Int} {out out' : List (Int × List Int)} (h : heldB tx a p = true) (hd : Hx tx E d p was ν out out') : Hx tx E (.ifHolds a d) p was ν out out'
  | inOrder {l : List Way} {p : Nat} {was : List (Int × Int)} {ν : List Int} (oo : Nat → List (Int × List Int)) (h : ∀ i (hi : i < l.length), Hx tx E (l[i]'hi) p was ν (oo i) (oo (i + 1))) : Hx tx E (.inOrder l) p was ν (oo 0) (oo l.length)
  | again {b p : Nat} {was : List (Int × Int)} {ν : List Int} {out out' : List (Int × List Int)} (h : Hx tx E (E b) p was ν out out') : Hx tx E (.again b) p was ν out out'
section
variable {tx : List Int} {E : Nat → Way} {Bd : Int → Way} {A : Nat → Prop}
/-- what is done and not under way leads to what is done -/
def Blk (tx : List Int) (E : Nat → Way) (Bd : Int → Way) (D was : List (Int × Int)) : Prop := ∀ (n : Int) (q : Nat), (n, (q : Int)) ∈ D → n ≠ 1 → (n, (q : Int)) ∉ was → ∀ h, Hd tx E (Bd n) q h → h ∈ D
/-- from what is done nothing new comes -/
theorem hx_black (hE : ∀ b, A b → (E b).one Bd A) (D : List (Int × Int)) {W : Way} {p : Nat} {was : List (Int × Int)} {ν : List Int} {out out' : List (Int × List Int)} (h : Hx tx E W p was ν out out') :
    W.one Bd A → (∀ h, Hd tx E W p h → h ∈ D) → Blk tx E Bd D was → (∀ q : Nat, (1, (q : Int)) ∈ D → (q : Int) ∈ out.map Prod.fst) → out' = out := by
  induction h with
  | there h => intro _ _ _ _; rfl
  | new h => intro _ hh _ he; exact absurd (he _ (hh _ .once)) h
  | skip h1 h => intro _ _ _ _; rfl
  | @once n d p was ν out out' h1 h hd ih =>
    intro ho hh hb he
    simp only [Way.one] at ho
    have hd1 : d.one Bd A := by
      rcases ho.2 with ⟨e, _⟩ | ⟨_, e⟩
      · exact absurd e h1
      · exact e
    refine ih hd1 (fun x hx => hb n p (hh _ .once) h1 h x (by rw [ho.1]; exact hx)) (fun m q hm hm1 hw => hb m q hm hm1 (fun hmw => hw (List.mem_cons_of_mem _ hmw))) he
  | noted hd ih => intro ho hh hb he; simp only [Way.one] at ho; exact ih ho (fun x hx => hh x (.noted hx)) hb he
  | over h => intro _ _ _ _; rfl
  | other h hr => intro _ _ _ _; rfl
  | rune h hr hd ih => intro ho hh hb he; simp only [Way.one] at ho; exact ih ho (fun x hx => hh x (.rune h hr hx)) hb he
  | fails h => intro _ _ _ _; rfl
  | holds h hd ih => intro ho hh hb he; simp only [Way.one] at ho; exact ih ho (fun x hx => hh x (.holds h hx)) hb he
  | @inOrder l p was ν oo h ih =>
    intro ho hh hb he
    simp only [Way.one] at ho
    have key : ∀ i, i ≤ l.length → oo i = oo 0 := by
      intro i
      induction i with
      | zero => intro _; rfl
      | succ i ihi =>
        intro hi
        have e := ihi (by omega)
        have := ih i (by omega) (oneL_get ho _ (List.getElem_mem _)) (fun x hx => hh x (.inOrder _ (List.getElem_mem _) hx)) hb (by rw [e]; exact he)
        rw [this, e]
    exact key _ (Nat.le_refl _)
  | again h ih => intro ho hh hb he; simp only [Way.one] at ho; exact ih (hE _ ho) (fun x hx => hh x (.again hx)) hb he
/-- the ends are the things 1 that are done -/
def EndsD (s : Sg) : Prop := ∀ q : Nat, (1, (q : Int)) ∈ s.done ↔ (q : Int) ∈ s.parses.map Prod.fst
theorem Did.ends {W : Way} {p : Nat} {s s' : Sg} (h : Did tx E Bd W p s s') (he : EndsD s) : EndsD s' := fun q => by
  obtain ⟨l, e, _, hp, _⟩ := h.par
  rw [e, List.map_append, List.mem_append, hp q, ← he q]
  constructor
  · intro h1
    by_cases c : (1, (q : Int)) ∈ s.done
    · exact .inl c
    · exact .inr ⟨h1, c⟩
  · rintro (h1 | h1)
    · exact h.more _ h1
    · exact h1.1
theorem Did.blk {W : Way} {p : Nat} {s s' : Sg} (h : Did tx E Bd W p s s') {was : List (Int × Int)} (hb : Blk tx E Bd s.done was) : Blk tx E Bd s'.done was := fun n q hn h1 hw x hx => by
  by_cases c : (n, (q : Int)) ∈ s.done
  · exact h.more _ (hb n q c h1 hw x hx)
  · exact h.new n q hn c h1 x hx
/-- ALL WALKS find, of each end, what the way that does no thing twice finds -/
theorem ex_hx (hE : ∀ b, A b → (E b).one Bd A) {W : Way} {p : Nat} {s s' : Sg} (h : Ex tx E W p s s') : W.one Bd A → ∀ (was : List (Int × Int)) (out' : List (Int × List Int)), (∀ h ∈ was, h ∈ s.done) → Blk tx E Bd s.done was → EndsD s → Hx tx E W p was s.notes s.parses out' → out' = s'.parses := by
  induction h with
  | through p s => intro ho; simp [Way.one] at ho
  | @skip n d p s h =>
    intro ho was out' hw hb he hx
    exact hx_black hE s.done hx ho (fun x hx => by cases hx; exact h) hb (fun q hq => (he q).1 hq)
  | @once n d p s s' h hd ih =>
    intro ho was out' hw hb he hx
    simp only [Way.one] at ho
    rcases ho.2 with ⟨rfl, rfl⟩ | ⟨h1, hd1⟩
    · cases hd with
      | through =>
        cases hx with
        | there hin => exact absurd ((he p).2 hin) h
        | new hin => rfl
        | skip h1 _ => exact absurd rfl h1
        | once h1 _ _ => exact absurd rfl h1
    · cases hx with
      | there _ => exact absurd rfl h1
      | new _ => exact absurd rfl h1
      | skip _ hin => exact absurd (hw _ hin) h
      | once _ hin hx' =>
        refine ih hd1 ((n, (p : Int)) :: was) out' (fun x hx => ?_) (fun m q hm hm1 hmw x hx => ?_) (fun q => ?_) hx'
        · simp only [List.mem_cons] at hx
          rcases hx with rfl | hx
          · simp
          · exact List.mem_append.2 (.inl (hw x hx))
        · simp only [List.mem_append, List.mem_singleton] at hm
          rcases hm with hm | hm
          · exact List.mem_append.2 (.inl (hb m q hm hm1 (fun h => hmw (List.mem_cons_of_mem _ h)) x hx))
          · exact absurd (by rw [hm]; simp) hmw
        · simp only [List.mem_append, List.mem_singleton, Prod.mk.injEq]
          rw [← he q]
          constructor
          · rintro (h | ⟨h, _⟩)
            · exact h
            · exact absurd h.symm h1
          · exact .inl
  | noted hd ih =>
    intro ho was out' hw hb he hx
    simp only [Way.one] at ho
    cases hx with
    | noted hx' => exact ih ho was out' hw hb he hx'
  | over h =>
    intro ho was out' hw hb he hx
    cases hx with
    | over _ => rfl
    | other h' _ => omega
    | rune h' _ _ => omega
  | other h hr =>
    intro ho was out' hw hb he hx
    cases hx with
    | over h' => omega
    | other _ _ => rfl
    | rune _ hr' _ => rw [hr] at hr'; cases hr'
  | rune h hr hd ih =>
    intro ho was out' hw hb he hx
    simp only [Way.one] at ho
    cases hx with
    | over h' => omega
    | other _ hr' => rw [hr] at hr'; cases hr'
    | rune _ _ hx' => exact ih ho was out' hw hb he hx'
  | fails h =>
    intro ho was out' hw hb he hx
    cases hx with
    | fails _ => rfl
    | holds h' _ => rw [h] at h'; cases h'
  | holds h hd ih =>
    intro ho was out' hw hb he hx
    simp only [Way.one] at ho
    cases hx with
    | fails h' => rw [h] at h'; cases h'
    | holds _ hx' => exact ih ho was out' hw hb he hx'
  | @inOrder l p ss h ih =>
    intro ho was out' hw hb he hx
    simp only [Way.one] at ho
    obtain ⟨oo, h0, h1, hs⟩ : ∃ oo : Nat → List (Int × List Int), oo 0 = (ss 0).parses ∧ oo l.length = out' ∧ ∀ i (hi : i < l.length), Hx tx E (l[i]'hi) p was (ss 0).notes (oo i) (oo (i + 1)) := by
      generalize hP : (ss 0).parses = P at hx
      cases hx with
      | inOrder oo hs => exact ⟨oo, rfl, rfl, hs⟩
    have key : ∀ i, i ≤ l.length → oo i = (ss i).parses ∧ (ss i).notes = (ss 0).notes ∧ (∀ h ∈ was, h ∈ (ss i).done) ∧ Blk tx E Bd (ss i).done was ∧ EndsD (ss i) := by
      intro i
      induction i with
      | zero => intro _; exact ⟨h0, rfl, hw, hb, he⟩
      | succ i ihi =>
        intro hi
        obtain ⟨e1, e2, e3, e4, e5⟩ := ihi (by omega)
        have hone := oneL_get ho _ (List.getElem_mem (show i < l.length by omega))
        have hD := ex_did hE (h i (by omega)) hone
        have hxi := hs i (by omega)
        rw [e1, ← e2] at hxi
        exact ⟨ih i (by omega) hone was _ e3 e4 e5 hxi, (h i (by omega)).notes.trans e2, fun x hx => hD.more _ (e3 x hx), hD.blk e4, hD.ends e5⟩
    rw [← h1]
    exact (key _ (Nat.le_refl _)).1
  | again h ih =>
    intro ho was out' hw hb he hx
    simp only [Way.one] at ho
    cases hx with
    | again hx' => exact ih (hE _ ho) was out' hw hb he hx'
end
end Go.Proofs.Ytnpocciioedgpaa
/- HELPERS: the way of a tree whose nodes bear numbers: what its loops go round, what its things are; it has the tree's parses. -/
namespace Go.Proofs.Ytnpocciioedgpaa
open Go.RowKit
set_option linter.unusedVariables false
set_option linter.unusedSimpArgs false
mutual
/-- what the loops go round -/
def Lt.le : Lt → Way → List (Nat × Way)
  | .mk lb k R a s mn mx lz ix nm, B => if k = 4 then leC s B else if k = 5 then leA s B else if k = 7 then leH s (.noted (2 * ix.toNat + 1) B)
    else if k = 6 then (if mx < 0 then (lb, fwH s (Kd lz lb B)) :: leH s (Kd lz lb B) else leH s B) else []
def leC : List Lt → Way → List (Nat × Way)
  | [], _ => []
  | t :: ts, B => t.le (fwC ts B) ++ leC ts B
def leA : List Lt → Way → List (Nat × Way)
  | [], _ => []
  | t :: ts, B => t.le B ++ leA ts B
def leH : List Lt → Way → List (Nat × Way)
  | [], _ => []
  | t :: _, B => t.le B
end
mutual
/-- the counts are x*, x+, x? -/
def Lt.sf : Lt → Prop
  | .mk lb k R a s mn mx lz ix nm => (k = 6 → (mn = 0 ∧ mx = -1 ∨ mn = 1 ∧ mx = -1) ∨ mn = 0 ∧ mx = 1) ∧ sfL s
def sfL : List Lt → Prop
  | [] => True
  | t :: ts => t.sf ∧ sfL ts
end
mutual
theorem le_sub : ∀ (T : Lt) (B : Way), ((T.le B).map Prod.fst).Sublist T.lbs
  | .mk lb k R a s mn mx lz ix nm, B => by
    simp only [Lt.le, Lt.lbs]
    split
    · exact (leC_sub s B).trans (List.sublist_cons_self ..)
    · split
      · exact (leA_sub s B).trans (List.sublist_cons_self ..)
      · split
        · exact (leH_sub s _).trans (List.sublist_cons_self ..)
        · split
          · split
            · simp only [List.map_cons]
              exact (leH_sub s _).cons_cons _
            · exact (leH_sub s _).trans (List.sublist_cons_self ..)
          · exact List.nil_sublist _
theorem leC_sub : ∀ (ts : List Lt) (B : Way), ((leC ts B).map Prod.fst).Sublist (lbsL ts)
  | [], B => by simp [leC]
  | t :: ts, B => by simp only [leC, lbsL, List.map_append]; exact (le_sub t _).append (leC_sub ts B)
theorem leA_sub : ∀ (ts : List Lt) (B : Way), ((leA ts B).map Prod.fst).Sublist (lbsL ts)
  | [], B => by simp [leA]
  | t :: ts, B => by simp only [leA, lbsL, List.map_append]; exact (le_sub t _).append (leA_sub ts B)
theorem leH_sub : ∀ (ts : List Lt) (B : Way), ((leH ts B).map Prod.fst).Sublist (lbsL ts)
  | [], B => by simp [leH]
  | t :: ts, B => by simp only [leH, lbsL]; exact (le_sub t _).trans (List.sublist_append_left ..)
end
mutual
theorem eo_of (E : Nat → Way) : ∀ (T : Lt) (B : Way), T.sf → (∀ x ∈ T.le B, E x.1 = x.2) → T.eo E B
  | .mk lb k R a s mn mx lz ix nm, B, hs, h => by
    simp only [Lt.sf] at hs
    simp only [Lt.eo]
    refine ⟨fun h4 => ?_, fun h5 => ?_, fun h7 => ?_, fun h6 => ?_⟩
    · subst h4
      exact eoC_of E s B hs.2 (fun x hx => h x (by simpa [Lt.le] using hx))
    · subst h5
      exact eoA_of E s B hs.2 (fun x hx => h x (by simpa [Lt.le] using hx))
    · subst h7
      exact eoH_of E s _ hs.2 (fun x hx => h x (by simpa [Lt.le] using hx))
    · subst h6
      rcases hs.1 rfl with h1 | h1
      · left
        have hm : mx < 0 := by omega
        refine ⟨h1, h (lb, fwH s (Kd lz lb B)) (by simp [Lt.le, hm]), eoH_of E s _ hs.2 (fun x hx => h x (by simp [Lt.le, hm]; exact .inr hx))⟩
      · right
        have hm : ¬ mx < 0 := by omega
        exact ⟨h1, eoH_of E s _ hs.2 (fun x hx => h x (by simpa [Lt.le, hm] using hx))⟩
theorem eoC_of (E : Nat → Way) : ∀ (ts : List Lt) (B : Way), sfL ts → (∀ x ∈ leC ts B, E x.1 = x.2) → eoC E ts B
  | [], B, _, _ => by simp [eoC]
  | t :: ts, B, hs, h => by
    simp only [sfL] at hs
    simp only [leC, List.mem_append] at h
    simp only [eoC]
    exact ⟨eo_of E t _ hs.1 (fun x hx => h x (.inl hx)), eoC_of E ts B hs.2 (fun x hx => h x (.inr hx))⟩
theorem eoA_of (E : Nat → Way) : ∀ (ts : List Lt) (B : Way), sfL ts → (∀ x ∈ leA ts B, E x.1 = x.2) → eoA E ts B
  | [], B, _, _ => by simp [eoA]
  | t :: ts, B, hs, h => by
    simp only [sfL] at hs
    simp only [leA, List.mem_append] at h
    simp only [eoA]
    exact ⟨eo_of E t _ hs.1 (fun x hx => h x (.inl hx)), eoA_of E ts B hs.2 (fun x hx => h x (.inr hx))⟩
theorem eoH_of (E : Nat → Way) : ∀ (ts : List Lt) (B : Way), sfL ts → (∀ x ∈ leH ts B, E x.1 = x.2) → eoH E ts B
  | [], B, _, _ => by simp [eoH]
  | t :: ts, B, hs, h => by
    simp only [sfL] at hs
    simp only [leH] at h
    simp only [eoH]
    exact eo_of E t _ hs.1 h
end
theorem Kd_tg {top lb : Nat} (h : 2 * lb + 3 ≤ top) {lz : Bool} {B : Way} (hB : B.tg top) : (Kd lz lb B).tg top := by
  simp only [Way.tg]
  refine ⟨⟨by simp only [kd]; omega, by simp only [kd]; omega⟩, .inr ?_⟩
  cases lz <;> simp [tgL, hB, Way.tg]
mutual
theorem fw_tg {top : Nat} : ∀ (T : Lt) (B : Way), (∀ lb ∈ T.lbs, 2 * lb + 3 ≤ top) → B.tg top → (T.fw B).tg top ∧ ∀ x ∈ T.le B, x.2.tg top ∧ x.2.ua = []
  | .mk lb k R a s mn mx lz ix nm, B, hl, hB => by
    simp only [Lt.lbs, List.mem_cons, forall_eq_or_imp] at hl
    obtain ⟨h0, hls⟩ := hl
    have hk : 0 ≤ kb lb ∧ kb lb ≤ (top : Int) := by simp only [kb]; omega
    simp only [Lt.fw, Lt.le, Way.tg]
    split
    · rename_i e; subst e
      refine ⟨⟨hk, .inr (by simp only [Way.tg]; exact hB)⟩, by simp⟩
    · split
      · rename_i e; subst e
        refine ⟨⟨hk, .inr (by simp only [Way.tg]; exact hB)⟩, by simp⟩
      · split
        · obtain ⟨q1, q2⟩ := fwC_tg s B hls hB
          exact ⟨⟨hk, .inr q1⟩, q2⟩
        · split
          · obtain ⟨q1, q2⟩ := fwA_tg s B hls hB
            exact ⟨⟨hk, .inr (by simp only [Way.tg]; exact q1)⟩, q2⟩
          · split
            · obtain ⟨q1, q2, _⟩ := fwH_tg s (.noted (2 * ix.toNat + 1) B) hls (by simp only [Way.tg]; exact hB)
              exact ⟨⟨hk, .inr (by simp only [Way.tg]; exact q1)⟩, q2⟩
            · split
              · split
                · obtain ⟨q1, q2, q3⟩ := fwH_tg s (Kd lz lb B) hls (Kd_tg h0 hB)
                  refine ⟨⟨hk, .inr ?_⟩, fun x hx => ?_⟩
                  · split
                    · exact Kd_tg h0 hB
                    · exact q1
                  · simp only [List.mem_cons] at hx
                    rcases hx with rfl | hx
                    · exact ⟨q1, q3 (by simp [Way.ua])⟩
                    · exact q2 x hx
                · obtain ⟨q1, q2, _⟩ := fwH_tg s B hls hB
                  exact ⟨⟨hk, .inr (by simp only [Way.tg]; cases lz <;> simp [tgL, q1, hB])⟩, q2⟩
              · exact ⟨⟨hk, .inr hB⟩, by simp⟩
theorem fwC_tg {top : Nat} : ∀ (ts : List Lt) (B : Way), (∀ lb ∈ lbsL ts, 2 * lb + 3 ≤ top) → B.tg top → (fwC ts B).tg top ∧ ∀ x ∈ leC ts B, x.2.tg top ∧ x.2.ua = []
  | [], B, _, hB => by simp [fwC, leC, hB]
  | t :: ts, B, hl, hB => by
    simp only [lbsL, List.mem_append] at hl
    obtain ⟨q1, q2⟩ := fwC_tg ts B (fun lb h => hl lb (.inr h)) hB
    obtain ⟨p1, p2⟩ := fw_tg t (fwC ts B) (fun lb h => hl lb (.inl h)) q1
    simp only [fwC, leC, List.mem_append]
    exact ⟨p1, fun x hx => hx.elim (p2 x) (q2 x)⟩
theorem fwA_tg {top : Nat} : ∀ (ts : List Lt) (B : Way), (∀ lb ∈ lbsL ts, 2 * lb + 3 ≤ top) → B.tg top → tgL top (fwA ts B) ∧ ∀ x ∈ leA ts B, x.2.tg top ∧ x.2.ua = []
  | [], B, _, hB => by simp [fwA, leA, tgL]
  | t :: ts, B, hl, hB => by
    simp only [lbsL, List.mem_append] at hl
    obtain ⟨q1, q2⟩ := fwA_tg ts B (fun lb h => hl lb (.inr h)) hB
    obtain ⟨p1, p2⟩ := fw_tg t B (fun lb h => hl lb (.inl h)) hB
    simp only [fwA, leA, List.mem_append, tgL]
    exact ⟨⟨p1, q1⟩, fun x hx => hx.elim (p2 x) (q2 x)⟩
theorem fwH_tg {top : Nat} : ∀ (ts : List Lt) (B : Way), (∀ lb ∈ lbsL ts, 2 * lb + 3 ≤ top) → B.tg top → (fwH ts B).tg top ∧ (∀ x ∈ leH ts B, x.2.tg top ∧ x.2.ua = []) ∧ (B.ua = [] → (fwH ts B).ua = [])
  | [], B, _, hB => by simp [fwH, leH, hB]
  | t :: ts, B, hl, hB => by
    simp only [lbsL, List.mem_append] at hl
    obtain ⟨p1, p2⟩ := fw_tg t B (fun lb h => hl lb (.inl h)) hB
    simp only [fwH, leH]
    exact ⟨p1, p2, fun _ => by cases t; simp [Lt.fw, Way.ua]⟩
end
/-- THE PARSES by the way of a tree whose nodes bear numbers are the tree's -/
theorem full_ps {E : Nat → Way} {T : Lt} {K : Nat} {tx : List Int} {p : Nat} {l : List (Int × List Int)} {s' : Sg} (hN : T.lbs.Nodup) (hE : T.eo E (.once 1 .through)) (h : PS T.tn K tx p l) (hx : Ex tx E (T.fw (.once 1 .through)) p ⟨[], (List.replicate K (-1)).set 0 (p : Int), []⟩ s') : s'.parses = l := by
  obtain ⟨E', W', n1', s1', hB', hE', hg', hx', rfl⟩ := h.ex
  obtain ⟨G0, hG0⟩ : ∃ G0 : Mat, G0 = ⟨fun a a' => a = 1 ∧ a' = 1, fun _ _ => False, fun _ _ => False, fun _ => .through, false, Eq, Eq⟩ := ⟨_, rfl⟩
  obtain ⟨U1, G, hI, hgr, _, hS, h0, hH⟩ := full_sim hB' T rfl hN _ hE (fun m => m = 1) G0 (by rw [hG0]) (by rw [hG0]; exact ⟨fun a a' h => by simp at h; exact ⟨h.1, by omega⟩, fun _ _ h => h.elim, fun a a' m m' h1 h2 => by simp at h1 h2; omega, fun _ _ _ h => h.elim, fun _ _ _ h => h.elim⟩) (fun lb _ => ⟨by simp only [kb]; omega, by simp only [kd]; omega⟩) (by rw [hG0]; exact .once ⟨rfl, rfl⟩ .through) ⟨1, by rw [hG0]; exact .once (n' := 1) ⟨rfl, rfl⟩⟩
  have hnr : G.NR = Eq := by rw [hgr.nr, hG0]
  have hpr : G.PR = Eq := by rw [hgr.pr, hG0]
  have hdr : G.drop = false := by rw [hgr.dr, hG0]
  have hok : G.Ok E E' := by
    refine ⟨hI.one, hI.noC, hI.oneX, fun b b' hb => ?_, fun c x ν ν' hd hn => ?_, fun c x ν ν' hd _ => (by rw [hdr] at hd; cases hd), fun q ν ν' a b hn h => ?_⟩
    · rcases hgr.new b b' hb with hb | hb
      · rw [hG0] at hb; exact hb.elim
      · exact hb
    · rw [hnr] at hn ⊢; rw [hn]
    · rw [hpr] at h ⊢
      rw [hnr] at hn
      rw [hn, h]
  obtain ⟨s2, hx2, hA⟩ := sim_ex hok hx W' ⟨[], (List.replicate K (-1)).set 0 (p : Int), []⟩ NoP hS ⟨fun a a' q _ => by simp, fun m n0 q _ hm => by simp at hm, by rw [hnr], by rw [hpr]⟩ (Pend.no _ _)
  have e := hx'.det hx2
  subst e
  have := hA.pr
  rw [hpr] at this
  exact this
end Go.Proofs.Ytnpocciioedgpaa
/- HELPERS: the way of a tree whose nodes bear numbers: each thing has one body; ALL WALKS by it, one by one, have of each end the tree's parse. -/
namespace Go.Proofs.Ytnpocciioedgpaa
open Go.RowKit
set_option linter.unusedVariables false
set_option linter.unusedSimpArgs false
/-- what is begun -/
def Lt.body : Lt → Way → Way
  | .mk lb k R a s mn mx lz ix nm, B => if k = 2 then .runeOf R B else if k = 3 then .ifHolds a B else if k = 4 then fwC s B else if k = 5 then .inOrder (fwA s B)
     else if k = 7 then .noted (2 * ix.toNat) (fwH s (.noted (2 * ix.toNat + 1) B))
     else if k = 6 then (if mx < 0 then (if mn = 0 then Kd lz lb B else fwH s (Kd lz lb B)) else .inOrder (if lz = true then [B, fwH s B] else [fwH s B, B]))
     else B
theorem fw_body (T : Lt) (B : Way) : ∃ lb, T.fw B = .once (kb lb) (T.body B) := by
  cases T with
  | mk lb k R a s mn mx lz ix nm => exact ⟨lb, by simp only [Lt.fw, Lt.body]⟩
mutual
/-- the things and their bodies -/
def Lt.bd : Lt → Way → List (Int × Way)
  | .mk lb k R a s mn mx lz ix nm, B => (kb lb, (Lt.mk lb k R a s mn mx lz ix nm).body B) ::
    (if k = 4 then bdC s B else if k = 5 then bdA s B else if k = 7 then bdH s (.noted (2 * ix.toNat + 1) B)
    else if k = 6 then (if mx < 0 then (kd lb, .inOrder (if lz = true then [B, .again lb] else [.again lb, B])) :: bdH s (Kd lz lb B) else bdH s B) else [])
def bdC : List Lt → Way → List (Int × Way)
  | [], _ => []
  | t :: ts, B => t.bd (fwC ts B) ++ bdC ts B
def bdA : List Lt → Way → List (Int × Way)
  | [], _ => []
  | t :: ts, B => t.bd B ++ bdA ts B
def bdH : List Lt → Way → List (Int × Way)
  | [], _ => []
  | t :: _, B => t.bd B
end
/-- the things of these numbers -/
def ks : List Nat → List Int
  | [] => []
  | lb :: L => kb lb :: kd lb :: ks L
theorem ks_app (L M : List Nat) : ks (L ++ M) = ks L ++ ks M := by
  induction L with
  | nil => rfl
  | cons x L ih => simp [ks, ih]
theorem ks_mem {L : List Nat} {m : Int} : m ∈ ks L ↔ ∃ lb ∈ L, m = kb lb ∨ m = kd lb := by
  induction L with
  | nil => simp [ks]
  | cons x L ih =>
    simp only [ks, List.mem_cons, ih]
    constructor
    · rintro (h | h | ⟨lb, h1, h2⟩)
      · exact ⟨x, .inl rfl, .inl h⟩
      · exact ⟨x, .inl rfl, .inr h⟩
      · exact ⟨lb, .inr h1, h2⟩
    · rintro ⟨lb, rfl | h1, h2⟩
      · rcases h2 with h2 | h2
        · exact .inl h2
        · exact .inr (.inl h2)
      · exact .inr (.inr ⟨lb, h1, h2⟩)
theorem ks_nodup {L : List Nat} (h : L.Nodup) : (1 :: ks L).Nodup := by
  induction L with
  | nil => simp [ks]
  | cons x L ih =>
    simp only [List.nodup_cons] at h
    have := ih h.2
    simp only [ks, List.nodup_cons, List.mem_cons, ks_mem] at this ⊢
    have hx : ∀ m, (m = kb x ∨ m = kd x) → ¬ ∃ lb ∈ L, m = kb lb ∨ m = kd lb := fun m hm ⟨lb, h1, h2⟩ => by
      have hne : lb ≠ x := fun e => h.1 (e ▸ h1)
      simp only [kb, kd] at hm h2
      omega
    refine ⟨fun hh => ?_, fun hh => ?_, hx _ (.inr rfl), this.2⟩
    · rcases hh with hh | hh | hh
      · simp only [kb] at hh; omega
      · simp only [kd] at hh; omega
      · exact this.1 hh
    · rcases hh with hh | hh
      · simp only [kb, kd] at hh; omega
      · exact hx _ (.inl rfl) hh
mutual
theorem bd_sub : ∀ (T : Lt) (B : Way), ((T.bd B).map Prod.fst).Sublist (ks T.lbs)
  | .mk lb k R a s mn mx lz ix nm, B => by
    simp only [Lt.bd, Lt.lbs, List.map_cons, ks]
    refine List.Sublist.cons_cons _ ?_
    split
    · exact (bdC_sub s B).trans (List.sublist_cons_self ..)
    · split
      · exact (bdA_sub s B).trans (List.sublist_cons_self ..)
      · split
        · exact (bdH_sub s _).trans (List.sublist_cons_self ..)
        · split
          · split
            · simp only [List.map_cons]
              exact (bdH_sub s _).cons_cons _
            · exact (bdH_sub s _).trans (List.sublist_cons_self ..)
          · exact List.nil_sublist _
theorem bdC_sub : ∀ (ts : List Lt) (B : Way), ((bdC ts B).map Prod.fst).Sublist (ks (lbsL ts))
  | [], B => by simp [bdC]
  | t :: ts, B => by simp only [bdC, lbsL, List.map_append, ks_app]; exact (bd_sub t _).append (bdC_sub ts B)
theorem bdA_sub : ∀ (ts : List Lt) (B : Way), ((bdA ts B).map Prod.fst).Sublist (ks (lbsL ts))
  | [], B => by simp [bdA]
  | t :: ts, B => by simp only [bdA, lbsL, List.map_append, ks_app]; exact (bd_sub t _).append (bdA_sub ts B)
theorem bdH_sub : ∀ (ts : List Lt) (B : Way), ((bdH ts B).map Prod.fst).Sublist (ks (lbsL ts))
  | [], B => by simp [bdH]
  | t :: ts, B => by simp only [bdH, lbsL, ks_app]; exact (bd_sub t _).trans (List.sublist_append_left ..)
end
theorem Kd_one {Bd : Int → Way} {A : Nat → Prop} {lz : Bool} {lb : Nat} {B : Way} (h : Bd (kd lb) = .inOrder (if lz = true then [B, .again lb] else [.again lb, B])) (hA : A lb) (hB : B.one Bd A) : (Kd lz lb B).one Bd A := by
  simp only [Way.one]
  refine ⟨h, .inr ⟨by simp only [kd]; omega, ?_⟩⟩
  cases lz <;> simp [oneL, Way.one, hA, hB]
mutual
theorem fw_one {Bd : Int → Way} {A : Nat → Prop} : ∀ (T : Lt) (B : Way), (∀ x ∈ T.bd B, Bd x.1 = x.2) → (∀ x ∈ T.le B, A x.1) → B.one Bd A → (T.fw B).one Bd A ∧ ∀ x ∈ T.le B, x.2.one Bd A
  | .mk lb k R a s mn mx lz ix nm, B, hb, hA, hB => by
    simp only [Lt.bd, List.mem_cons, forall_eq_or_imp] at hb
    obtain ⟨h0, hbs⟩ := hb
    have hne : kb lb ≠ 1 := by simp only [kb]; omega
    have key : (Lt.body (.mk lb k R a s mn mx lz ix nm) B).one Bd A ∧ ∀ x ∈ (Lt.mk lb k R a s mn mx lz ix nm).le B, x.2.one Bd A := by
      simp only [Lt.body, Lt.le] at hA ⊢
      split
      · rename_i e; subst e
        exact ⟨by simp only [Way.one]; exact hB, by simp⟩
      · split
        · rename_i e; subst e
          exact ⟨by simp only [Way.one]; exact hB, by simp⟩
        · split
          · rename_i e; subst e
            simp at hbs hA
            obtain ⟨q1, q2⟩ := fwC_one s B (fun x hx => hbs x.1 x.2 hx) (fun x hx => hA x.1 x.2 hx) hB
            exact ⟨q1, q2⟩
          · split
            · rename_i e; subst e
              simp at hbs hA
              obtain ⟨q1, q2⟩ := fwA_one s B (fun x hx => hbs x.1 x.2 hx) (fun x hx => hA x.1 x.2 hx) hB
              exact ⟨by simp only [Way.one]; exact q1, q2⟩
            · split
              · rename_i e; subst e
                simp at hbs hA
                obtain ⟨q1, q2⟩ := fwH_one s (.noted (2 * ix.toNat + 1) B) (fun x hx => hbs x.1 x.2 hx) (fun x hx => hA x.1 x.2 hx) (by simp only [Way.one]; exact hB)
                exact ⟨by simp only [Way.one]; exact q1, q2⟩
              · split
                · rename_i e; subst e
                  split
                  · rename_i hm
                    simp [hm] at hbs hA
                    obtain ⟨hb1, hb2⟩ := hbs
                    have hK := Kd_one (lz := lz) (B := B) hb1 hA.1 hB
                    obtain ⟨q1, q2⟩ := fwH_one s (Kd lz lb B) (fun x hx => hb2 x.1 x.2 hx) (fun x hx => hA.2 x.1 x.2 hx) hK
                    refine ⟨?_, fun x hx => ?_⟩
                    · split
                      · exact hK
                      · exact q1
                    · simp only [List.mem_cons] at hx
                      rcases hx with rfl | hx
                      · exact q1
                      · exact q2 x hx
                  · rename_i hm
                    simp [hm] at hbs hA
                    obtain ⟨q1, q2⟩ := fwH_one s B (fun x hx => hbs x.1 x.2 hx) (fun x hx => hA x.1 x.2 hx) hB
                    exact ⟨by simp only [Way.one]; cases lz <;> simp [oneL, q1, hB], q2⟩
                · exact ⟨hB, by simp⟩
    refine ⟨?_, key.2⟩
    show (Way.once (kb lb) (Lt.body (.mk lb k R a s mn mx lz ix nm) B)).one Bd A
    simp only [Way.one]
    exact ⟨h0, .inr ⟨hne, key.1⟩⟩
theorem fwC_one {Bd : Int → Way} {A : Nat → Prop} : ∀ (ts : List Lt) (B : Way), (∀ x ∈ bdC ts B, Bd x.1 = x.2) → (∀ x ∈ leC ts B, A x.1) → B.one Bd A → (fwC ts B).one Bd A ∧ ∀ x ∈ leC ts B, x.2.one Bd A
  | [], B, _, _, hB => by simp [fwC, leC, hB]
  | t :: ts, B, hb, hA, hB => by
    simp only [bdC, leC, List.mem_append] at hb hA
    obtain ⟨q1, q2⟩ := fwC_one ts B (fun x h => hb x (.inr h)) (fun x h => hA x (.inr h)) hB
    obtain ⟨p1, p2⟩ := fw_one t (fwC ts B) (fun x h => hb x (.inl h)) (fun x h => hA x (.inl h)) q1
    simp only [fwC, leC, List.mem_append]
    exact ⟨p1, fun x hx => hx.elim (p2 x) (q2 x)⟩
theorem fwA_one {Bd : Int → Way} {A : Nat → Prop} : ∀ (ts : List Lt) (B : Way), (∀ x ∈ bdA ts B, Bd x.1 = x.2) → (∀ x ∈ leA ts B, A x.1) → B.one Bd A → oneL Bd A (fwA ts B) ∧ ∀ x ∈ leA ts B, x.2.one Bd A
  | [], B, _, _, hB => by simp [fwA, leA, oneL]
  | t :: ts, B, hb, hA, hB => by
    simp only [bdA, leA, List.mem_append] at hb hA
    obtain ⟨q1, q2⟩ := fwA_one ts B (fun x h => hb x (.inr h)) (fun x h => hA x (.inr h)) hB
    obtain ⟨p1, p2⟩ := fw_one t B (fun x h => hb x (.inl h)) (fun x h => hA x (.inl h)) hB
    simp only [fwA, leA, List.mem_append, oneL]
    exact ⟨⟨p1, q1⟩, fun x hx => hx.elim (p2 x) (q2 x)⟩
theorem fwH_one {Bd : Int → Way} {A : Nat → Prop} : ∀ (ts : List Lt) (B : Way), (∀ x ∈ bdH ts B, Bd x.1 = x.2) → (∀ x ∈ leH ts B, A x.1) → B.one Bd A → (fwH ts B).one Bd A ∧ ∀ x ∈ leH ts B, x.2.one Bd A
  | [], B, _, _, hB => by simp [fwH, leH, hB]
  | t :: ts, B, hb, hA, hB => by
    simp only [bdH, leH] at hb hA
    simp only [fwH, leH]
    exact fw_one t B hb hA hB
end
/-- what things are, by a table -/
def bdOf (L : List (Int × Way)) (m : Int) : Way := ((L.find? fun x => x.1 == m).map Prod.snd).getD .through
theorem bdOf_mem : ∀ (L : List (Int × Way)), (L.map Prod.fst).Nodup → ∀ x ∈ L, bdOf L x.1 = x.2 := by
  intro L
  induction L with
  | nil => intro _ p hp; cases hp
  | cons q L ih =>
    intro hn p hp
    simp only [List.map_cons, List.nodup_cons] at hn
    simp only [List.mem_cons] at hp
    rcases hp with rfl | hp
    · simp [bdOf]
    · have hne : q.1 ≠ p.1 := fun e => hn.1 (by rw [e]; exact List.mem_map_of_mem hp)
      have := ih hn.2 p hp
      simp only [bdOf, List.find?_cons] at this ⊢
      rw [show (q.1 == p.1) = false by simpa using hne]
      exact this
/-- the loops of such a tree -/
abbrev Lt.env (T : Lt) : Nat → Way := envOf (T.le (.once 1 .through))
theorem env_eo {T : Lt} (hN : T.lbs.Nodup) (hs : T.sf) : T.eo T.env (.once 1 .through) := eo_of _ T _ hs (fun x hx => envOf_mem _ ((le_sub T _).nodup hN) x hx)
theorem le_sum_mem {x : Nat} : ∀ {L : List Nat}, x ∈ L → x ≤ L.sum := by
  intro L
  induction L with
  | nil => intro h; cases h
  | cons y L ih =>
    intro h
    simp only [List.mem_cons] at h
    simp only [List.sum_cons]
    rcases h with rfl | h
    · omega
    · have := ih h; omega
/-- ALL WALKS have of each end the tree's parse -/
theorem full_hx {T : Lt} {K : Nat} {tx : List Int} {p : Nat} {l out : List (Int × List Int)} (hN : T.lbs.Nodup) (hs : T.sf) (h : PS T.tn K tx p l) (hp : p ≤ tx.length) (hx : Hx tx T.env (T.fw (.once 1 .through)) p [] ((List.replicate K (-1)).set 0 (p : Int)) [] out) : out = l := by
  obtain ⟨top, htop⟩ : ∃ top : Nat, 1 ≤ top ∧ ∀ lb ∈ T.lbs, 2 * lb + 3 ≤ top := by
    refine ⟨2 * T.lbs.sum + 3, by omega, fun lb hl => ?_⟩
    have := le_sum_mem hl
    omega
  have h1 : (Way.once 1 .through).tg top := by simp only [Way.tg]; exact ⟨⟨by omega, by omega⟩, .inl ⟨trivial, trivial⟩⟩
  obtain ⟨g1, g2⟩ := fw_tg T (.once 1 .through) htop.2 h1
  have hEt : ∀ b, (T.env b).tg top ∧ (T.env b).ua = [] := fun b => by
    show (envOf (T.le (.once 1 .through)) b).tg top ∧ (envOf (T.le (.once 1 .through)) b).ua = []
    unfold envOf
    cases hf : (T.le (.once 1 .through)).find? fun p => p.1 == b with
    | none => exact ⟨by simp [Way.tg, tgL], by simp [Way.ua, uaL]⟩
    | some x => exact g2 x (List.mem_of_find?_eq_some hf)
  obtain ⟨s', he, _⟩ := good_all (E := T.env) (tx := tx) (top := top) hEt _ ⟨[], (List.replicate K (-1)).set 0 (p : Int), []⟩ _ p (Nat.le_refl _) g1 hp
  have e1 := full_ps hN (env_eo hN hs) h he
  have hnd : (((1, Way.through) :: T.bd (.once 1 .through)).map Prod.fst).Nodup := by
    simp only [List.map_cons]
    exact ((bd_sub T _).cons_cons 1).nodup (ks_nodup hN)
  obtain ⟨Bd, hBd⟩ : ∃ Bd, Bd = bdOf ((1, Way.through) :: T.bd (.once 1 .through)) := ⟨_, rfl⟩
  have hb := bdOf_mem _ hnd
  rw [← hBd] at hb
  have ho1 : (Way.once 1 .through).one Bd (fun b => ∃ x ∈ T.le (.once 1 .through), x.1 = b) := by
    simp only [Way.one]
    exact ⟨hb (1, .through) (List.mem_cons_self ..), .inl ⟨trivial, trivial⟩⟩
  obtain ⟨o1, o2⟩ := fw_one (A := fun b => ∃ x ∈ T.le (.once 1 .through), x.1 = b) T (.once 1 .through) (fun x hx => hb x (List.mem_cons_of_mem _ hx)) (fun x hx => ⟨x, hx, rfl⟩) ho1
  have e2 := ex_hx (A := fun b => ∃ x ∈ T.le (.once 1 .through), x.1 = b) (Bd := Bd) (fun b ⟨x, hx, e⟩ => by rw [← e]; show (envOf _ x.1).one Bd _; rw [envOf_mem _ ((le_sub T _).nodup hN) x hx]; exact o2 x hx) he o1 [] out (fun h hh => by cases hh) (fun n q hq => by cases hq) (fun q => by simp) hx
  rw [e2]
  exact e1
end Go.Proofs.Ytnpocciioedgpaa
/- HELPERS: the places of an unfolded tree: each knows what it stands in; what goes on behind it. -/
namespace Go.Proofs.Ytnpocciioedgpaa
open Go.RowKit
set_option linter.unusedVariables false
set_option linter.unusedSimpArgs false
def Lt.lb : Lt → Nat | .mk lb .. => lb
def Lt.sub : Lt → List Lt | .mk _ _ _ _ s .. => s
/-- a place: a tree, what goes on behind it, what it stands in, as the how manieth -/
structure Pl where
  t : Lt
  B : Way
  up : Int
  nth : Nat
/-- what goes on behind the i-th Sub -/
def subB : Lt → Way → Nat → Way
  | .mk lb k R a s mn mx lz ix nm, B, i => if k = 4 then fwC (s.drop (i + 1)) B else if k = 7 then .noted (2 * ix.toNat + 1) B else if k = 6 ∧ mx < 0 then Kd lz lb B else B
mutual
/-- the places in their order -/
def Lt.ents : Lt → Way → Int → Nat → List Pl
  | .mk lb k R a s mn mx lz ix nm, B, up, nth => ⟨.mk lb k R a s mn mx lz ix nm, B, up, nth⟩ :: entsL (.mk lb k R a s mn mx lz ix nm) B s 0
def entsL (p : Lt) (B : Way) : List Lt → Nat → List Pl
  | [], _ => []
  | t :: ts, i => t.ents (subB p B i) (p.lb : Int) i ++ entsL p B ts (i + 1)
end
def child (e : Pl) (i : Nat) (h : i < e.t.sub.length) : Pl := ⟨e.t.sub[i], subB e.t e.B i, (e.t.lb : Int), i⟩
theorem ents_eq (T : Lt) (B : Way) (up : Int) (nth : Nat) : T.ents B up nth = ⟨T, B, up, nth⟩ :: entsL T B T.sub 0 := by cases T; simp [Lt.ents, Lt.sub]
theorem entsL_mem (p : Lt) (B : Way) : ∀ (ts : List Lt) (j : Nat) (x : Pl), x ∈ entsL p B ts j ↔ ∃ i, ∃ (h : i < ts.length), x ∈ (ts[i]).ents (subB p B (j + i)) (p.lb : Int) (j + i) := by
  intro ts
  induction ts with
  | nil => intro j x; simp [entsL]
  | cons t ts ih =>
    intro j x
    rw [entsL, List.mem_append, ih]
    constructor
    · rintro (h | ⟨i, h, hx⟩)
      · exact ⟨0, by simp, h⟩
      · exact ⟨i + 1, by simp; omega, by rw [show j + (i + 1) = j + 1 + i by omega]; exact hx⟩
    · rintro ⟨i, h, hx⟩
      cases i with
      | zero => exact .inl hx
      | succ i => exact .inr ⟨i, by simp at h; omega, by rw [show j + 1 + i = j + (i + 1) by omega]; exact hx⟩
theorem ents_root (T : Lt) (B : Way) (up : Int) (nth : Nat) : ⟨T, B, up, nth⟩ ∈ T.ents B up nth := by rw [ents_eq]; exact List.mem_cons_self ..
/-- induction over the places -/
theorem Lt.rec' {P : Lt → Prop} (h : ∀ T, (∀ t ∈ T.sub, P t) → P T) : ∀ T, P T := by
  intro T
  refine Lt.rec (motive_1 := P) (motive_2 := fun ts => ∀ t ∈ ts, P t) ?_ ?_ ?_ T
  · intro lb k R a s mn mx lz ix nm ih
    exact h _ ih
  · intro t ht; cases ht
  · intro t ts h1 h2 u hu
    rcases List.mem_cons.1 hu with rfl | hu
    · exact h1
    · exact h2 u hu
theorem ents_child : ∀ (T : Lt) (B : Way) (up : Int) (nth : Nat) (e : Pl), e ∈ T.ents B up nth → ∀ i (hi : i < e.t.sub.length), child e i hi ∈ T.ents B up nth := by
  refine Lt.rec' ?_
  intro T ih B up nth e he i hi
  rw [ents_eq] at he ⊢
  rcases List.mem_cons.1 he with rfl | he
  · refine List.mem_cons_of_mem _ ((entsL_mem _ _ _ _ _).2 ⟨i, hi, ?_⟩)
    rw [Nat.zero_add]
    exact ents_root _ _ _ _
  · obtain ⟨j, hj, hx⟩ := (entsL_mem _ _ _ _ _).1 he
    exact List.mem_cons_of_mem _ ((entsL_mem _ _ _ _ _).2 ⟨j, hj, ih _ (List.getElem_mem hj) _ _ _ _ hx i hi⟩)
theorem ents_parent : ∀ (T : Lt) (B : Way) (up : Int) (nth : Nat) (e : Pl), e ∈ T.ents B up nth → e = ⟨T, B, up, nth⟩ ∨ ∃ p ∈ T.ents B up nth, ∃ i, ∃ (hi : i < p.t.sub.length), e = child p i hi := by
  refine Lt.rec' ?_
  intro T ih B up nth e he
  rw [ents_eq] at he ⊢
  rcases List.mem_cons.1 he with rfl | he
  · exact .inl rfl
  · obtain ⟨j, hj, hx⟩ := (entsL_mem _ _ _ _ _).1 he
    right
    rcases ih _ (List.getElem_mem hj) _ _ _ _ hx with rfl | ⟨p, hp, i, hi, e'⟩
    · exact ⟨⟨T, B, up, nth⟩, List.mem_cons_self .., j, hj, by simp [child]⟩
    · exact ⟨p, List.mem_cons_of_mem _ ((entsL_mem _ _ _ _ _).2 ⟨j, hj, hp⟩), i, hi, e'⟩
theorem sub_tn (T : Lt) : T.tn.subs = T.sub.map Lt.tn := by cases T; simp [Lt.tn, Tn.subs, Lt.sub, tnL_map]
theorem fine_sub {T : Lt} (h : T.tn.fine = true) : ∀ t ∈ T.sub, t.tn.fine = true := by
  cases T with
  | mk lb k R a s mn mx lz ix nm =>
    simp only [Lt.tn, Tn.fine, Bool.and_eq_true] at h
    have key : ∀ ts : List Lt, fineL (tnL ts) = true → ∀ t ∈ ts, t.tn.fine = true := by
      intro ts
      induction ts with
      | nil => intro _ t ht; cases ht
      | cons u ts ih =>
        intro h t ht
        simp only [tnL, fineL, Bool.and_eq_true] at h
        rcases List.mem_cons.1 ht with rfl | ht
        · exact h.1
        · exact ih h.2 t ht
    exact key s h.2
theorem ents_fine : ∀ (T : Lt) (B : Way) (up : Int) (nth : Nat), T.tn.fine = true → ∀ e ∈ T.ents B up nth, e.t.tn.fine = true := by
  refine Lt.rec' ?_
  intro T ih B up nth hf e he
  rw [ents_eq] at he
  rcases List.mem_cons.1 he with rfl | he
  · exact hf
  · obtain ⟨j, hj, hx⟩ := (entsL_mem _ _ _ _ _).1 he
    exact ih _ (List.getElem_mem hj) _ _ _ (fine_sub hf _ (List.getElem_mem hj)) e hx
theorem node_fine {lb : Nat} {k : Int} {R : List (Int × Int)} {a : Int} {s : List Lt} {mn mx : Int} {lz : Bool} {ix : Int} {nm : ByteArray} (h : (Lt.mk lb k R a s mn mx lz ix nm).tn.fine = true) : FineN k R a s.length mn mx lz ix nm := by
  simp only [Lt.tn, Tn.fine, Bool.and_eq_true] at h
  have := fine_node h.1
  rwa [tnL_map, List.length_map] at this
theorem eoC_get {E : Nat → Way} {B : Way} : ∀ (s : List Lt) (i : Nat) (hi : i < s.length), eoC E s B → (s[i]).eo E (fwC (s.drop (i + 1)) B) := by
  intro s
  induction s with
  | nil => intro i hi; simp at hi
  | cons t s ih =>
    intro i hi h
    cases i with
    | zero => exact h.1
    | succ i => exact ih i (by simpa using hi) h.2
theorem eoA_get {E : Nat → Way} {B : Way} : ∀ (s : List Lt) (i : Nat) (hi : i < s.length), eoA E s B → (s[i]).eo E B := by
  intro s
  induction s with
  | nil => intro i hi; simp at hi
  | cons t s ih =>
    intro i hi h
    cases i with
    | zero => exact h.1
    | succ i => exact ih i (by simpa using hi) h.2
theorem eoH_get {E : Nat → Way} {B : Way} (s : List Lt) (i : Nat) (hi : i < s.length) (h1 : s.length = 1) (h : eoH E s B) : (s[i]).eo E B := by
  match s, h1, hi, h with
  | [t], _, hi, h =>
    have : i = 0 := by simp at hi; exact hi
    subst this
    exact h
theorem ents_eo {E : Nat → Way} : ∀ (T : Lt) (B : Way) (up : Int) (nth : Nat), T.tn.fine = true → T.eo E B → ∀ e ∈ T.ents B up nth, e.t.eo E e.B := by
  refine Lt.rec' ?_
  intro T ih B up nth hf ho e he
  rw [ents_eq] at he
  rcases List.mem_cons.1 he with rfl | he
  · exact ho
  · obtain ⟨j, hj, hx⟩ := (entsL_mem _ _ _ _ _).1 he
    refine ih _ (List.getElem_mem hj) _ _ _ (fine_sub hf _ (List.getElem_mem hj)) ?_ e hx
    rw [Nat.zero_add]
    cases T with
    | mk lb k R a s mn mx lz ix nm =>
      have hF := node_fine hf
      simp only [Lt.eo] at ho
      obtain ⟨h4, h5, h7, h6⟩ := ho
      have hj' : j < s.length := hj
      show (s[j]'hj').eo E (if k = 4 then fwC (s.drop (j + 1)) B else if k = 7 then .noted (2 * ix.toNat + 1) B else if k = 6 ∧ mx < 0 then Kd lz lb B else B)
      rcases hF.kind with hk | hk | hk | hk | hk | hk | hk
      · have := hF.leaf (by omega); omega
      · have := hF.leaf (by omega); omega
      · have := hF.leaf (by omega); omega
      · rw [if_pos hk]; exact eoC_get s j hj' (h4 hk)
      · rw [if_neg (by omega), if_neg (by omega), if_neg (by omega)]; exact eoA_get s j hj' (h5 hk)
      · rw [if_neg (by omega), if_neg (by omega)]
        have h1 := (hF.rep hk).1
        rcases h6 hk with ⟨hc, _, ho⟩ | ⟨hc, ho⟩
        · rw [if_pos ⟨hk, by omega⟩]; exact eoH_get s j hj' h1 ho
        · rw [if_neg (by omega)]; exact eoH_get s j hj' h1 ho
      · rw [if_neg (by omega), if_pos hk]; exact eoH_get s j hj' (hF.grp hk).1 (h7 hk)
mutual
/-- a tree with its nodes' numbers, in the order in which they are begun -/
def Tn.num : Tn → Nat → Lt
  | .mk k R a s mn mx lz ix nm, n => .mk n k R a (numL s (n + 1)) mn mx lz ix nm
def numL : List Tn → Nat → List Lt
  | [], _ => []
  | t :: ts, n => t.num n :: numL ts (n + t.nodes)
end
mutual
theorem num_tn : ∀ (t : Tn) (n : Nat), (t.num n).tn = t
  | .mk k R a s mn mx lz ix nm, n => by simp only [Tn.num, Lt.tn]; rw [numL_tn s (n + 1)]
theorem numL_tn : ∀ (ts : List Tn) (n : Nat), tnL (numL ts n) = ts
  | [], n => rfl
  | t :: ts, n => by simp only [numL, tnL]; rw [num_tn t n, numL_tn ts (n + t.nodes)]
end
end Go.Proofs.Ytnpocciioedgpaa
/- HELPERS: rows of numbers: is one there? one more; one set. -/
namespace Go.Proofs.Ytnpocciioedgpaa
open Go.RowKit
set_option linter.unusedVariables false
set_option linter.unusedSimpArgs false
theorem text_cell {N : Nat} {w : World} {ad : Option Addr} {n : Nat} {l : List Int} (h : Look.TextAt N w ad n l) {k : Nat} (hk : k < n) : ∃ b off, ad = some ⟨b, off, none⟩ ∧ b < N ∧ w.cell? ⟨b, off + k, none⟩ = some (.int .i64 (l.getD k 0)) := by
  rcases h.2.2 with h0 | ⟨b, off, ha, hb, hc⟩
  · omega
  · exact ⟨b, off, ha, hb, hc k hk⟩
set_option maxRecDepth 100000 in
set_option maxHeartbeats 4000000 in
theorem did35 (L : List Int) (ad : Option Addr) (n cap : Nat) (x : Int) (w : World) (N : Nat) (hT : Look.TextAt N w ad n L) :
    Calls Try.prog 35 #[.slice ad n cap, .int .i64 x] w fun e w' => e = .returned (.bool (decide (x ∈ L))) ∧ w' = w := by
  have hn : n = L.length := hT.1
  have hm : n ≤ 35184372088832 := hT.2.1
  obtain ⟨r, hr⟩ : ∃ r, r = decide (x ∈ L) := ⟨_, rfl⟩
  rw [← hr]
  have HR := hid hr
  have HT := hid hT
  have HN := hid hn
  clear hr hT hn
  go_enter Try.func35, Try.ntmps35
  go_wp2
  go_loopw [5] (fun y wq => ∃ i : Nat, y = .int .i64 (i : Int) ∧ i ≤ n ∧ Hid (x ∉ L.take i) ∧ wq = w) (fun y _ => n - (intOf y).toNat)
  case atStart => exact ⟨0, rfl, by omega, by exact fun h => by simp at h, rfl⟩
  case round =>
    obtain ⟨i, rfl, hi, HI, rfl⟩ := hrel
    by_cases hlt : i < n
    · have b1 : decide ((i : Int) < (n : Int)) = true := by simp; omega
      have b2 : (i : Int) < (n : Int) := by omega
      have ad1 : IntKind.i64.wrap ((i : Int) + 1) = (i : Int) + 1 := by simp [IntKind.wrap, IntKind.bits, IntKind.signed]; omega
      obtain ⟨b, off, rfl, _, hc⟩ := text_cell HT.out hlt
      have hil : i < L.length := by rw [← HN.out]; exact hlt
      have hg : L.getD i 0 = L[i] := by simp [List.getD_eq_getElem?_getD, List.getElem?_eq_getElem hil]
      rw [hg] at hc
      by_cases he : L[i] = x
      · have hrt : r = true := by rw [HR.out]; simp only [decide_eq_true_eq]; rw [← he]; exact List.getElem_mem hil
        subst hrt
        rw [he] at hc
        have g1 : (x == x) = true := by simp
        clear hg he
        go_wp2
        go_ret
        exact ⟨rfl, by first | rfl | trivial⟩
      · obtain ⟨y, hy⟩ : ∃ y, y = L[i] := ⟨_, rfl⟩
        rw [← hy] at hc he
        have g1 : (y == x) = false := by simpa using he
        have hnx : x ∉ L.take (i + 1) := by
          rw [List.take_succ_eq_append_getElem hil, List.mem_append, List.mem_singleton, ← hy]
          rintro (h | h)
          · exact HI.out h
          · exact he h.symm
        have HNX := hid hnx
        clear hg he hy hnx
        go_wp2
        exact ⟨⟨i + 1, by push_cast; rfl, by omega, HNX, by first | rfl | trivial⟩, by simp [intOf]; omega⟩
    · have b1 : decide ((i : Int) < (n : Int)) = false := by simp; omega
      have hrf : r = false := by
        rw [HR.out]
        have := HI.out
        rw [show i = L.length by have := HN.out; omega, List.take_length] at this
        simpa using this
      subst hrf
      go_wp2
      go_ret
      exact ⟨rfl, by first | rfl | trivial⟩
/-- a copy of a row of numbers, the call's own -/
theorem own_text {w : World} {base n : Nat} {v : Value} {L : List Int} (h : w.ownsRow base 3 1 v n (I64 L)) (hn : n ≤ 35184372088832) : ∃ ad cap, v = .slice ad n cap ∧ n ≤ cap ∧ Look.TextAt w.heap.size w ad n L := by
  have hl : n = L.length := by have := h.1; simp at this; omega
  rcases Joins.ownsRow_forms h with ⟨e, h0⟩ | ⟨b, cap, e⟩
  · subst h0
    exact ⟨none, 0, e, Nat.le_refl _, hl, hn, .inl rfl⟩
  · have hlt := (h.lt b (by rw [e]; rfl)).2
    subst e
    refine ⟨_, cap, rfl, (row_cap h).1, hl, hn, .inr ⟨b, 0, rfl, hlt, fun k hk => ?_⟩⟩
    rw [Nat.zero_add, h.cellAt k (by simp; omega)]
    simp [List.getD_eq_getElem?_getD, List.getElem?_eq_getElem (show k < L.length by omega)]
theorem own_none (w : World) : (w.alloc (.cells #[] 3)).ownsRow w.heap.size 3 1 (.slice (some ⟨w.heap.size, 0, none⟩) 0 0) 0 [] :=
  ⟨by simp, .inr ⟨w.heap.size, 0, #[], rfl, Nat.le_refl _, heap_alloc_new w _, Nat.le_refl _, by simp [maxLen], by simp, by simp⟩⟩
theorem moved_below {w w2 : World} {B : Nat} {W w3 : World} {v v' : Value} (hb : Below B W w) (hB : B ≤ w.heap.size) (hv : ∀ k, v.ownBlock = some k → B ≤ k) (hm : Moved w w3 v v') : Below B W w3 ∧ w.heap.size ≤ w3.heap.size := by
  have hs3 : w.heap.size ≤ w3.heap.size := by rcases hm with ⟨_, h⟩ | ⟨_, h⟩ <;> exact h.size
  have hold : ∀ k, k < B → w3.heap[k]? = w.heap[k]? := fun k hk => moved_old' hm (by omega) (fun e => by have := hv k e; omega)
  refine ⟨⟨?_, ?_, ?_, by have := hb.size; omega, fun k hk => (hold k hk).trans (hb.block k hk)⟩, hs3⟩
  · rcases hm with ⟨_, h⟩ | ⟨_, h⟩ <;> exact h.os.trans hb.os
  · rcases hm with ⟨_, h⟩ | ⟨_, h⟩ <;> exact h.tape.trans hb.tape
  · rcases hm with ⟨_, h⟩ | ⟨_, h⟩ <;> exact h.output.trans hb.output
theorem src_cells {w : World} {b off n : Nat} {L : List Int} (hl : n = L.length) (hc : ∀ k, k < n → w.cell? ⟨b, off + k, none⟩ = some (.int .i64 (L.getD k 0))) (o : Obj) (hb : b < w.heap.size) : ∀ j u, (I64 L)[j]? = some u → (w.alloc o).cell? ((⟨b, off, none⟩ : Addr).add j) = some u := fun j u hj => by
  have hjl : j < L.length := by have := (List.getElem?_eq_some_iff.1 hj).1; simpa using this
  rw [show ((⟨b, off, none⟩ : Addr).add j) = ⟨b, off + j, none⟩ by by_cases e : j = 0 <;> simp [Addr.add, e]]
  rw [World.cell?_alloc_lt _ _ _ hb, hc j (by omega)]
  simp [List.getD_eq_getElem?_getD, List.getElem?_eq_getElem hjl] at hj ⊢
  exact hj
theorem moved_size {w w' : World} {v v' : Value} (hm : Moved w w' v v') : w.heap.size ≤ w'.heap.size := by rcases hm with ⟨_, h⟩ | ⟨_, h⟩ <;> exact h.size
theorem row_put {w : World} {base n b cap : Nat} {L : List Int} (h : w.ownsRow base 3 1 (.slice (some ⟨b, 0, none⟩) n cap) n (I64 L)) (k : Nat) (hk : k < n) (x : Int) : (w.setCell ⟨b, k, none⟩ (.int .i64 x)).ownsRow base 3 1 (.slice (some ⟨b, 0, none⟩) n cap) n (I64 (L.set k x)) ∧ w.frozen? ⟨b, k, none⟩ = false := by
  have hl : L.length = n := by have := h.1; simpa using this
  rcases h.2 with ⟨h, _⟩ | ⟨g, cap', cur, he, hb, hgg, h1, h2, h3, h4⟩
  · cases h
  · simp only [Value.slice.injEq, Option.some.injEq, Addr.mk.injEq] at he
    obtain ⟨⟨rfl, _⟩, _, rfl⟩ := he
    refine ⟨⟨by simp [hl], .inr ⟨b, cap, cur.setIfInBounds k (.int .i64 x), rfl, hb, Joins.block_setCell hgg _, h1, h2, by simpa using h3, ?_⟩⟩, Joins.unfrozen_of_block hgg k⟩
    simp only [Array.toList_setIfInBounds]
    rw [List.take_set, h4]
    simp [I64, List.map_set]
/-- a row of numbers that may be handed on: none, or some -/
def SrcOf (w : World) (v : Value) (L : List Int) : Prop := (v = .slice none 0 0 ∧ L = []) ∨ ∃ b off cap, v = .slice (some ⟨b, off, none⟩) L.length cap ∧ 0 < L.length ∧ b < w.heap.size ∧ ∀ k, k < L.length → w.cell? ⟨b, off + k, none⟩ = some (.int .i64 (L.getD k 0))
set_option maxRecDepth 100000 in
set_option maxHeartbeats 4000000 in
theorem and36 (L : List Int) (v : Value) (x : Int) (w : World) (hS : SrcOf w v L) (hn : L.length ≤ 1000000) :
    Calls Try.prog 36 #[v, .int .i64 x] w fun e w' => ∃ v', e = .returned v' ∧ w'.ownsRow w.heap.size 3 1 v' (L.length + 1) (I64 (L ++ [x])) ∧ Below w.heap.size w w' := by
  obtain ⟨i0, hi0, hz0, hz1, hz2⟩ := info_parts info3
  have hown := own_none w
  have hb0 := Joins.below_alloc1 w (.cells #[] 3)
  rcases hS with ⟨rfl, rfl⟩ | ⟨b, off, cap, rfl, hp, hbl, hc⟩
  · have HOWN := hid hown
    have HB0 := hid hb0
    clear hown hb0
    go_enter Try.func36, Try.ntmps36
    go_wp2_with (first | (at_builtin; refine wpList_append_own_none rfl (.tmp 5) (.tmp 6) 29 rfl w.heap.size 3 i0 1 Try.underlying29 hi0 (.slice (some ⟨w.heap.size, 0, none⟩) 0 0) 0 [] rfl HOWN.out rfl ?_) | (at_builtin; refine wpList_append_move rfl (.tmp 7) (.tmp 9) 29 rfl w.heap.size 3 i0 (.int .i64 0) 8 Try.underlying29 hi0 hz0 hz1 hz2 rfl (.slice (some ⟨w.heap.size, 0, none⟩) 0 0) 0 [] rfl (HOWN.out.alloc _) ⟨w.heap.size + 1, 0, none⟩ 1 1 [.int .i64 x] rfl rfl (by decide) (by intro j y hj; match j, hj with | 0, hj => (simp at hj; subst hj; exact Joins.cell_of_block (two_new w _ _ _) 0)) (by intro y hy; simp at hy; subst hy; rfl) (by unfold maxLen; omega) (by omega) (by simp; omega) ?_; intro v' w3 ho3 hm3; obtain ⟨vb, vc, rfl⟩ := Joins.ownsRow_form ho3.out (by omega)))
    go_ret
    have hbm := moved_below (w2 := w) (HB0.out.trans (Joins.below_le (Joins.below_alloc1 _ _) (by simp))) (by simp; omega) (fun k hk => (HOWN.out.lt k hk).1) hm3.out
    exact ⟨_, rfl, by simpa using ho3.out, hbm.1⟩
  · have HOWN := hid hown
    have HB0 := hid hb0
    have HSRC := hid (src_cells (n := L.length) rfl hc (.cells #[] 3) hbl)
    obtain ⟨n, hnl⟩ : ∃ n, n = L.length := ⟨_, rfl⟩
    rw [← hnl] at hp hn ⊢
    have HNL := hid hnl
    clear hown hb0 hc hnl
    go_enter Try.func36, Try.ntmps36
    go_wp2_with (first | (at_builtin; refine wpList_append_move rfl (.tmp 5) (.tmp 6) 29 rfl w.heap.size 3 i0 (.int .i64 0) 8 Try.underlying29 hi0 hz0 hz1 hz2 rfl (.slice (some ⟨w.heap.size, 0, none⟩) 0 0) 0 [] rfl HOWN.out ⟨b, off, none⟩ n cap (I64 L) rfl (by simp; exact HNL.out.symm) hp HSRC.out (one_cell_ints L) (by unfold maxLen; omega) (by omega) (by simp) ?_; intro v1 w2 ho2 hm2; have hs2 : w.heap.size + 1 ≤ w2.heap.size := (by have := moved_size hm2.out; simpa using this)) | (at_builtin; refine wpList_append_move rfl (.tmp 7) (.tmp 9) 29 rfl w.heap.size 3 i0 (.int .i64 0) 8 Try.underlying29 hi0 hz0 hz1 hz2 rfl v1 (0 + n) ([] ++ I64 L) rfl (ho2.out.alloc _) ⟨w2.heap.size, 0, none⟩ 1 1 [.int .i64 x] rfl rfl (by decide) (by intro j y hj; match j, hj with | 0, hj => (simp at hj; subst hj; simp [Addr.add])) (by intro y hy; simp at hy; subst hy; rfl) (by unfold maxLen; omega) (by omega) (by simp; omega) ?_; intro v' w3 ho3 hm3; obtain ⟨ub, uc, rfl⟩ := Joins.ownsRow_form ho3.out (by omega)))
    go_ret
    have hbm2 := moved_below (w2 := w) HB0.out (by simp) (fun k hk => (HOWN.out.lt k hk).1) hm2.out
    have hbm := moved_below (w2 := w) (hbm2.1.trans (Joins.below_le (Joins.below_alloc1 _ _) (by omega))) (by simp; omega) (fun k hk => (ho2.out.lt k hk).1) hm3.out
    exact ⟨_, rfl, by have := ho3.out; simpa [Nat.zero_add] using this, hbm.1⟩
set_option maxRecDepth 100000 in
set_option maxHeartbeats 4000000 in
theorem set39 (L : List Int) (v : Value) (k : Nat) (x : Int) (w : World) (hS : SrcOf w v L) (hk : k < L.length) (hn : L.length ≤ 1000000) :
    Calls Try.prog 39 #[v, .int .i64 (k : Int), .int .i64 x] w fun e w' => ∃ v', e = .returned v' ∧ w'.ownsRow w.heap.size 3 1 v' L.length (I64 (L.set k x)) ∧ Below w.heap.size w w' := by
  obtain ⟨i0, hi0, hz0, hz1, hz2⟩ := info_parts info3
  have hown := own_none w
  have hb0 := Joins.below_alloc1 w (.cells #[] 3)
  rcases hS with ⟨rfl, rfl⟩ | ⟨b, off, cap, rfl, hp, hbl, hc⟩
  · simp at hk
  · have HOWN := hid hown
    have HB0 := hid hb0
    have HSRC := hid (src_cells (n := L.length) rfl hc (.cells #[] 3) hbl)
    obtain ⟨n, hnl⟩ : ∃ n, n = L.length := ⟨_, rfl⟩
    rw [← hnl] at hp hn hk ⊢
    have HNL := hid hnl
    have i1 : (k : Int) < (n : Int) := by omega
    clear hown hb0 hc hnl
    go_enter Try.func39, Try.ntmps39
    go_wp2_with (at_builtin; refine wpList_append_move rfl (.tmp 8) (.tmp 9) 29 rfl w.heap.size 3 i0 (.int .i64 0) 8 Try.underlying29 hi0 hz0 hz1 hz2 rfl (.slice (some ⟨w.heap.size, 0, none⟩) 0 0) 0 [] rfl HOWN.out ⟨b, off, none⟩ n cap (I64 L) rfl (by simp; exact HNL.out.symm) hp HSRC.out (one_cell_ints L) (by unfold maxLen; omega) (by omega) (by simp) ?_; intro v1 w2 ho2 hm2; have ho2' := ho2.out; simp only [Nat.zero_add, List.nil_append] at ho2'; have HM2 := hid hm2.out; obtain ⟨vb, vc, rfl⟩ := Joins.ownsRow_form ho2' hp; have HO2 := hid ho2'; have hset := row_put ho2' k hk x; have hfz := hset.2; have hcell : w2.cell? ⟨vb, k, none⟩ = some (.int .i64 (L.getD k 0)) := (by rw [ho2'.cellAt k (by simp; have := HNL.out; omega)]; simp [List.getD_eq_getElem?_getD, List.getElem?_eq_getElem (show k < L.length by have := HNL.out; omega)]); have HSET := hid hset.1; clear ho2 hm2 ho2' hset)
    have hb3 : Below w.heap.size w (w2.setCell ⟨vb, k, none⟩ (.int .i64 x)) := (moved_below (w2 := w) HB0.out (by simp) (fun k hk => (HOWN.out.lt k hk).1) HM2.out).1.setCell (by exact (HO2.out.lt vb rfl).1) _
    go_ret
    exact ⟨_, rfl, HSET.out, hb3⟩
end Go.Proofs.Ytnpocciioedgpaa
/- HELPERS: the hunt in memory: its places, what is left, what was found; what a call leaves. -/
namespace Go.Proofs.Ytnpocciioedgpaa
open Go.RowKit
set_option linter.unusedVariables false
set_option linter.unusedSimpArgs false
/-- a row of numbers of somebody's own -/
def Rw (W : World) (v : Value) (L : List Int) : Prop := (v = .slice none 0 0 ∧ L = []) ∨ (0 < L.length ∧ W.ownsRow 0 3 1 v L.length (I64 L))
theorem Rw.src {W : World} {v : Value} {L : List Int} (h : Rw W v L) : SrcOf W v L := by
  rcases h with h | ⟨h0, h⟩
  · exact .inl h
  · rcases Joins.ownsRow_forms h with ⟨e, h1⟩ | ⟨b, cap, e⟩
    · omega
    · subst e
      refine .inr ⟨b, 0, cap, rfl, h0, (h.lt b rfl).2, fun k hk => ?_⟩
      rw [Nat.zero_add, h.cellAt k (by omega)]
      simp [List.getD_eq_getElem?_getD, List.getElem?_eq_getElem hk]
theorem own_low0 {w : World} {base e size n : Nat} {v : Value} {xs : List Value} (h : w.ownsRow base e size v n xs) : w.ownsRow 0 e size v n xs := by
  refine ⟨h.1, ?_⟩
  rcases h.2 with h | ⟨g', cap, cur, b1, b2, b3⟩
  · exact .inl h
  · exact .inr ⟨g', cap, cur, b1, Nat.zero_le _, b3⟩
theorem row_form {w : World} {base e size n : Nat} {v : Value} {xs : List Value} (h : w.ownsRow base e size v n xs) : ∃ a c, v = .slice a n c ∧ n ≤ c ∧ c ≤ maxLen := by
  rcases h.2 with ⟨e, h0⟩ | ⟨g, cap, cur, e, _, _, h1, h2, _⟩
  · subst h0; exact ⟨none, 0, e, Nat.le_refl _, by simp [maxLen]⟩
  · exact ⟨_, cap, e, h1, h2⟩
theorem Rw.of {W : World} {base n : Nat} {v : Value} {L : List Int} (h : W.ownsRow base 3 1 v n (I64 L)) (h0 : 0 < n) : Rw W v L := by
  have hn : n = L.length := by have := h.1; simp at this; omega
  subst hn
  exact .inr ⟨h0, own_low0 h⟩
theorem Rw.form {W : World} {v : Value} {L : List Int} (h : Rw W v L) : ∃ ad cap, v = .slice ad L.length cap := by
  rcases h with ⟨e, h⟩ | ⟨h0, h⟩
  · exact ⟨none, 0, by rw [e, h]; rfl⟩
  · obtain ⟨a, c, e, _, _⟩ := row_form h
    exact ⟨a, c, e⟩
theorem Rw.text {W : World} {ad : Option Addr} {cap : Nat} {L : List Int} (h : Rw W (.slice ad L.length cap) L) (hl : L.length ≤ 35184372088832) : Look.TextAt W.heap.size W ad L.length L := by
  rcases h with ⟨e, h⟩ | ⟨h0, h⟩
  · subst h; exact ⟨rfl, by simp, .inl rfl⟩
  · obtain ⟨ad', cap', e, _, ht⟩ := own_text h hl
    simp only [Value.slice.injEq] at e
    obtain ⟨rfl, _, rfl⟩ := e
    exact ht
/-- what the hunt is about -/
structure HC where
  hb : Nat
  NB : Nat
  pb : Nat
  n : Nat
  pc : Nat
  tn : Nat
  tc : Nat
  tad : Option Addr
  frm : Int
  tx : List Int
  L : List Pl
  E : Nat → Way
  K : Nat
/-- what a call leaves -/
structure Fr (C : HC) (W W' : World) : Prop where
  os : W'.os = W.os
  tape : W'.tape = W.tape
  output : W'.output = W.output
  size : W.heap.size ≤ W'.heap.size
  low : ∀ (b : Nat), b < C.NB → b ≠ C.hb → W'.heap[b]? = W.heap[b]?
  ints : ∀ (b : Nat) (cur : Array Value), W.heap[b]? = some (.cells cur 3 (0, 0)) → W'.heap[b]? = some (.cells cur 3 (0, 0))
  box : ∀ (b : Nat) (cur : Array Value), W.heap[b]? = some (.cells cur 64 (0, 0)) → W'.heap[b]? = some (.cells cur 64 (0, 0))
theorem Fr.refl (C : HC) (W : World) : Fr C W W := ⟨rfl, rfl, rfl, Nat.le_refl _, fun _ _ _ => rfl, fun _ _ h => h, fun _ _ h => h⟩
theorem Fr.trans {C : HC} {a b c : World} (h : Fr C a b) (k : Fr C b c) : Fr C a c := ⟨k.os.trans h.os, k.tape.trans h.tape, k.output.trans h.output, Nat.le_trans h.size k.size, fun i hi hn => (k.low i hi hn).trans (h.low i hi hn), fun i cur x => k.ints i cur (h.ints i cur x), fun i cur x => k.box i cur (h.box i cur x)⟩
theorem Fr.of_below {C : HC} {W W' : World} (h : Below W.heap.size W W') (hN : C.NB ≤ W.heap.size) : Fr C W W' :=
  ⟨h.os, h.tape, h.output, h.size, fun b hb _ => h.block b (by omega), fun b cur hx => (h.block b (Array.getElem?_eq_some_iff.1 hx).1).trans hx, fun b cur hx => (h.block b (Array.getElem?_eq_some_iff.1 hx).1).trans hx⟩
theorem Fr.row {C : HC} {W W' : World} {v : Value} {L : List Int} (f : Fr C W W') (h : Rw W v L) : Rw W' v L := by
  rcases h with h | ⟨h0, h⟩
  · exact .inl h
  · refine .inr ⟨h0, h.1, ?_⟩
    rcases h.2 with hn | ⟨g, cap, cur, hv, hb, hg, rest⟩
    · exact .inl hn
    · exact .inr ⟨g, cap, cur, hv, hb, f.ints g cur hg, rest⟩
/-- a place's twelve cells -/
def P12 (W : World) (pb k : Nat) (M : Nv) (sv : Value) (up nth : Int) : Prop :=
  W.cell? ⟨pb, k * 12, none⟩ = some (.int .i64 M.k) ∧ W.cell? ⟨pb, k * 12 + 1, none⟩ = some (.slice M.r1 M.r2 M.r3) ∧ W.cell? ⟨pb, k * 12 + 2, none⟩ = some (.int .i64 M.a2) ∧ W.cell? ⟨pb, k * 12 + 3, none⟩ = some (.slice M.s1 M.s2 M.s3) ∧ W.cell? ⟨pb, k * 12 + 4, none⟩ = some (.int .i64 M.a4) ∧ W.cell? ⟨pb, k * 12 + 5, none⟩ = some (.int .i64 M.a5) ∧ W.cell? ⟨pb, k * 12 + 6, none⟩ = some (.bool M.a6) ∧ W.cell? ⟨pb, k * 12 + 7, none⟩ = some (.int .i64 M.a7) ∧ W.cell? ⟨pb, k * 12 + 8, none⟩ = some (.string M.a8) ∧ W.cell? ⟨pb, k * 12 + 9, none⟩ = some sv ∧ W.cell? ⟨pb, k * 12 + 10, none⟩ = some (.int .i64 up) ∧ W.cell? ⟨pb, k * 12 + 11, none⟩ = some (.int .i64 nth)
theorem P12.kept {W W' : World} {pb k : Nat} {M : Nv} {sv : Value} {up nth : Int} (h : P12 W pb k M sv up nth) (hk : W'.heap[pb]? = W.heap[pb]?) : P12 W' pb k M sv up nth := by
  obtain ⟨h0, h1, h2, h3, h4, h5, h6, h7, h8, h9, h10, h11⟩ := h
  exact ⟨(cell_eq hk _).trans h0, (cell_eq hk _).trans h1, (cell_eq hk _).trans h2, (cell_eq hk _).trans h3, (cell_eq hk _).trans h4, (cell_eq hk _).trans h5, (cell_eq hk _).trans h6, (cell_eq hk _).trans h7, (cell_eq hk _).trans h8, (cell_eq hk _).trans h9, (cell_eq hk _).trans h10, (cell_eq hk _).trans h11⟩
/-- a place in memory -/
def PLm (C : HC) (W : World) (e : Pl) : Prop := ∃ (M : Nv) (sa : Option Addr) (sc : Nat), TP W (fun b => b < C.NB ∧ b ≠ C.hb) M e.t.tn ∧ P12 W C.pb e.t.lb M (.slice sa e.t.sub.length sc) e.up (e.nth : Int) ∧ Rw W (.slice sa e.t.sub.length sc) (e.t.sub.map fun t => (t.lb : Int))
/-- the hunt: so many steps are left, these were found -/
structure HM (C : HC) (W : World) (left : Int) (out : List (Int × List Int)) : Prop where
  box : ∃ v, W.heap[C.hb]? = some (.cells #[.slice (some ⟨C.pb, 0, none⟩) C.n C.pc, .slice C.tad C.tn C.tc, .int .i64 C.frm, .int .i64 left, v] 42 (0, 0)) ∧ Parsed C.NB W v out
  nb : C.NB ≤ W.heap.size
  hb : C.hb < C.NB
  pbt : ∃ arr, W.heap[C.pb]? = some (.cells arr 64 (0, 0))
  pl : ∀ e ∈ C.L, PLm C W e
  tx : Look.TextAt C.hb W C.tad C.tn C.tx
  ol : (out.length : Int) + left ≤ 4000
theorem HM.next {C : HC} {W W' : World} {left left' : Int} {out out' : List (Int × List Int)} (h : HM C W left out) (f : Fr C W W') (hb : ∃ v, W'.heap[C.hb]? = some (.cells #[.slice (some ⟨C.pb, 0, none⟩) C.n C.pc, .slice C.tad C.tn C.tc, .int .i64 C.frm, .int .i64 left', v] 42 (0, 0)) ∧ Parsed C.NB W' v out') (hol : (out'.length : Int) + left' ≤ 4000) : HM C W' left' out' := by
  obtain ⟨arr, ha⟩ := h.pbt
  refine ⟨hb, Nat.le_trans h.nb f.size, h.hb, ⟨arr, f.box _ _ ha⟩, fun e he => ?_, ?_, hol⟩
  · obtain ⟨M, sa, sc, h1, h2, h3⟩ := h.pl e he
    exact ⟨M, sa, sc, h1.kept (fun b hb => f.low b hb.1 hb.2) (fun b hb => hb), h2.kept ((f.box _ _ ha).trans ha.symm), f.row h3⟩
  · obtain ⟨h1, h2, h3 | ⟨b, off, h4, h5, h6⟩⟩ := h.tx
    · exact ⟨h1, h2, .inl h3⟩
    · exact ⟨h1, h2, .inr ⟨b, off, h4, h5, fun k hk => (cell_eq (f.low b (by have := h.hb; omega) (by omega)) _).trans (h6 k hk)⟩⟩
theorem Parsed.kept' {N : Nat} {w w' : World} {v : Value} {l : List (Int × List Int)} (h : Parsed N w v l) (hk : ∀ b, N ≤ b → b < w.heap.size → w'.heap[b]? = w.heap[b]?) : Parsed N w' v l := by
  obtain ⟨cs, F, h1, h2⟩ := h
  exact ⟨cs, F, row_kept h1 (fun b hb => hk b (h1.lt b hb).1 (h1.lt b hb).2), h2.kept (fun k hk' => hk k (h2.low k hk').1 (h2.low k hk').2)⟩
/-- nothing but new memory -/
theorem HM.below {C : HC} {W W' : World} {left : Int} {out : List (Int × List Int)} (h : HM C W left out) (hb : Below W.heap.size W W') : HM C W' left out ∧ Fr C W W' := by
  have f := Fr.of_below (C := C) hb h.nb
  obtain ⟨v, h1, h2⟩ := h.box
  exact ⟨h.next f ⟨v, (hb.block _ (Array.getElem?_eq_some_iff.1 h1).1).trans h1, h2.kept' (fun b _ hl => hb.block b hl)⟩ h.ol, f⟩
/-- one step less -/
theorem HM.dec {C : HC} {W : World} {left : Int} {out : List (Int × List Int)} (h : HM C W left out) : HM C (W.setCell ⟨C.hb, 3, none⟩ (.int .i64 (left - 1))) (left - 1) out ∧ Fr C W (W.setCell ⟨C.hb, 3, none⟩ (.int .i64 (left - 1))) := by
  obtain ⟨v, h1, h2⟩ := h.box
  have hk : ∀ b, b ≠ C.hb → (W.setCell ⟨C.hb, 3, none⟩ (.int .i64 (left - 1))).heap[b]? = W.heap[b]? := fun b hb => Below.heap_setCell _ _ _ _ hb
  have f : Fr C W (W.setCell ⟨C.hb, 3, none⟩ (.int .i64 (left - 1))) := ⟨rfl, rfl, rfl, by simp [World.setCell], fun b _ hb => hk b hb, fun b cur hx => (hk b (fun e => by rw [e, h1] at hx; simp at hx)).trans hx, fun b cur hx => (hk b (fun e => by rw [e, h1] at hx; simp at hx)).trans hx⟩
  refine ⟨h.next f ⟨v, Joins.block_setCell (i := 3) h1 _, h2.kept' (fun b hb _ => hk b (by have := h.hb; omega))⟩ (by have := h.ol; omega), f⟩
/-- what a walk has done, as pairs and as keys -/
def KR (was : List (Int × Int)) (KW : List Int) : Prop := ∀ (lb p : Nat), p ≤ 64 → (((kb lb, (p : Int)) ∈ was ↔ 2 * (100 * (lb : Int) + (p : Int)) + 1 ∈ KW) ∧ ((kd lb, (p : Int)) ∈ was ↔ 2 * (100 * (lb : Int) + (p : Int)) ∈ KW))
theorem KR.nil : KR [] [] := fun lb p _ => by simp
theorem KR.begun {was : List (Int × Int)} {KW : List Int} (h : KR was KW) {lb p : Nat} (hp : p ≤ 64) : KR ((kb lb, (p : Int)) :: was) (KW ++ [2 * (100 * (lb : Int) + (p : Int)) + 1]) := fun lb' p' hp' => by
  obtain ⟨h1, h2⟩ := h lb' p' hp'
  simp only [List.mem_cons, Prod.mk.injEq, List.mem_append, List.mem_singleton, List.not_mem_nil, or_false, h1, h2]
  simp only [kb, kd]
  constructor
  · constructor
    · rintro (⟨x, x'⟩ | x)
      · right; clear h h1 h2; omega
      · exact .inl x
    · rintro (x | x)
      · exact .inr x
      · left; clear h h1 h2; constructor <;> omega
  · constructor
    · rintro (⟨x, x'⟩ | x)
      · exfalso; clear h h1 h2; omega
      · exact .inl x
    · rintro (x | x)
      · exact .inr x
      · exfalso; clear h h1 h2; omega
theorem KR.decided {was : List (Int × Int)} {KW : List Int} (h : KR was KW) {lb p : Nat} (hp : p ≤ 64) : KR ((kd lb, (p : Int)) :: was) (KW ++ [2 * (100 * (lb : Int) + (p : Int))]) := fun lb' p' hp' => by
  obtain ⟨h1, h2⟩ := h lb' p' hp'
  simp only [List.mem_cons, Prod.mk.injEq, List.mem_append, List.mem_singleton, List.not_mem_nil, or_false, h1, h2]
  simp only [kb, kd]
  constructor
  · constructor
    · rintro (⟨x, x'⟩ | x)
      · exfalso; clear h h1 h2; omega
      · exact .inl x
    · rintro (x | x)
      · exact .inr x
      · exfalso; clear h h1 h2; omega
  · constructor
    · rintro (⟨x, x'⟩ | x)
      · right; clear h h1 h2; omega
      · exact .inl x
    · rintro (x | x)
      · exact .inr x
      · left; clear h h1 h2; constructor <;> omega
/-- what holds of the places -/
structure HCk (C : HC) : Prop where
  child : ∀ e ∈ C.L, ∀ i (hi : i < e.t.sub.length), child e i hi ∈ C.L
  par : ∀ e ∈ C.L, (e.up = -1 ∧ e.B = .once 1 .through) ∨ ∃ p ∈ C.L, ∃ i, ∃ (hi : i < p.t.sub.length), e = Go.Proofs.Ytnpocciioedgpaa.child p i hi
  fine : ∀ e ∈ C.L, e.t.tn.fine = true
  eo : ∀ e ∈ C.L, e.t.eo C.E e.B
  num : ∀ e ∈ C.L, e.t.lb < C.n
  nn : C.n ≤ 300000
  subs : ∀ e ∈ C.L, e.t.sub.length ≤ 300000
  tn64 : C.tn ≤ 64
  tnl : C.tn = C.tx.length
  k2 : 2 ≤ C.K ∧ C.K ≤ 1002
  grp : ∀ lb k R a s mn mx lz ix nm B up nth, (⟨.mk lb k R a s mn mx lz ix nm, B, up, nth⟩ : Pl) ∈ C.L → k = 7 → 1 ≤ ix ∧ 2 * ix + 1 < C.K
abbrev LBv (f : Nat) : Int := -(2000000 * ((f : Int) + 1))
/-- what comes of a call -/
def HPost (C : HC) (f : Nat) (Wy : Way) (p : Nat) (was : List (Int × Int)) (caps : List Int) (left : Int) (out : List (Int × List Int)) (W : World) (e : Ending) (w' : World) : Prop :=
  e = .returned (.tuple #[]) ∧ ∃ left' out', HM C w' left' out' ∧ (left ≤ 0 → left' = left - 1) ∧ (0 < left → left' < left ∧ LBv f ≤ left') ∧ (0 ≤ left' → Hx C.tx C.E Wy p was (caps.set 0 C.frm) out out') ∧ Fr C W w'
/-- what a call is given -/
structure HIn (C : HC) (W : World) (left : Int) (out : List (Int × List Int)) (p : Nat) (caps : List Int) (cv : Value) (was : List (Int × Int)) (KW : List Int) (wv : Value) (f : Nat) : Prop where
  hm : HM C W left out
  p64 : p ≤ C.tn
  cap : Rw W cv caps
  capl : caps.length = C.K
  wasr : Rw W wv KW
  kr : KR was KW
  fuel : left < f
  lo : -100000000000 ≤ left
  sz : (KW.length : Int) ≤ 5000 ∧ (KW.length : Int) + left ≤ 5000
def BeginC (C : HC) (f : Nat) : Prop := ∀ W left out (e : Pl) p caps cv was KW wv, e ∈ C.L → HIn C W left out p caps cv was KW wv f → Calls Try.prog 18 #[.pointer (some ⟨C.hb, 0, none⟩), .int .i64 (e.t.lb : Int), .int .i64 (p : Int), cv, wv] W (HPost C f (e.t.fw e.B) p was caps left out W)
def OnC (C : HC) (f : Nat) : Prop := ∀ W left out (e : Pl) p caps cv was KW wv, e ∈ C.L → HIn C W left out p caps cv was KW wv f → Calls Try.prog 37 #[.pointer (some ⟨C.hb, 0, none⟩), .int .i64 (e.t.lb : Int), .int .i64 (p : Int), cv, wv] W (HPost C f e.B p was caps left out W)
def DecideC (C : HC) (f : Nat) : Prop := ∀ W left out lb R a s mn mx lz ix nm B up nth p caps cv was KW wv, (⟨.mk lb 6 R a s mn mx lz ix nm, B, up, nth⟩ : Pl) ∈ C.L → mx < 0 → HIn C W left out p caps cv was KW wv f → Calls Try.prog 56 #[.pointer (some ⟨C.hb, 0, none⟩), .int .i64 (lb : Int), .int .i64 (p : Int), cv, wv] W (HPost C f (Kd lz lb B) p was caps left out W)
end Go.Proofs.Ytnpocciioedgpaa
/- HELPERS: the hunt: either, decide, repeat. -/
namespace Go.Proofs.Ytnpocciioedgpaa
open Go.RowKit
set_option linter.unusedVariables false
set_option linter.unusedSimpArgs false
abbrev c12 (M : Nv) (sv : Value) (up nth : Int) : Array Value := #[.int .i64 M.k, .slice M.r1 M.r2 M.r3, .int .i64 M.a2, .slice M.s1 M.s2 M.s3, .int .i64 M.a4, .int .i64 M.a5, .bool M.a6, .int .i64 M.a7, .string M.a8, sv, .int .i64 up, .int .i64 nth]
theorem box12 {w : World} {y : Nat} {M : Nv} {sv : Value} {up nth : Int} (h : w.heap[y]? = some (.cells (c12 M sv up nth) 64 (0, 0))) : w.cell? ⟨y, 0, none⟩ = some (.int .i64 M.k) ∧ w.cell? ⟨y, 1, none⟩ = some (.slice M.r1 M.r2 M.r3) ∧ w.cell? ⟨y, 2, none⟩ = some (.int .i64 M.a2) ∧ w.cell? ⟨y, 4, none⟩ = some (.int .i64 M.a4) ∧ w.cell? ⟨y, 5, none⟩ = some (.int .i64 M.a5) ∧ w.cell? ⟨y, 6, none⟩ = some (.bool M.a6) ∧ w.cell? ⟨y, 7, none⟩ = some (.int .i64 M.a7) ∧ w.cell? ⟨y, 9, none⟩ = some sv :=
  ⟨Joins.cell_of_block h 0, Joins.cell_of_block h 1, Joins.cell_of_block h 2, Joins.cell_of_block h 4, Joins.cell_of_block h 5, Joins.cell_of_block h 6, Joins.cell_of_block h 7, Joins.cell_of_block h 9⟩
theorem box5 {w : World} {b : Nat} {v0 v1 v2 v3 v4 : Value} (h : w.heap[b]? = some (.cells #[v0, v1, v2, v3, v4] 42 (0, 0))) : w.cell? ⟨b, 0, none⟩ = some v0 ∧ w.cell? ⟨b, 1, none⟩ = some v1 ∧ w.cell? ⟨b, 2, none⟩ = some v2 ∧ w.cell? ⟨b, 3, none⟩ = some v3 ∧ w.cell? ⟨b, 4, none⟩ = some v4 :=
  ⟨Joins.cell_of_block h 0, Joins.cell_of_block h 1, Joins.cell_of_block h 2, Joins.cell_of_block h 3, Joins.cell_of_block h 4⟩
/-- the hunt's own cells -/
theorem HM.cells {C : HC} {W : World} {left : Int} {out : List (Int × List Int)} (h : HM C W left out) : ∃ a4 n4 c4, W.cell? ⟨C.hb, 0, none⟩ = some (.slice (some ⟨C.pb, 0, none⟩) C.n C.pc) ∧ W.cell? ⟨C.hb, 1, none⟩ = some (.slice C.tad C.tn C.tc) ∧ W.cell? ⟨C.hb, 2, none⟩ = some (.int .i64 C.frm) ∧ W.cell? ⟨C.hb, 3, none⟩ = some (.int .i64 left) ∧ W.cell? ⟨C.hb, 4, none⟩ = some (.slice a4 n4 c4) ∧ (∀ k, W.frozen? ⟨C.hb, k, none⟩ = false) ∧ Parsed C.NB W (.slice a4 n4 c4) out ∧ n4 = out.length := by
  obtain ⟨v, h1, h2⟩ := h.box
  obtain ⟨cs, F, h3, h4⟩ := h2
  obtain ⟨a4, c4, e, _, _⟩ := row_form h3
  subst e
  obtain ⟨k0, k1, k2, k3, k4⟩ := box5 h1
  exact ⟨a4, out.length, c4, k0, k1, k2, k3, k4, fun k => Joins.unfrozen_of_block h1 k, ⟨cs, F, h3, h4⟩, rfl⟩
/-- a place copied into a box -/
theorem HM.copy {C : HC} {W : World} {left : Int} {out : List (Int × List Int)} (h : HM C W left out) {o : Obj} : HM C (W.alloc o) left out ∧ Fr C W (W.alloc o) := h.below (Joins.below_alloc1 W o)
/-- the first Sub's number -/
theorem sub_cell {W : World} {sa : Option Addr} {m sc : Nat} {l : List Int} (h : Rw W (.slice sa m sc) l) (hm : m = l.length) {i : Nat} (hi : i < m) : ∃ g, sa = some ⟨g, 0, none⟩ ∧ W.cell? ⟨g, i, none⟩ = some (.int .i64 (l.getD i 0)) := by
  subst hm
  rcases h with ⟨_, e⟩ | ⟨h0, h⟩
  · subst e; simp at hi
  · rcases Joins.ownsRow_forms h with ⟨_, e⟩ | ⟨g, cap, e⟩
    · omega
    · simp only [Value.slice.injEq] at e
      obtain ⟨rfl, _, rfl⟩ := e
      exact ⟨g, rfl, by rw [h.cellAt i (by omega)]; simp [List.getD_eq_getElem?_getD, List.getElem?_eq_getElem hi]⟩
/-- what is handed on -/
theorem HIn.go {C : HC} {W W' : World} {left left' : Int} {out out' : List (Int × List Int)} {p : Nat} {caps : List Int} {cv : Value} {was : List (Int × Int)} {KW : List Int} {wv : Value} {f f' : Nat} (h : HIn C W left out p caps cv was KW wv f) (hm : HM C W' left' out') (fr : Fr C W W') (h1 : left' ≤ left) (h2 : left' < f') (h3 : -100000000000 ≤ left') : HIn C W' left' out' p caps cv was KW wv f' :=
  ⟨hm, h.p64, fr.row h.cap, h.capl, fr.row h.wasr, h.kr, h2, h3, by have := h.sz; omega⟩
/-- what comes of two calls, one behind the other -/
def TwoPost (C : HC) (f : Nat) (Wy : Way) (p : Nat) (was : List (Int × Int)) (caps : List Int) (left : Int) (out : List (Int × List Int)) (W : World) (e : Ending) (w' : World) : Prop :=
  e = .returned (.tuple #[]) ∧ ∃ left' out', HM C w' left' out' ∧ left' < left ∧ LBv f - 2 ≤ left' ∧ (0 ≤ left' → Hx C.tx C.E Wy p was (caps.set 0 C.frm) out out') ∧ Fr C W w'
theorem hx_two {tx : List Int} {E : Nat → Way} {A B : Way} {p : Nat} {was : List (Int × Int)} {ν : List Int} {o1 o2 o3 : List (Int × List Int)} (h1 : Hx tx E A p was ν o1 o2) (h2 : Hx tx E B p was ν o2 o3) : Hx tx E (.inOrder [A, B]) p was ν o1 o3 := by
  have := Hx.inOrder (tx := tx) (E := E) (l := [A, B]) (p := p) (was := was) (ν := ν) (fun i => match i with | 0 => o1 | 1 => o2 | _ => o3) (fun i hi => by
    match i, hi with
    | 0, _ => exact h1
    | 1, _ => exact h2)
  exact this
theorem TP.inv {w : World} {A : Nat → Prop} {N : Nv} {k : Int} {R : List (Int × Int)} {a : Int} {ts : List Tn} {mn mx : Int} {lz : Bool} {ix : Int} {nm : ByteArray} (h : TP w A N (.mk k R a ts mn mx lz ix nm)) : N.k = k ∧ N.a2 = a ∧ N.a4 = mn ∧ N.a5 = mx ∧ N.a6 = lz ∧ N.a7 = ix ∧ N.a8 = nm ∧ N.r2 = R.length ∧ RP w A N.r1 R ∧ (∀ x ∈ R, I64ok x.1 ∧ I64ok x.2) ∧ N.ok := by
  generalize ht : Tn.mk k R a ts mn mx lz ix nm = t at h
  cases h with
  | mk ok hr hR hRk hs hS hk =>
    simp only [Tn.mk.injEq] at ht
    obtain ⟨e1, e2, e3, e4, e5, e6, e7, e8, e9⟩ := ht
    subst e2
    exact ⟨e1.symm, e3.symm, e5.symm, e6.symm, e7.symm, e8.symm, e9.symm, hr, hR, hRk, ok⟩
/-- a place's cells, by its tree -/
theorem HM.at {C : HC} {W : World} {left : Int} {out : List (Int × List Int)} (h : HM C W left out) {lb : Nat} {k : Int} {R : List (Int × Int)} {a : Int} {s : List Lt} {mn mx : Int} {lz : Bool} {ix : Int} {nm : ByteArray} {B : Way} {up : Int} {nth : Nat} (he : (⟨.mk lb k R a s mn mx lz ix nm, B, up, nth⟩ : Pl) ∈ C.L) :
    ∃ r1 r3 s1 s2 s3 sa sc, P12 W C.pb lb ⟨k, r1, R.length, r3, a, s1, s2, s3, mn, mx, lz, ix, nm⟩ (.slice sa s.length sc) up (nth : Int) ∧ RP W (fun b => b < C.NB ∧ b ≠ C.hb) r1 R ∧ (∀ x ∈ R, I64ok x.1 ∧ I64ok x.2) ∧ Rw W (.slice sa s.length sc) (s.map fun t => (t.lb : Int)) ∧ Nv.ok ⟨k, r1, R.length, r3, a, s1, s2, s3, mn, mx, lz, ix, nm⟩ := by
  obtain ⟨M, sa, sc, h1, h2, h3⟩ := h.pl _ he
  simp only [Lt.tn] at h1
  obtain ⟨e1, e2, e3, e4, e5, e6, e7, e8, hr, hR, ok⟩ := h1.inv
  obtain ⟨k', r1, r2, r3, a2, s1, s2, s3, a4, a5, a6, a7, a8⟩ := M
  simp only at e1 e2 e3 e4 e5 e6 e7 e8
  subst e1 e2 e3 e4 e5 e6 e7 e8
  exact ⟨r1, r3, s1, s2, s3, sa, sc, h2, hr, hR, h3, ok⟩
theorem box12' {w : World} {y : Nat} {v0 v1 v2 v3 v4 v5 v6 v7 v8 v9 v10 v11 : Value} (h : w.heap[y]? = some (.cells #[v0, v1, v2, v3, v4, v5, v6, v7, v8, v9, v10, v11] 64 (0, 0))) : w.cell? ⟨y, 0, none⟩ = some v0 ∧ w.cell? ⟨y, 1, none⟩ = some v1 ∧ w.cell? ⟨y, 2, none⟩ = some v2 ∧ w.cell? ⟨y, 4, none⟩ = some v4 ∧ w.cell? ⟨y, 5, none⟩ = some v5 ∧ w.cell? ⟨y, 6, none⟩ = some v6 ∧ w.cell? ⟨y, 7, none⟩ = some v7 ∧ w.cell? ⟨y, 9, none⟩ = some v9 :=
  ⟨Joins.cell_of_block h 0, Joins.cell_of_block h 1, Joins.cell_of_block h 2, Joins.cell_of_block h 4, Joins.cell_of_block h 5, Joins.cell_of_block h 6, Joins.cell_of_block h 7, Joins.cell_of_block h 9⟩
theorem HPost.as {C : HC} {f : Nat} {A A' : Way} {p : Nat} {was : List (Int × Int)} {caps : List Int} {left : Int} {out : List (Int × List Int)} {W : World} {e : Ending} {w' : World} (h : HPost C f A p was caps left out W e w') (hX : ∀ o1 o2, Hx C.tx C.E A p was (caps.set 0 C.frm) o1 o2 → Hx C.tx C.E A' p was (caps.set 0 C.frm) o1 o2) : HPost C f A' p was caps left out W e w' := by
  obtain ⟨h1, left', out', h2, h3, h4, h5, h6⟩ := h
  exact ⟨h1, left', out', h2, h3, h4, fun h => hX _ _ (h5 h), h6⟩
theorem HIn.second {C : HC} {f : Nat} {A : Way} {p : Nat} {was : List (Int × Int)} {caps : List Int} {cv : Value} {KW : List Int} {wv : Value} {left : Int} {out : List (Int × List Int)} {V : World} {e : Ending} {w1 : World} (hf : f ≤ 10000) (h : HIn C V left out p caps cv was KW wv f) (h0 : 0 ≤ left) (hp : HPost C f A p was caps left out V e w1) :
    e = .returned (.tuple #[]) ∧ ∃ left1 out1, HIn C w1 left1 out1 p caps cv was KW wv f ∧ Fr C V w1 ∧ (left1 < left ∧ LBv f ≤ left1 ∧ (0 ≤ left1 → Hx C.tx C.E A p was (caps.set 0 C.frm) out out1)) := by
  obtain ⟨h1, left', out', h2, h3, h4, h5, h6⟩ := hp
  have hl : left' < left ∧ LBv f ≤ left' := by
    by_cases hz : left ≤ 0
    · have := h3 hz
      simp only [LBv]
      omega
    · exact h4 (by omega)
  have hfl := h.fuel
  have hlo := hl.2
  simp only [LBv] at hlo
  exact ⟨h1, left', out', h.go h2 h6 (by omega) (by omega) (by omega), h6, hl.1, hl.2, h5⟩
theorem two_done {C : HC} {f : Nat} {A B : Way} {p : Nat} {was : List (Int × Int)} {caps : List Int} {left left1 : Int} {out out1 : List (Int × List Int)} {W w1 w2 : World} {e : Ending} (hf : f ≤ 10000) (h1 : left1 < left ∧ LBv f ≤ left1 ∧ (0 ≤ left1 → Hx C.tx C.E A p was (caps.set 0 C.frm) out out1)) (fr : Fr C W w1) (hq : HPost C f B p was caps left1 out1 w1 e w2) : TwoPost C f (.inOrder [A, B]) p was caps left out W e w2 := by
  obtain ⟨e1, left', out', h2, h3, h4, h5, h6⟩ := hq
  have hl : left' < left1 ∧ LBv f - 2 ≤ left' := by
    have hb := h1.2.1
    simp only [LBv] at hb h4 ⊢
    by_cases hz : left1 ≤ 0
    · have := h3 hz
      omega
    · have := h4 (by omega)
      omega
  exact ⟨e1, left', out', h2, by omega, hl.2, fun h => hx_two (h1.2.2 (by omega)) (h5 h), fr.trans h6⟩
set_option maxRecDepth 100000 in
set_option maxHeartbeats 8000000 in
theorem either58 {C : HC} (hk : HCk C) {f : Nat} (hB : Hid (BeginC C f)) (hO : Hid (OnC C f)) (hf : f ≤ 10000) {W : World} {left : Int} {out : List (Int × List Int)} {lb : Nat} {R : List (Int × Int)} {a : Int} {t0 : Lt} {mn mx : Int} {lz : Bool} {ix : Int} {nm : ByteArray} {B : Way} {up : Int} {nth : Nat} {p : Nat} {caps : List Int} {cv : Value} {was : List (Int × Int)} {KW : List Int} {wv : Value}
    (he : (⟨.mk lb 6 R a [t0] mn mx lz ix nm, B, up, nth⟩ : Pl) ∈ C.L) (h : HIn C W left out p caps cv was KW wv f) (h0 : 0 ≤ left) {WX : Way} (hX : ∀ o1 o2, Hx C.tx C.E (t0.fw (subB (.mk lb 6 R a [t0] mn mx lz ix nm) B 0)) p was (caps.set 0 C.frm) o1 o2 → Hx C.tx C.E WX p was (caps.set 0 C.frm) o1 o2) :
    Calls Try.prog 58 #[.pointer (some ⟨C.hb, 0, none⟩), .int .i64 (lb : Int), .int .i64 (p : Int), cv, wv] W (TwoPost C f (.inOrder (if lz = true then [B, WX] else [WX, B])) p was caps left out W) := by
  have hlb := hk.num _ he
  have hnn := hk.nn
  obtain ⟨r1, r3, s1, s2, s3, sa, sc, hP, -, -, hR, ok⟩ := h.hm.at he
  obtain ⟨a4, n4, c4, k0, -, -, -, -, -, -, -⟩ := h.hm.cells
  simp only [Lt.lb] at hlb
  have hkid := hk.child _ he 0 (by simp [Lt.sub])
  obtain ⟨V, hV⟩ : ∃ V, V = W.alloc (.cells #[.int .i64 6, .slice r1 R.length r3, .int .i64 a, .slice s1 s2 s3, .int .i64 mn, .int .i64 mx, .bool lz, .int .i64 ix, .string nm, .slice sa 1 sc, .int .i64 up, .int .i64 (nth : Int)] 64) := ⟨_, rfl⟩
  obtain ⟨hmV, frV⟩ := h.hm.copy (o := .cells #[.int .i64 6, .slice r1 R.length r3, .int .i64 a, .slice s1 s2 s3, .int .i64 mn, .int .i64 mx, .bool lz, .int .i64 ix, .string nm, .slice sa 1 sc, .int .i64 up, .int .i64 (nth : Int)] 64)
  have hY : V.heap[W.heap.size]? = some (.cells #[.int .i64 6, .slice r1 R.length r3, .int .i64 a, .slice s1 s2 s3, .int .i64 mn, .int .i64 mx, .bool lz, .int .i64 ix, .string nm, .slice sa 1 sc, .int .i64 up, .int .i64 (nth : Int)] 64 (0, 0)) := by rw [hV]; exact heap_alloc_new W _
  rw [← hV] at hmV frV
  have HSZ : Hid (C.NB ≤ W.heap.size) := hid h.hm.nb
  obtain ⟨y, hy⟩ : ∃ y, y = W.heap.size := ⟨_, rfl⟩
  have HV := hid (h.go (f' := f) hmV frV (Int.le_refl _) h.fuel h.lo)
  have HFV := hid frV
  have HYV := hid hV
  have HEY := hid hy
  have hg : ∃ g, sa = some ⟨g, 0, none⟩ := by
    obtain ⟨g, e, _⟩ := sub_cell hR (by simp) (i := 0) (by simp)
    exact ⟨g, e⟩
  obtain ⟨g, rfl⟩ := hg
  have HR : Hid (∀ w', Fr C W w' → w'.cell? ⟨g, 0, none⟩ = some (.int .i64 (t0.lb : Int))) := fun w' fr => by
    obtain ⟨g', e, h⟩ := sub_cell (fr.row hR) (by simp) (i := 0) (by simp)
    simp only [Option.some.injEq, Addr.mk.injEq] at e
    obtain ⟨rfl, -⟩ := e
    exact h
  have HY : Hid (∀ w', Fr C V w' → w'.heap[y]? = some (.cells #[.int .i64 6, .slice r1 R.length r3, .int .i64 a, .slice s1 s2 s3, .int .i64 mn, .int .i64 mx, .bool lz, .int .i64 ix, .string nm, .slice (some ⟨g, 0, none⟩) 1 sc, .int .i64 up, .int .i64 (nth : Int)] 64 (0, 0))) := fun w' fr => fr.box _ _ (by rw [hy]; exact hY)
  simp only [P12, List.length_cons, List.length_nil, Nat.zero_add] at hP
  obtain ⟨p0, p1, p2, p3, p4, p5, p6, p7, p8, p9, p10, p11⟩ := hP
  have HB0 : Hid (∀ w' left' out', HIn C w' left' out' p caps cv was KW wv f → Calls Try.prog 18 #[.pointer (some ⟨C.hb, 0, none⟩), .int .i64 (t0.lb : Int), .int .i64 (p : Int), cv, wv] w' (HPost C f (t0.fw (subB (.mk lb 6 R a [t0] mn mx lz ix nm) B 0)) p was caps left' out' w')) := fun w' left' out' hin => hB.out w' left' out' _ p caps cv was KW wv hkid hin
  have HO0 : Hid (∀ w' left' out', HIn C w' left' out' p caps cv was KW wv f → Calls Try.prog 37 #[.pointer (some ⟨C.hb, 0, none⟩), .int .i64 (lb : Int), .int .i64 (p : Int), cv, wv] w' (HPost C f B p was caps left' out' w')) := fun w' left' out' hin => hO.out w' left' out' _ p caps cv was KW wv he hin
  have HX := hid hX
  have HH := hid h
  have b1 : (lb : Int) < (C.n : Int) := by omega
  obtain ⟨hb, ehb⟩ : ∃ hb, hb = C.hb := ⟨_, rfl⟩
  obtain ⟨pb, epb⟩ : ∃ pb, pb = C.pb := ⟨_, rfl⟩
  obtain ⟨n, en⟩ : ∃ n, n = C.n := ⟨_, rfl⟩
  obtain ⟨pc, epc⟩ : ∃ pc, pc = C.pc := ⟨_, rfl⟩
  clear hnn hkid hX hR hmV frV hY hB hO h he ok ehb epb en epc hV hy hk
  have HFF := hid hf
  clear hf
  go_enter Try.func58, Try.ntmps58
  go_upto_region 1 with fail
  rw [← HYV.out, ← HEY.out]
  clear p0 p1 p2 p3 p4 p5 p6 p7 p8 p9 p10 p11 k0
  obtain ⟨-, -, -, -, -, y6, -, y9⟩ := box12' (HY.out V (Fr.refl C V))
  cases lz
  · have g0 := HR.out V HFV.out
    have HC := HB0.out _ _ _ HV.out
    go_upto_region 4 with (first | (go_at_call 18; (with_reducible refine HC.mono ?_); rintro e w1 hp; obtain ⟨rfl, left1, out1, hi1, fr1, hl1⟩ := HIn.second HFF.out HV.out h0 (hp.as HX.out); obtain ⟨-, -, -, -, -, z6, -, -⟩ := box12' (HY.out w1 fr1); have HC2 := HO0.out _ _ _ hi1; have HF1 := hid fr1; have HL1 := hid hl1; clear hp hi1 fr1 hl1 HC y6 y9 g0))
    go_wp2_with (first | (go_at_call 37; (with_reducible refine HC2.mono ?_); rintro e w2 hp; have hq := hid (two_done HFF.out HL1.out (HFV.out.trans HF1.out) hp); obtain ⟨rfl, -⟩ := hp; clear HC2 z6))
    go_end0
    exact hq.out
  · have HC := HO0.out _ _ _ HV.out
    go_upto_region 3 with (first | (go_at_call 37; (with_reducible refine HC.mono ?_); rintro e w1 hp; obtain ⟨rfl, left1, out1, hi1, fr1, hl1⟩ := HIn.second HFF.out HV.out h0 hp; obtain ⟨-, -, -, -, -, z6, -, z9⟩ := box12' (HY.out w1 fr1); have g0 := HR.out w1 (HFV.out.trans fr1); have HC2 := HB0.out _ _ _ hi1; have HF1 := hid fr1; have HL1 := hid hl1; have HI1 := hid hi1; clear hp hi1 fr1 hl1 HC y6 y9))
    go_wp2_with (first | (go_at_call 18; (with_reducible refine HC2.mono ?_); rintro e w2 hp; have hq := hid (two_done HFF.out HL1.out (HFV.out.trans HF1.out) (hp.as HX.out)); obtain ⟨rfl, -, -, -, -, -, -, fr2⟩ := hp; obtain ⟨-, -, -, -, -, z6, -, z9⟩ := box12' (HY.out w2 (HF1.out.trans fr2)); clear HC2 fr2))
    go_end0
    exact hq.out
end Go.Proofs.Ytnpocciioedgpaa
/- HELPERS: the hunt: decide, repeat. -/
namespace Go.Proofs.Ytnpocciioedgpaa
open Go.RowKit
set_option linter.unusedVariables false
set_option linter.unusedSimpArgs false
/-- what is under way once more -/
theorem HIn.and {C : HC} {W W' : World} {left : Int} {out : List (Int × List Int)} {p : Nat} {caps : List Int} {cv : Value} {was was' : List (Int × Int)} {KW : List Int} {wv : Value} {f : Nat} {key : Int} {v' : Value} (h : HIn C W left out p caps cv was KW wv (f + 1)) (h1 : 0 < left) (hk : KR was' (KW ++ [key])) (hm : HM C W' (left - 1) out) (fr : Fr C W W') (ho : Rw W' v' (KW ++ [key])) : HIn C W' (left - 1) out p caps cv was' (KW ++ [key]) v' f :=
  ⟨hm, h.p64, fr.row h.cap, h.capl, ho, hk, by have := h.fuel; omega, by omega, by have := h.sz; simp; omega⟩
theorem stop_post {C : HC} {f : Nat} {A : Way} {p : Nat} {was : List (Int × Int)} {caps : List Int} {left : Int} {out : List (Int × List Int)} {W w' : World} (h : HM C w' (left - 1) out) (fr : Fr C W w') (hx : 0 < left → Hx C.tx C.E A p was (caps.set 0 C.frm) out out) : HPost C f A p was caps left out W (.returned (.tuple #[])) w' :=
  ⟨rfl, left - 1, out, h, fun _ => rfl, fun _ => ⟨by omega, by simp only [LBv]; omega⟩, fun h => hx (by omega), fr⟩
theorem two_post {C : HC} {f : Nat} {A A' : Way} {p : Nat} {was was' : List (Int × Int)} {caps caps' : List Int} {left : Int} {out : List (Int × List Int)} {W V w' : World} {e : Ending} (h : TwoPost C f A p was caps (left - 1) out V e w') (fr : Fr C W V) (h0 : 0 < left) (hx : ∀ o, Hx C.tx C.E A p was (caps.set 0 C.frm) out o → Hx C.tx C.E A' p was' (caps'.set 0 C.frm) out o) : HPost C (f + 1) A' p was' caps' left out W e w' := by
  obtain ⟨h1, left', out', h2, h3, h4, h5, h6⟩ := h
  refine ⟨h1, left', out', h2, fun h => by omega, fun _ => ⟨by omega, ?_⟩, fun h => hx _ (h5 h), fr.trans h6⟩
  simp only [LBv] at h4 ⊢
  omega
theorem one_two {C : HC} {f : Nat} {A : Way} {p : Nat} {was : List (Int × Int)} {caps : List Int} {left : Int} {out : List (Int × List Int)} {W V w' : World} {e : Ending} (fr : Fr C W V) (h0 : 0 ≤ left) (h : HPost C f A p was caps left out V e w') : TwoPost C f A p was caps left out W e w' := by
  obtain ⟨h1, left', out', h2, h3, h4, h5, h6⟩ := h
  have hl : left' < left ∧ LBv f - 2 ≤ left' := by
    simp only [LBv] at h4 ⊢
    by_cases hz : left ≤ 0
    · have := h3 hz
      omega
    · have := h4 (by omega)
      omega
  exact ⟨h1, left', out', h2, hl.1, hl.2, h5, fr.trans h6⟩
theorem TwoPost.on {C : HC} {f : Nat} {A : Way} {p : Nat} {was : List (Int × Int)} {caps : List Int} {left : Int} {out : List (Int × List Int)} {W V w' : World} {e : Ending} (h : TwoPost C f A p was caps left out V e w') (fr : Fr C W V) : TwoPost C f A p was caps left out W e w' := by
  obtain ⟨h1, left', out', h2, h3, h4, h5, h6⟩ := h
  exact ⟨h1, left', out', h2, h3, h4, h5, fr.trans h6⟩
set_option maxRecDepth 100000 in
set_option maxHeartbeats 8000000 in
theorem decide56 {C : HC} (hk : HCk C) {f : Nat} (hB : Hid (BeginC C f)) (hO : Hid (OnC C f)) (hf : f ≤ 10000) : DecideC C (f + 1) := by
  intro W left out lb R a s mn mx lz ix nm B up nth p caps cv was KW wv he hmx h
  have hF := node_fine (hk.fine _ he)
  have hs1 := (hF.rep rfl).1
  obtain ⟨t0, rfl⟩ : ∃ t0, s = [t0] := by
    match s, hs1 with
    | [t], _ => exact ⟨t, rfl⟩
  have heo := hk.eo _ he
  have hE : C.E lb = t0.fw (subB (.mk lb 6 R a [t0] mn mx lz ix nm) B 0) := by
    have h6 := heo.2.2.2 rfl
    rcases h6 with h6 | h6
    · rw [h6.2.1]; simp [subB, fwH, hmx]
    · omega
  have hlb := hk.num _ he
  have hnn := hk.nn
  have htn := hk.tn64
  have hp := h.p64
  simp only [Lt.lb] at hlb
  obtain ⟨-, -, -, -, -, -, k3, -, ku, -, -⟩ := h.hm.cells
  have u3 := ku 3
  obtain ⟨W1, hW1⟩ : ∃ W1, W1 = W.setCell ⟨C.hb, 3, none⟩ (.int .i64 (left - 1)) := ⟨_, rfl⟩
  obtain ⟨hm1, fr1⟩ := h.hm.dec
  rw [← hW1] at hm1 fr1
  obtain ⟨-, -, -, -, -, -, l3, -, -, -, -⟩ := hm1.cells
  have HHM := hid hm1
  have HF1 := hid fr1
  obtain ⟨key, hkey⟩ : ∃ key : Int, key = 2 * (100 * (lb : Int) + (p : Int)) := ⟨_, rfl⟩
  have hw1 := fr1.row h.wasr
  obtain ⟨wa, wc, ewv⟩ := hw1.form
  subst ewv
  have hDid := did35 KW wa KW.length wc key W1 _ (hw1.text (by have := h.sz; omega))
  have hAnd := and36 KW (.slice wa KW.length wc) key W1 hw1.src (by have := h.sz; omega)
  have hdec : decide (key ∈ KW) = decide ((kd lb, (p : Int)) ∈ was) := by
    rw [hkey]; exact decide_eq_decide.2 ((h.kr lb p (by omega)).2.symm)
  rw [hdec] at hDid
  have hr3 : -100000000000 ≤ left ∧ left ≤ 20000 := ⟨h.lo, by have := h.fuel; omega⟩
  have HH := hid h
  have hlb3 : (lb : Int) ≤ 300000 := by omega
  have hp64 : (p : Int) ≤ 64 := by omega
  have HEI : Hid (∀ W' wv', HM C W' (left - 1) out → Fr C W W' → Rw W' wv' (KW ++ [key]) → 0 < left → Calls Try.prog 58 #[.pointer (some ⟨C.hb, 0, none⟩), .int .i64 (lb : Int), .int .i64 (p : Int), cv, wv'] W' (TwoPost C f (.inOrder (if lz = true then [B, .again lb] else [.again lb, B])) p ((kd lb, (p : Int)) :: was) caps (left - 1) out W')) := fun W' wv' hm fr ho h1 =>
    either58 hk hB hO hf he (h.and h1 (by rw [hkey]; exact h.kr.decided (by omega)) hm fr ho) (by omega) (fun o1 o2 hx => .again (by rw [hE]; exact hx))
  have HKY := hid hkey
  have HW1 := hid hW1
  obtain ⟨d, hd⟩ : ∃ d, d = decide ((kd lb, (p : Int)) ∈ was) := ⟨_, rfl⟩
  rw [← hd] at hDid
  have HD := hid hd
  clear hd hk hB hO hf he hF hs1 heo hE hlb hnn htn hp hm1 fr1 hw1 h hdec hW1 ku hkey
  go_enter Try.func56, Try.ntmps56
  go_upto_region 2 with fail
  rw [← HW1.out, ← HKY.out]
  clear k3 u3
  go_upto_region 3 with (first | (go_at_call 35; (with_reducible refine hDid.mono ?_); rintro e w1 ⟨rfl, rfl⟩))
  by_cases hl : left - 1 < 0
  · go_wp2_with fail
    refine bodyPost_ret (results_none rfl _ _ _) rfl ?_
    exact stop_post HHM.out HF1.out (fun h => by omega)
  · cases d
    · have HA := hAnd
      go_wp2_with (first | (go_at_call 36; (with_reducible refine HA.mono ?_); rintro e w2 ⟨v', rfl, ho, hb⟩; obtain ⟨hm2, fr2⟩ := HHM.out.below hb; have HC := HEI.out w2 v' hm2 (HF1.out.trans fr2) (Rw.of ho (by omega)) (by omega); have HF2 := hid fr2; clear ho hb hm2 fr2 HA) | (go_at_call 58; (with_reducible refine HC.mono ?_); rintro e w3 hp; have hq := hid (two_post (A' := Kd lz lb B) (was' := was) (caps' := caps) hp (HF1.out.trans HF2.out) (by omega) (fun o hx => .once (by simp only [kd]; omega) (of_decide_eq_false HD.out.symm) hx)); obtain ⟨rfl, -⟩ := hp; clear HC))
      go_end0
      exact hq.out
    · go_wp2_with fail
      refine bodyPost_ret (results_none rfl _ _ _) rfl ?_
      exact stop_post HHM.out HF1.out (fun h => .skip (by simp only [kd]; omega) (of_decide_eq_true HD.out.symm))
set_option maxRecDepth 100000 in
set_option maxHeartbeats 8000000 in
theorem repeat40 {C : HC} (hk : HCk C) {f : Nat} (hB : Hid (BeginC C f)) (hO : Hid (OnC C f)) (hD : Hid (DecideC C f)) (hf : f ≤ 10000) {W : World} {left : Int} {out : List (Int × List Int)} {lb : Nat} {R : List (Int × Int)} {a : Int} {t0 : Lt} {mn mx : Int} {lz : Bool} {ix : Int} {nm : ByteArray} {B : Way} {up : Int} {nth : Nat} {p : Nat} {caps : List Int} {cv : Value} {was : List (Int × Int)} {KW : List Int} {wv : Value}
    (he : (⟨.mk lb 6 R a [t0] mn mx lz ix nm, B, up, nth⟩ : Pl) ∈ C.L) (h : HIn C W left out p caps cv was KW wv f) (h0 : 0 ≤ left) :
    Calls Try.prog 40 #[.pointer (some ⟨C.hb, 0, none⟩), .int .i64 (lb : Int), .int .i64 (p : Int), cv, wv] W (TwoPost C f (if mx < 0 then (if mn = 0 then Kd lz lb B else fwH [t0] (Kd lz lb B)) else .inOrder (if lz = true then [B, fwH [t0] B] else [fwH [t0] B, B])) p was caps left out W) := by
  have hlb := hk.num _ he
  have hnn := hk.nn
  obtain ⟨r1, r3, s1, s2, s3, sa, sc, hP, -, -, hR, ok⟩ := h.hm.at he
  obtain ⟨a4, n4, c4, k0, -, -, -, -, -, -, -⟩ := h.hm.cells
  simp only [Lt.lb] at hlb
  have hkid := hk.child _ he 0 (by simp [Lt.sub])
  obtain ⟨V, hV⟩ : ∃ V, V = W.alloc (.cells #[.int .i64 6, .slice r1 R.length r3, .int .i64 a, .slice s1 s2 s3, .int .i64 mn, .int .i64 mx, .bool lz, .int .i64 ix, .string nm, .slice sa 1 sc, .int .i64 up, .int .i64 (nth : Int)] 64) := ⟨_, rfl⟩
  obtain ⟨hmV, frV⟩ := h.hm.copy (o := .cells #[.int .i64 6, .slice r1 R.length r3, .int .i64 a, .slice s1 s2 s3, .int .i64 mn, .int .i64 mx, .bool lz, .int .i64 ix, .string nm, .slice sa 1 sc, .int .i64 up, .int .i64 (nth : Int)] 64)
  have hY : V.heap[W.heap.size]? = some (.cells #[.int .i64 6, .slice r1 R.length r3, .int .i64 a, .slice s1 s2 s3, .int .i64 mn, .int .i64 mx, .bool lz, .int .i64 ix, .string nm, .slice sa 1 sc, .int .i64 up, .int .i64 (nth : Int)] 64 (0, 0)) := by rw [hV]; exact heap_alloc_new W _
  rw [← hV] at hmV frV
  obtain ⟨y, hy⟩ : ∃ y, y = W.heap.size := ⟨_, rfl⟩
  have HV := hid (h.go (f' := f) hmV frV (Int.le_refl _) h.fuel h.lo)
  have HFV := hid frV
  have HYV := hid hV
  have HEY := hid hy
  have hg : ∃ g, sa = some ⟨g, 0, none⟩ := by
    obtain ⟨g, e, _⟩ := sub_cell hR (by simp) (i := 0) (by simp)
    exact ⟨g, e⟩
  obtain ⟨g, rfl⟩ := hg
  have HR : Hid (∀ w', Fr C W w' → w'.cell? ⟨g, 0, none⟩ = some (.int .i64 (t0.lb : Int))) := fun w' fr => by
    obtain ⟨g', e, h⟩ := sub_cell (fr.row hR) (by simp) (i := 0) (by simp)
    simp only [Option.some.injEq, Addr.mk.injEq] at e
    obtain ⟨rfl, -⟩ := e
    exact h
  have HY : Hid (∀ w', Fr C V w' → w'.heap[y]? = some (.cells #[.int .i64 6, .slice r1 R.length r3, .int .i64 a, .slice s1 s2 s3, .int .i64 mn, .int .i64 mx, .bool lz, .int .i64 ix, .string nm, .slice (some ⟨g, 0, none⟩) 1 sc, .int .i64 up, .int .i64 (nth : Int)] 64 (0, 0))) := fun w' fr => fr.box _ _ (by rw [hy]; exact hY)
  simp only [P12, List.length_cons, List.length_nil, Nat.zero_add] at hP
  obtain ⟨p0, p1, p2, p3, p4, p5, p6, p7, p8, p9, p10, p11⟩ := hP
  have HB0 : Hid (mx < 0 → Calls Try.prog 18 #[.pointer (some ⟨C.hb, 0, none⟩), .int .i64 (t0.lb : Int), .int .i64 (p : Int), cv, wv] V (HPost C f (fwH [t0] (Kd lz lb B)) p was caps left out V)) := fun hm => by
    have := hB.out V left out _ p caps cv was KW wv hkid HV.out
    simp only [child, Lt.sub, subB] at this
    simpa [fwH, hm, Lt.lb] using this
  have HD0 : Hid (mx < 0 → Calls Try.prog 56 #[.pointer (some ⟨C.hb, 0, none⟩), .int .i64 (lb : Int), .int .i64 (p : Int), cv, wv] V (HPost C f (Kd lz lb B) p was caps left out V)) := fun hm => hD.out V left out lb R a _ mn mx lz ix nm B up nth p caps cv was KW wv he hm HV.out
  have HE0 : Hid (¬ mx < 0 → Calls Try.prog 58 #[.pointer (some ⟨C.hb, 0, none⟩), .int .i64 (lb : Int), .int .i64 (p : Int), cv, wv] V (TwoPost C f (.inOrder (if lz = true then [B, fwH [t0] B] else [fwH [t0] B, B])) p was caps left out V)) := fun hm => either58 hk hB hO hf he HV.out h0 (fun o1 o2 hx => by simpa [fwH, subB, hm] using hx)
  have HH := hid h
  have b1 : (lb : Int) < (C.n : Int) := by omega
  obtain ⟨om1, om2⟩ := ok.a4
  obtain ⟨ox1, ox2⟩ := ok.a5
  simp only at om1 om2 ox1 ox2
  clear hnn hkid hR hmV frV hY hB hO h he ok hV hy hk hD
  have HFF := hid hf
  clear hf
  generalize hWW : (if mx < 0 then (if mn = 0 then Kd lz lb B else fwH [t0] (Kd lz lb B)) else .inOrder (if lz = true then [B, fwH [t0] B] else [fwH [t0] B, B])) = WW
  have HWW := hid hWW
  clear hWW
  go_enter Try.func40, Try.ntmps40
  go_upto_region 1 with fail
  rw [← HYV.out, ← HEY.out]
  clear p0 p1 p2 p3 p4 p5 p6 p7 p8 p9 p10 p11 k0
  obtain ⟨-, -, -, y4, y5, -, -, y9⟩ := box12' (HY.out V (Fr.refl C V))
  have g0 := HR.out V HFV.out
  by_cases hm : mx < 0
  · by_cases hn : mn = 0
    · have HC := HD0.out hm
      go_wp2_with (first | (go_at_call 56; (with_reducible refine HC.mono ?_); rintro e w1 hp; have hq := hid (one_two HFV.out h0 hp); obtain ⟨rfl, -⟩ := hp; clear HC))
      refine bodyPost_ret (results_none rfl _ _ _) rfl ?_
      exact (by have e := HWW.out; rw [if_pos hm, if_pos hn] at e; rw [← e]; exact hq.out)
    · have HC := HB0.out hm
      go_wp2_with (first | (go_at_call 18; (with_reducible refine HC.mono ?_); rintro e w1 hp; have hq := hid (one_two HFV.out h0 hp); obtain ⟨rfl, -⟩ := hp; clear HC))
      refine bodyPost_ret (results_none rfl _ _ _) rfl ?_
      exact (by have e := HWW.out; rw [if_pos hm, if_neg hn] at e; rw [← e]; exact hq.out)
  · have HC := HE0.out hm
    go_wp2_with (first | (go_at_call 58; (with_reducible refine HC.mono ?_); rintro e w1 hp; have hq := hid (hp.on HFV.out); obtain ⟨rfl, -⟩ := hp; clear HC))
    go_end0
    exact (by have e := HWW.out; rw [if_neg (by omega)] at e; rw [← e]; exact hq.out)
end Go.Proofs.Ytnpocciioedgpaa
namespace Go.Proofs.Ytnpocciioedgpaa
open Go.RowKit
set_option linter.unusedVariables false
set_option linter.unusedSimpArgs false
theorem step_call3 {P : Program} {ops : Array Oper} {o : Oper} {a : Act} {w : World} {K : Act → World → Prop} {Q : Exit → Act → World → Prop} {E : Prop} (hg : o.guard = none) (f : FuncId) (x y z : Operand) (t u v : TypeId)
    (hop : o.op = Op.call { callee := Callee.value (.func f), args := #[x, y, z], argTypes := #[t, u, v] }) (hen : ∀ args w, (callFunc f args).run P w = .ok (.enter f args) w)
    (hc : Calls P f #[a.eval x, a.eval y, a.eval z] w fun e w' => ∃ v, e = .returned v ∧ K (a.put o.dst v) w') :
    if Region.wanted o (yielded ops a.tmps) = true then Oper.wp P o a w K Q else E := by
  have hw : Region.wanted o (yielded ops a.tmps) = true := by simp [Region.wanted, hg]
  rw [if_pos hw]
  have h2 := hen #[a.eval x, a.eval y, a.eval z] w
  unfold Oper.wp
  have ev : a.eval (.func f) = .func (.func f) #[] #[] := rfl
  simp [execOp, hop, resolve, invoke, ev, Deferred.ofValue, h2, Result.andThen]
  show Calls P f #[a.eval x, a.eval y, a.eval z] w _
  refine hc.mono fun e w' h => ?_
  obtain ⟨v, rfl, hk⟩ := h
  exact hk
theorem en39 : ∀ (args : Array Value) (w : World), (callFunc 39 args).run Try.prog w = .ok (.enter 39 args) w := enter_of Try.func39 (by kernel_rfl) rfl
theorem step_append {P : Program} {w : World} {ops : Array Oper} {o : Oper} {a : Act} {K : Act → World → Prop} {Q : Exit → Act → World → Prop} {E : Prop} (hgd : o.guard = none) (s x : Operand) (t : TypeId)
    (ho : o.op = .call { callee := .builtin .append, args := #[s, x], argTypes := #[t, t] })
    (base : Nat) (e : TypeId) (i : TypeInfo) (z : Value) (size bytes : Nat) (ht : P.underlying t = some (.slice e)) (hi : P.info? e = some i) (hz : i.zero = some z)
    (hsize : i.size = size) (hby : i.bytes = bytes) (hzs : z.cells.size = size) (hpos : 0 < size)
    (v : Value) (n : Nat) (xs : List Value) (hs : a.eval s = v) (hown : w.ownsRow base e size v n xs)
    (ad : Addr) (m c : Nat) (news : List Value) (hx : a.eval x = .slice (some ad) m c) (hl : news.length = m * size) (hm : 0 < m) (hnews : ∀ j u, news[j]? = some u → w.cell? (ad.add j) = some u) (h1 : ∀ u ∈ news, u.oneCell' = true)
    (h63 : n + m ≤ maxLen) (hbytes : (n + m) * bytes ≤ 140737488355328) (hbase : base ≤ w.heap.size)
    (h : ∀ v' w', Hid (w'.ownsRow base e size v' (n + m) (xs ++ news)) → Hid (Moved w w' v v') → K (a.put o.dst v') w') : if Region.wanted o (yielded ops a.tmps) = true then Oper.wp P o a w K Q else E := by
  have hw : Region.wanted o (yielded ops a.tmps) = true := by simp [Region.wanted, hgd]
  rw [if_pos hw]
  obtain ⟨v', w', hr, h2, h3⟩ := run_append_moveN (P := P) w base t o.type e i z size bytes ht hi hz hsize hby hzs hpos v n xs hown ad m c news hl hm hnews h1 h63 hbytes hbase
  unfold Oper.wp execOp
  simp only [ho, resolve, invoke, builtin, Sem.run_bind, Sem.run_pure, Result.andThen_ok, List.map_toArray, List.map_cons, List.map_nil, hs, hx, hr]
  exact h v' w' h2 h3
/-- one more was found -/
theorem HM.push {C : HC} {W1 W2 W3 : World} {left : Int} {out : List (Int × List Int)} (h : HM C W1 left out) {v v' : Value} {cs : List Value} {F : List Nat} (hbx : W1.heap[C.hb]? = some (.cells #[.slice (some ⟨C.pb, 0, none⟩) C.n C.pc, .slice C.tad C.tn C.tc, .int .i64 C.frm, .int .i64 left, v] 42 (0, 0)))
    (ho : W1.ownsRow C.NB 53 2 v out.length cs) (hP : PR C.NB W1 cs out F) (hb : Below W1.heap.size W1 W2) {e : Int} {cp : List Int} {cv : Value} {base : Nat} (hc : W2.ownsRow base 3 1 cv cp.length (I64 cp)) (hbase : C.NB ≤ base) {o : Obj}
    (hm : Moved (W2.alloc o) W3 v v') (ho3 : W3.ownsRow C.NB 53 2 v' (out.length + 1) (cs ++ [.int .i64 e, cv])) (hol : (out.length : Int) + 1 + left ≤ 4000) :
    HM C (W3.setCell ⟨C.hb, 4, none⟩ v') left (out ++ [(e, cp)]) ∧ Fr C W1 (W3.setCell ⟨C.hb, 4, none⟩ v') := by
  have hs := hb.size
  have hs3 : W2.heap.size ≤ W3.heap.size := by rcases hm with ⟨_, h⟩ | ⟨_, h⟩ <;> (have := h.size; simp at this; omega)
  have hbl := (Array.getElem?_eq_some_iff.1 hbx).1
  have old2 : ∀ k, k < W2.heap.size → v.ownBlock ≠ some k → W3.heap[k]? = W2.heap[k]? := fun k hk hne => (moved_old' hm (by simp; omega) hne).trans (heap_alloc_old W2 _ hk)
  have old : ∀ k, k < W1.heap.size → v.ownBlock ≠ some k → W3.heap[k]? = W1.heap[k]? := fun k hk hne => (old2 k (by omega) hne).trans (hb.block k hk)
  have hb3 : W3.heap[C.hb]? = some (.cells #[.slice (some ⟨C.pb, 0, none⟩) C.n C.pc, .slice C.tad C.tn C.tc, .int .i64 C.frm, .int .i64 left, v] 42 (0, 0)) := (old C.hb hbl (own_ne ho hbx (by decide))).trans hbx
  have set : ∀ k, k ≠ C.hb → (W3.setCell ⟨C.hb, 4, none⟩ v').heap[k]? = W3.heap[k]? := fun k hk => Below.heap_setCell _ _ _ _ hk
  have typ : ∀ (b : Nat) (cur : Array Value) (T : Nat), T ≠ 42 → T ≠ 53 → W1.heap[b]? = some (.cells cur T (0, 0)) → (W3.setCell ⟨C.hb, 4, none⟩ v').heap[b]? = some (.cells cur T (0, 0)) := fun b cur T h1 h2 hx =>
    (set b (fun e => by rw [e, hbx] at hx; simp at hx; exact h1 hx.2.symm)).trans ((old b (Array.getElem?_eq_some_iff.1 hx).1 (own_ne ho hx h2)).trans hx)
  have fr : Fr C W1 (W3.setCell ⟨C.hb, 4, none⟩ v') := by
    refine ⟨?_, ?_, ?_, by simp [World.setCell]; omega, fun b hb1 hb2 => ?_, fun b cur hx => typ b cur 3 (by decide) (by decide) hx, fun b cur hx => typ b cur 64 (by decide) (by decide) hx⟩
    · rcases hm with ⟨_, h⟩ | ⟨_, h⟩ <;> exact h.os.trans hb.os
    · rcases hm with ⟨_, h⟩ | ⟨_, h⟩ <;> exact h.tape.trans hb.tape
    · rcases hm with ⟨_, h⟩ | ⟨_, h⟩ <;> exact h.output.trans hb.output
    · exact (set b hb2).trans (old b (by have := h.nb; omega) (fun e => by have := (ho.lt b e).1; omega))
  refine ⟨h.next fr ⟨v', Joins.block_setCell (i := 4) hb3 _, cs ++ [.int .i64 e, cv], F ++ cv.ownBlock.toList, ?_, ?_⟩ (by simp; omega), fr⟩
  · rw [List.length_append]
    exact own_setCell ho3 (own_ne ho3 hb3 (by decide))
  · refine (hP.kept fun k hk => ?_).snoc ?_
    · obtain ⟨cur, hx⟩ := hP.typ k hk
      exact (typ k cur 3 (by decide) (by decide) hx).trans hx.symm
    · refine row_kept (Joins.ownsRow_le hc hbase) fun b hb' => ?_
      obtain ⟨cur, hx⟩ : ∃ cur, W2.heap[b]? = some (.cells cur 3 (0, 0)) := by
        rcases hc.2 with ⟨e, _⟩ | ⟨b2, cap, cur, e, _, hgg, _⟩
        · subst e; simp [Value.ownBlock] at hb'
        · subst e; simp [Value.ownBlock] at hb'; subst hb'; exact ⟨cur, hgg⟩
      have hbl2 := (Array.getElem?_eq_some_iff.1 hx).1
      refine (set b (fun e => ?_)).trans (old2 b hbl2 (fun e => ?_))
      · rw [e, hb.block C.hb hbl, hbx] at hx; simp at hx
      · rcases ho.2 with ⟨e2, _⟩ | ⟨b2, cap, cur2, e2, _, hgg, _⟩
        · subst e2; simp [Value.ownBlock] at e
        · subst e2
          simp [Value.ownBlock] at e
          subst e
          rw [hb.block _ (Array.getElem?_eq_some_iff.1 hgg).1, hgg] at hx
          simp at hx
set_option maxRecDepth 100000 in
set_option maxHeartbeats 8000000 in
theorem on_root {C : HC} (hk : HCk C) {f : Nat} (hf : f ≤ 10000) {W : World} {left : Int} {out : List (Int × List Int)} {lb : Nat} {k : Int} {R : List (Int × Int)} {a : Int} {s : List Lt} {mn mx : Int} {lz : Bool} {ix : Int} {nm : ByteArray} {up : Int} {nth : Nat} {p : Nat} {caps : List Int} {cv : Value} {was : List (Int × Int)} {KW : List Int} {wv : Value}
    (he : (⟨.mk lb k R a s mn mx lz ix nm, .once 1 .through, up, nth⟩ : Pl) ∈ C.L) (hup : up < 0) (hu9 : -9223372036854775808 ≤ up) (h : HIn C W left out p caps cv was KW wv (f + 1)) :
    Calls Try.prog 37 #[.pointer (some ⟨C.hb, 0, none⟩), .int .i64 (lb : Int), .int .i64 (p : Int), cv, wv] W (HPost C (f + 1) (.once 1 .through) p was caps left out W) := by
  have hlb := hk.num _ he
  have hnn := hk.nn
  have htn := hk.tn64
  have hp := h.p64
  simp only [Lt.lb] at hlb
  obtain ⟨-, -, -, -, -, -, k3, -, ku, -, -⟩ := h.hm.cells
  have u3 := ku 3
  obtain ⟨W1, hW1⟩ : ∃ W1, W1 = W.setCell ⟨C.hb, 3, none⟩ (.int .i64 (left - 1)) := ⟨_, rfl⟩
  obtain ⟨hm1, fr1⟩ := h.hm.dec
  rw [← hW1] at hm1 fr1
  obtain ⟨a4, n4, c4, l0, -, l2, l3, l4, lu, hPa, hn4⟩ := hm1.cells
  obtain ⟨r1, r3, s1, s2, s3, sa, sc, hP, -, -, -, -⟩ := hm1.at he
  simp only [P12] at hP
  obtain ⟨-, -, -, -, -, -, -, -, -, -, p10, -⟩ := hP
  have HHM := hid hm1
  have HF1 := hid fr1
  have hcv := fr1.row h.cap
  have HCV := hid hcv
  have HCL := hid h.capl
  have HK2 := hid hk.k2
  have HNB := hid hm1.nb
  have hr3 : -100000000000 ≤ left ∧ left ≤ 20000 := ⟨h.lo, by have := h.fuel; omega⟩
  have hol : (out.length : Int) ≤ 100000004001 := by have := hm1.ol; omega
  have hlb3 : (lb : Int) < (C.n : Int) := by omega
  have hlb4 : (lb : Int) ≤ 300000 := by omega
  have hp64 : (p : Int) ≤ 64 := by omega
  have HW1 := hid hW1
  have HPA := hid hPa
  have HN4 := hid hn4
  have HCE : Hid (∀ i (hil : i < out.length), ∃ b, a4 = some ⟨b, 0, none⟩ ∧ W1.cell? ⟨b, i * 2, none⟩ = some (.int .i64 out[i].1)) := fun i hil => by
    rcases hPa.ends with ⟨_, e⟩ | ⟨b, cap, e, _, _, hc⟩
    · subst e; simp at hil
    · simp only [Value.slice.injEq] at e
      exact ⟨b, e.1, (hc i hil)⟩
  have HBX : Hid (∃ cs F, W1.heap[C.hb]? = some (.cells #[.slice (some ⟨C.pb, 0, none⟩) C.n C.pc, .slice C.tad C.tn C.tc, .int .i64 C.frm, .int .i64 (left - 1), .slice a4 n4 c4] 42 (0, 0)) ∧ W1.ownsRow C.NB 53 2 (.slice a4 n4 c4) out.length cs ∧ PR C.NB W1 cs out F) := by
    obtain ⟨v, h1, cs, F, h2, h3⟩ := hm1.box
    have e : v = .slice a4 n4 c4 := by
      have := Joins.cell_of_block h1 4
      rw [l4] at this
      simpa using this.symm
    subst e
    exact ⟨cs, F, h1, h2, h3⟩
  have HOL : Hid ((out.length : Int) + 1 + (left - 1) ≤ 4000) := by have := h.hm.ol; exact hid (by omega)
  have HS0 : Hid (∀ (V : World), SrcOf V cv caps → Calls Try.prog 39 #[cv, .int .i64 ((0 : Nat) : Int), .int .i64 C.frm] V fun e w' => ∃ v', e = .returned v' ∧ w'.ownsRow V.heap.size 3 1 v' caps.length (I64 (caps.set 0 C.frm)) ∧ Below V.heap.size V w') := fun V hS => set39 caps cv 0 C.frm V hS (by have := h.capl; have := hk.k2; omega) (by have := h.capl; have := hk.k2; omega)
  have HS1 : Hid (∀ (V : World) (v' : Value), SrcOf V v' (caps.set 0 C.frm) → Calls Try.prog 39 #[v', .int .i64 ((1 : Nat) : Int), .int .i64 (p : Int)] V fun e w' => ∃ v'', e = .returned v'' ∧ w'.ownsRow V.heap.size 3 1 v'' (caps.set 0 C.frm).length (I64 ((caps.set 0 C.frm).set 1 (p : Int))) ∧ Below V.heap.size V w') := fun V v' hS => set39 _ v' 1 (p : Int) V hS (by have := h.capl; have := hk.k2; simp; omega) (by have := h.capl; have := hk.k2; simp; omega)
  have hn4b : (n4 : Int) ≤ 100000004001 := by omega
  have HH := hid h
  have HLU := hid lu
  clear hk hf he hlb hnn htn hp hm1 fr1 hcv h hW1 ku hPa hn4 lu
  go_enter Try.func37, Try.ntmps37
  go_upto_region 1 with fail
  rw [← HW1.out]
  clear k3 u3
  by_cases hl : left - 1 < 0
  · go_wp2_with fail
    refine bodyPost_ret (results_none rfl _ _ _) rfl ?_
    exact stop_post HHM.out HF1.out (fun h => by omega)
  · go_wp2_with fail
    go_loopw [11] (fun y wq => ∃ i : Nat, y = .int .i64 (i : Int) ∧ i ≤ n4 ∧ Hid ((p : Int) ∉ (out.map Prod.fst).take i) ∧ wq = W1) (fun y _ => n4 - (intOf y).toNat)
    case atStart => exact ⟨0, rfl, by omega, by exact fun h => by simp at h, rfl⟩
    case round =>
      obtain ⟨i, rfl, hi, HI, rfl⟩ := hrel
      by_cases hlt : i < n4
      · have b1 : decide ((i : Int) < (n4 : Int)) = true := by simp; omega
        have b2 : (i : Int) < (n4 : Int) := by omega
        have ad1 : IntKind.i64.wrap ((i : Int) + 1) = (i : Int) + 1 := by simp [IntKind.wrap, IntKind.bits, IntKind.signed]; omega
        have hil : i < out.length := by rw [← HN4.out]; exact hlt
        obtain ⟨b, rfl, hc⟩ := HCE.out i hil
        obtain ⟨y, hy⟩ : ∃ y, y = out[i].1 := ⟨_, rfl⟩
        rw [← hy] at hc
        by_cases he : y = (p : Int)
        · have g1 : (y == (p : Int)) = true := by simpa using he
          have hin : (p : Int) ∈ out.map Prod.fst := by rw [← he, hy]; exact List.mem_map.2 ⟨_, List.getElem_mem hil, rfl⟩
          have HIN := hid hin
          clear hin hy
          go_wp2_with fail
          refine bodyPost_ret (results_none rfl _ _ _) rfl ?_
          exact stop_post HHM.out HF1.out (fun h => .there HIN.out)
        · have g1 : (y == (p : Int)) = false := by simpa using he
          have hnx : (p : Int) ∉ (out.map Prod.fst).take (i + 1) := by
            rw [List.take_succ_eq_append_getElem (by simpa using hil), List.mem_append, List.mem_singleton]
            rintro (h | h)
            · exact HI.out h
            · simp at h; exact he (by rw [hy]; exact h.symm)
          have HNX := hid hnx
          clear hnx hy he
          go_wp2_with fail
          exact ⟨⟨i + 1, by push_cast; rfl, by omega, HNX, by first | rfl | trivial⟩, by simp [intOf]; omega⟩
      · have b1 : decide ((i : Int) < (n4 : Int)) = false := by simp; omega
        have hnot : (p : Int) ∉ out.map Prod.fst := by
          have := HI.out
          rw [show i = out.length by have := HN4.out; omega, List.take_of_length_le (by simp)] at this
          exact this
        have HNOT := hid hnot
        clear hnot
        go_upto_region 8 with fail
        have HSW : Hid (∀ V, Below wr.heap.size wr V → V.cell? ⟨C.hb, 4, none⟩ = some (.slice a4 n4 c4) ∧ V.cell? ⟨C.hb, 2, none⟩ = some (.int .i64 C.frm)) := fun V hV => by
          obtain ⟨cs, F, h1, _⟩ := HBX.out
          have e := hV.block C.hb (Array.getElem?_eq_some_iff.1 h1).1
          exact ⟨(cell_eq e _).trans l4, (cell_eq e _).trans l2⟩
        obtain ⟨i0, hi0, hz0, hz1, hz2⟩ := info_parts info53
        refine wp_region_lexK [0, 1, 2, 3, 4, 5, 6, 7, 8, 9, 10, 12] [11, 13, 14, 15, 16, 17, 18, 19] 19 (fun V => V.cell? ⟨C.hb, 4, none⟩ = some (.slice a4 n4 c4) ∧ V.cell? ⟨C.hb, 2, none⟩ = some (.int .i64 C.frm)) (by kernel_rfl) (by kernel_rfl) rfl (by kernel_rfl) (by kernel_rfl) ⟨l4, l2⟩ ?_
        simp only [opsAt, opsNo, List.getElem?_toArray, List.getElem?_cons_zero, List.getElem?_cons_succ]
        iterate 12
          refine lex_cons ?_ rfl (fun V hV => ?_) (fun _ _ _ h => h) ?_
          rotate_left
          · obtain ⟨s0, s1⟩ := hV
            go_simp <;> with_reducible rfl
          simp only [Act.put, List.setIfInBounds_toArray, List.set_cons_zero, List.set_cons_succ]
        refine lex_nil (tailK_cons fun K hK => ?_)
        refine step_call3 rfl 39 (.tmp 61) (.const (.int .i64 0)) (.tmp 65) 29 3 3 rfl en39 ?_
        refine (HS0.out wr.drew ?_).mono ?_
        · exact HCV.out.src
        rintro e w2 ⟨v1, rfl, ho1, hb1⟩
        have hB2 : Below wr.heap.size wr w2 := (show Below wr.heap.size wr wr.drew from ⟨rfl, rfl, rfl, Nat.le_refl _, fun _ _ => rfl⟩).trans hb1
        refine ⟨_, rfl, hK.out _ _ (fun _ => HSW.out w2 hB2) (tailK_cons fun K hK => ?_)⟩
        refine step_call3 rfl 39 (.tmp 66) (.const (.int .i64 1)) (.tmp 67) 29 3 3 rfl en39 ?_
        refine (HS1.out w2 v1 (Rw.of ho1 (by have := HCL.out; have := HK2.out; omega)).src).mono ?_
        rintro e w3 ⟨v2, rfl, ho2, hb2⟩
        obtain ⟨vb, vc, rfl⟩ := Joins.ownsRow_form ho2 (by have := HCL.out; have := HK2.out; simp; omega)
        have hB3 : Below wr.heap.size wr w3 := hB2.trans (Joins.below_le hb2 hB2.size)
        obtain ⟨cl, hcl⟩ : ∃ cl, cl = (caps.set 0 C.frm).length := ⟨_, rfl⟩
        rw [← hcl] at ho2 ⊢
        have HCLL := hid hcl
        have HO2 := hid ho2
        have HB3 := hid hB3
        have hs2 := hB2.size
        have hs3 := hB3.size
        clear hcl ho2 hb1 hb2 ho1 hB2 hB3
        refine ⟨_, rfl, hK.out _ _ (fun _ => HSW.out w3 HB3.out) (tailK_cons fun K hK => ?_)⟩
        simp only [Act.put, List.setIfInBounds_toArray, List.set_cons_zero, List.set_cons_succ]
        go_simp
        refine hK.out _ _ (fun _ => HSW.out w3 HB3.out) (tailK_cons fun K hK => ?_)
        simp only [Act.put, List.setIfInBounds_toArray, List.set_cons_zero, List.set_cons_succ]
        go_simp
        have hBA : Below wr.heap.size wr (w3.alloc (.cells #[.int .i64 (p : Int), .slice (some ⟨vb, 0, none⟩) cl vc] 53)) := HB3.out.trans (Joins.below_le (Joins.below_alloc1 w3 _) hs3)
        refine hK.out _ _ (fun _ => HSW.out _ hBA) (tailK_cons fun K hK => ?_)
        clear hBA
        obtain ⟨cs, F, hbx, hrow, hPR⟩ := HBX.out
        have hrow3 : w3.ownsRow C.NB 53 2 (.slice a4 n4 c4) out.length cs := row_kept hrow fun b hb => HB3.out.block b (hrow.lt b hb).2
        refine step_append rfl (.tmp 59) (.tmp 70) 35 rfl C.NB 53 i0 (.agg #[.int .i64 0, .slice none 0 0]) 2 32 Try.underlying35 hi0 hz0 hz1 hz2 rfl (by decide) (.slice a4 n4 c4) out.length cs rfl (hrow3.alloc _) ⟨w3.heap.size, 0, none⟩ 1 1 [.int .i64 (p : Int), .slice (some ⟨vb, 0, none⟩) cl vc] rfl rfl (by decide) ?_ ?_ (by unfold maxLen; omega) (by omega) (by have := HNB.out; simp; omega) ?_
        · intro j u hj
          match j, hj with
          | 0, hj => simp at hj; subst hj; simp [Addr.add]
          | 1, hj => simp at hj; subst hj; simp [Addr.add]
        · intro u hu
          simp at hu
          rcases hu with rfl | rfl <;> rfl
        intro v' w4 ho4 hm4
        obtain ⟨vb4, vc4, rfl⟩ := Joins.ownsRow_form ho4.out (by omega)
        have HPU := hid (HHM.out.push (e := (p : Int)) (cp := (caps.set 0 C.frm).set 1 (p : Int)) (cv := .slice (some ⟨vb, 0, none⟩) cl vc) hbx hrow hPR HB3.out (by rw [List.length_set, ← HCLL.out]; exact HO2.out) (by have := HNB.out; omega) hm4.out ho4.out HOL.out)
        have hb4 : w4.heap[C.hb]? = some (.cells #[.slice (some ⟨C.pb, 0, none⟩) C.n C.pc, .slice C.tad C.tn C.tc, .int .i64 C.frm, .int .i64 (left - 1), .slice a4 n4 c4] 42 (0, 0)) := by
          have hbl := (Array.getElem?_eq_some_iff.1 hbx).1
          exact (moved_old' hm4.out (by simp; omega) (own_ne hrow hbx (by decide))).trans ((heap_alloc_old w3 _ (by omega)).trans ((HB3.out.block C.hb hbl).trans hbx))
        obtain ⟨-, -, q2, -, q4⟩ := box5 hb4
        have uq4 := Joins.unfrozen_of_block hb4 4
        clear hbx hrow hPR hrow3 ho4 hm4 hb4
        refine hK.out _ _ (fun _ => ⟨q4, q2⟩) (tailK_cons fun K hK => ?_)
        simp only [Act.put, List.setIfInBounds_toArray, List.set_cons_zero, List.set_cons_succ]
        go_simp
        refine hK.out _ _ (fun _ => ⟨q4, q2⟩) (tailK_cons fun K hK => ?_)
        simp only [Act.put, List.setIfInBounds_toArray, List.set_cons_zero, List.set_cons_succ]
        go_simp
        refine hK.out _ _ (fun _ => ⟨q4, q2⟩) (tailK_cons fun K hK => ?_)
        simp only [Act.put, List.setIfInBounds_toArray, List.set_cons_zero, List.set_cons_succ]
        go_simp
        refine hK.out _ _ (fun h => absurd rfl h) (tailK_nil ?_)
        try simp only [Act.put, List.setIfInBounds_toArray, List.set_cons_zero, List.set_cons_succ]
        clear q2 q4 uq4 l0 l2 l3 l4
        go_wp2_with fail
        refine bodyPost_ret (results_none rfl _ _ _) rfl ?_
        exact ⟨rfl, left - 1, _, HPU.out.1, fun _ => rfl, fun _ => ⟨by omega, by simp only [LBv]; omega⟩, fun _ => .new HNOT.out, HF1.out.trans HPU.out.2⟩
end Go.Proofs.Ytnpocciioedgpaa
