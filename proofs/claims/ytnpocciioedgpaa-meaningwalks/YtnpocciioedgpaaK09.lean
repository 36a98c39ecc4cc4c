/- HELPERS: the law MeaningEnds walked. -/
import Derived.Test.YtnpocciioedgpaaK08
import Derived.Deep.RegionHeld2
/- HELPERS: a tree and its unfolded form: the same parses. -/
namespace Go.Proofs.Ytnpocciioedgpaa
open Go.RowKit
set_option linter.unusedVariables false
set_option linter.unusedSimpArgs false
/-- a count of one tree -/
def loopN (x : Tn) (mn mx : Int) (lz : Bool) : Tn := .mk 6 [] 0 [x] mn mx lz 0 ⟨#[]⟩
/-- trees one behind another -/
def rowN : List Tn → Tn
  | [] => .mk 1 [] 0 [] 0 0 false 0 ⟨#[]⟩
  | [x] => x
  | x :: y :: l => .mk 4 [] 0 (x :: y :: l) 0 0 false 0 ⟨#[]⟩
/-- x that may be left, and so on -/
def optN (x : Tn) (lz : Bool) : Nat → Tn
  | 0 => loopN x 0 1 lz
  | k + 1 => loopN (rowN [x, optN x lz k]) 0 1 lz
/-- a count, unfolded -/
def sprN (x : Tn) (mn mx : Int) (lz : Bool) : Tn :=
  if mx < 0 then (if mn < 2 then loopN x mn (-1) lz else rowN (List.replicate (mn - 1).toNat x ++ [loopN x 1 (-1) lz]))
  else rowN (List.replicate mn.toNat x ++ if mn < mx then [optN x lz (mx - mn - 1).toNat] else [])
mutual
/-- a tree, unfolded -/
def Tn.spread : Tn → Tn
  | .mk k R a s mn mx lz ix nm => if k = 6 then (match spreadL s with | x :: _ => sprN x mn mx lz | [] => .mk k R a [] mn mx lz ix nm) else .mk k R a (spreadL s) mn mx lz ix nm
def spreadL : List Tn → List Tn
  | [] => []
  | t :: ts => t.spread :: spreadL ts
end
theorem spreadL_map (ts : List Tn) : spreadL ts = ts.map Tn.spread := by
  induction ts with
  | nil => rfl
  | cons t ts ih => simp [spreadL, ih]
section
variable {E : Nat → Way}
theorem row_begC {l : List Tn} (hl : l ≠ []) {n n1 : Int} {B W : Way} (h : Beg E (rowN l) n B n1 W) : BegC E l n B n1 W := by
  match l, hl, h with
  | [x], _, h => exact .cons .nil h
  | x :: y :: l, _, h => exact h.cats
theorem begC_rep {x : Tn} {ts : List Tn} : ∀ {c : Nat} {n n2 : Int} {B W : Way}, BegC E (List.replicate c x ++ ts) n B n2 W → ∃ n1 W1, BegC E ts n B n1 W1 ∧ BegT E x c n1 W1 n2 W := by
  intro c
  induction c with
  | zero => intro n n2 B W h; exact ⟨_, _, by simpa using h, .zero⟩
  | succ c ih =>
    intro n n2 B W h
    rw [List.replicate_succ, List.cons_append] at h
    obtain ⟨n1, W1, h1, h2⟩ := h.first
    obtain ⟨n3, W3, h3, h4⟩ := ih h1
    exact ⟨n3, W3, h3, .succ h4 h2⟩
theorem begC_one {x : Tn} {n n1 : Int} {B W : Way} (h : BegC E [x] n B n1 W) : Beg E x n B n1 W := by
  obtain ⟨_, _, h1, h2⟩ := h.first
  obtain ⟨rfl, rfl⟩ := h1.none
  exact h2
theorem may_beg {x : Tn} {lz : Bool} {n n1 : Int} {B W : Way} (h : Beg E (loopN x 0 1 lz) n B n1 W) : ∃ n2 W2, n1 = n2 + 1 ∧ W = .once (n2 + 1) (.inOrder (if lz = true then [B, W2] else [W2, B])) ∧ Beg E x n B n2 W2 := by
  obtain ⟨t, e, h0⟩ := Beg.rep h
  simp only [List.cons.injEq, and_true] at e
  subst e
  rcases h0 with ⟨b, _, e, _⟩ | ⟨b, c, _, _, e, _⟩ | ⟨c, m, n2, W1, e1, e2, hO, hT⟩
  · omega
  · omega
  · obtain rfl : c = 0 := by omega
    obtain rfl : m = 1 := by omega
    obtain ⟨rfl, rfl⟩ := hT.none
    obtain ⟨_, n2', _, W2, rfl, rfl, r1, r2⟩ := hO.next
    obtain ⟨rfl, rfl⟩ := r1.none
    exact ⟨n2', W2, rfl, rfl, r2⟩
theorem opt_begO {x : Tn} {lz : Bool} : ∀ {k : Nat} {n n1 : Int} {B W : Way}, Beg E (optN x lz k) n B n1 W → BegO E x lz B (k + 1) n n1 W := by
  intro k
  induction k with
  | zero =>
    intro n n1 B W h
    obtain ⟨n2, W2, rfl, rfl, r0⟩ := may_beg h
    exact .succ .zero r0
  | succ k ih =>
    intro n n1 B W h
    obtain ⟨n2, W2, rfl, rfl, r0⟩ := may_beg h
    obtain ⟨n3, W3, h1, h2⟩ := (row_begC (by simp) r0).first
    exact .succ (ih (begC_one h1)) h2
theorem spr_any0 {x : Tn} {lz : Bool} {n n1 : Int} {B W : Way} (h : Beg E (sprN x 0 (-1) lz) n B n1 W) : ∃ b, Beg E x (n + 1) (Dcd lz n b B) n1 (E b) ∧ W = Dcd lz n b B := by
  simp [sprN, loopN] at h
  obtain ⟨t, e, h0⟩ := h.rep
  simp only [List.cons.injEq, and_true] at e
  subst e
  rcases h0 with ⟨b, _, _, r0, rfl⟩ | ⟨b, c, _, e, _⟩ | ⟨c, m, _, _, _, e, _⟩
  · exact ⟨b, r0, rfl⟩
  · omega
  · omega
theorem spr_any {x : Tn} {lz : Bool} {c : Nat} {n n1 : Int} {B W : Way} (h : Beg E (sprN x ((c : Int) + 1) (-1) lz) n B n1 W) : ∃ b n2, Beg E x (n + 1) (Dcd lz n b B) n2 (E b) ∧ BegT E x c n2 (E b) n1 W := by
  have plus : ∀ {n1 : Int} {W : Way}, Beg E (loopN x 1 (-1) lz) n B n1 W → ∃ b, Beg E x (n + 1) (Dcd lz n b B) n1 (E b) ∧ W = E b := by
    intro n1 W h
    obtain ⟨t, e, h0⟩ := Beg.rep h
    simp only [List.cons.injEq, and_true] at e
    subst e
    rcases h0 with ⟨b, e, _⟩ | ⟨b, c, n2, e, _, r0, hT⟩ | ⟨c, m, _, _, _, e, _⟩
    · omega
    · obtain rfl : c = 0 := by omega
      obtain ⟨rfl, rfl⟩ := hT.none
      exact ⟨b, r0, rfl⟩
    · omega
  by_cases hc : c = 0
  · subst hc
    simp [sprN] at h
    obtain ⟨b, h1, rfl⟩ := plus h
    exact ⟨b, _, h1, .zero⟩
  · rw [sprN, if_pos (by omega), if_neg (by omega), show ((c : Int) + 1 - 1).toNat = c by omega] at h
    obtain ⟨n2, W1, h1, h2⟩ := begC_rep (row_begC (by simp) h)
    obtain ⟨b, h3, rfl⟩ := plus (begC_one h1)
    exact ⟨b, n2, h3, h2⟩
theorem spr_bnd {x : Tn} {lz : Bool} {c m : Nat} {n n1 : Int} {B W : Way} (h : Beg E (sprN x (c : Int) ((c : Int) + (m : Int)) lz) n B n1 W) : (c = 0 ∧ m = 0 ∧ n1 = n + 1 ∧ W = .once (n + 1) B) ∨ ∃ n2 W1, BegO E x lz B m n n2 W1 ∧ BegT E x c n2 W1 n1 W := by
  rw [sprN, if_neg (by omega), show ((c : Int)).toNat = c by omega] at h
  by_cases hm : m = 0
  · subst hm
    rw [if_neg (by omega)] at h
    by_cases hc : c = 0
    · subst hc
      simp [rowN] at h
      obtain ⟨rfl, rfl⟩ := h.empties
      exact .inl ⟨rfl, rfl, rfl, rfl⟩
    · obtain ⟨n2, W1, h1, h2⟩ := begC_rep (row_begC (by simp; omega) h)
      obtain ⟨rfl, rfl⟩ := h1.none
      exact .inr ⟨_, _, .zero, h2⟩
  · rw [if_pos (by omega), show ((c : Int) + (m : Int) - (c : Int) - 1).toNat = m - 1 by omega] at h
    obtain ⟨n2, W1, h1, h2⟩ := begC_rep (row_begC (by simp) h)
    have := opt_begO (begC_one h1)
    rw [show m - 1 + 1 = m by omega] at this
    exact .inr ⟨n2, W1, this, h2⟩
end
end Go.Proofs.Ytnpocciioedgpaa
/- HELPERS: a tree and its unfolded form have the same parses. -/
namespace Go.Proofs.Ytnpocciioedgpaa
open Go.RowKit
set_option linter.unusedVariables false
set_option linter.unusedSimpArgs false
theorem spreadL_snoc (ts : List Tn) (t : Tn) : spreadL (ts ++ [t]) = spreadL ts ++ [t.spread] := by simp [spreadL_map]
/-- SIDE BY SIDE: a tree unfolded, and the tree -/
theorem beg_spread {E E' : Nat → Way} {t : Tn} {n' n1' : Int} {B' W' : Way} (h : Beg E' t n' B' n1' W') : ∀ n B n1 W, Beg E t.spread n B n1 W → SM E E' false n B n1 W n' B' n1' W' := by
  refine Beg.rec (motive_1 := fun t n' B' n1' W' _ => ∀ n B n1 W, Beg E t.spread n B n1 W → SM E E' false n B n1 W n' B' n1' W') (motive_2 := fun ts n' B' n1' W' _ => ∀ n B n1 W, BegC E (spreadL ts) n B n1 W → SM E E' false n B n1 W n' B' n1' W')
    (motive_3 := fun ts n' B' n1' Ws' _ => ∀ n B n1 Ws, BegA E (spreadL ts) n B n1 Ws → ∀ G, G.drop = false → MInv n n' G → Sim G B B' → (∃ h, Hdp G B h) → ∃ G', MInv n1 n1' G' ∧ Grow E E' n n' G n1 n1' G' ∧ Sim G' (.inOrder Ws) (.inOrder Ws'))
    (motive_4 := fun t c n' B' n1' W' _ => ∀ n B n1 W, BegT E t.spread c n B n1 W → SM E E' false n B n1 W n' B' n1' W') (motive_5 := fun t lz B' c n' n1' W' _ => ∀ n B n1 W, BegO E t.spread lz B c n n1 W → SM E E' false n B n1 W n' B' n1' W')
    ?_ ?_ ?_ ?_ ?_ ?_ ?_ ?_ ?_ ?_ ?_ ?_ ?_ ?_ ?_ ?_ ?_ h
  · intro R a s mn mx lz ix nm n' B' n B n1 W hr
    simp [Tn.spread] at hr
    obtain ⟨rfl, rfl⟩ := hr.empties
    exact SM.pair fun G _ hI hS _ => ⟨G, hI, .refl _ _ _, hS⟩
  · intro R a s mn mx lz ix nm n' B' n B n1 W hr
    simp [Tn.spread] at hr
    obtain ⟨rfl, rfl⟩ := hr.classes
    exact SM.pair fun G _ hI hS _ => ⟨G, hI, .refl _ _ _, .runeOf hS⟩
  · intro R a s mn mx lz ix nm n' B' n B n1 W hr
    simp [Tn.spread] at hr
    obtain ⟨rfl, rfl⟩ := hr.asserts
    exact SM.pair fun G _ hI hS _ => ⟨G, hI, .refl _ _ _, .ifHolds hS⟩
  · intro R a s mn mx lz ix nm n' n1' B' W' _ ih n B n1 W hr
    simp [Tn.spread] at hr
    exact ih _ _ _ _ hr.cats
  · intro R a s mn mx lz ix nm n' n1' B' Ws' _ ih n B n1 W hr
    simp [Tn.spread] at hr
    obtain ⟨n2, Ws, rfl, rfl, r1⟩ := hr.alts
    exact SM.pair fun G hd hI hS hH => ih _ _ _ _ r1 G hd hI hS hH
  · intro R a t mn mx lz i nm n' n1' B' W' _ ih n B n1 W hr
    simp [Tn.spread, spreadL] at hr
    obtain ⟨t', i', n2, W1, e1, e2, rfl, rfl, r1⟩ := hr.group
    simp only [List.cons.injEq, and_true] at e1
    subst e1
    obtain rfl : i = i' := by omega
    refine SM.pair fun G hd hI hS ⟨h0, hH⟩ => ?_
    obtain ⟨G1, i1, g1, s1, h1, d1⟩ := ih _ _ _ _ r1 G hd hI (.noted hd hS) ⟨h0, .noted hH⟩
    exact ⟨G1, i1, g1, .noted (g1.dr.trans hd) s1⟩
  · intro R a t lz ix nm n' n2' b' B' _ ih n B n1 W hr
    simp [Tn.spread, spreadL] at hr
    obtain ⟨b, r1, rfl⟩ := spr_any0 hr
    intro G hd hI hS hH
    obtain ⟨G1, i1, g1, _, s1, _, d1⟩ := (ih _ _ _ _ r1).round G hd hI hS
    exact ⟨G1, i1, g1, s1, d1⟩
  · intro R a t c lz ix nm n' n2' n3' b' B' W3' _ _ ih ihT n B n1 W hr
    simp [Tn.spread, spreadL] at hr
    obtain ⟨b, n2, r1, hT⟩ := spr_any hr
    refine SM.seq (fun G hd hI hS hH => ?_) (ihT _ _ _ _ hT)
    obtain ⟨G1, i1, g1, s1, _, d1, _⟩ := (ih _ _ _ _ r1).round G hd hI hS
    exact ⟨G1, i1, g1, s1, d1⟩
  · intro R a t c m lz ix nm n' n1' n2' B' W1' W2' hO0 hT0 ihO ihT n B n1 W hr
    simp [Tn.spread, spreadL] at hr
    rcases spr_bnd hr with ⟨rfl, rfl, rfl, rfl⟩ | ⟨n2, W1, hO, hT⟩
    · obtain ⟨rfl, rfl⟩ := hT0.none
      obtain ⟨rfl, rfl⟩ := hO0.none
      exact (SM.self _ _ _ _ _).extra
    · exact (ihO _ _ _ _ hO).seq (ihT _ _ _ _ hT)
  · intro n' B' n B n1 W hr
    obtain ⟨rfl, rfl⟩ := hr.none
    exact .self _ _ _ _ _
  · intro t ts n' n1' n2' B' W1' W2' _ _ h h2 n B n1 W hr
    simp only [spreadL] at hr
    obtain ⟨_, _, r1, r2⟩ := hr.first
    exact (h _ _ _ _ r1).seq (h2 _ _ _ _ r2)
  · intro n' B' n B n1 Ws hr G hd hI hS hH
    obtain ⟨rfl, rfl⟩ := hr.none
    exact ⟨G, hI, .refl _ _ _, .inOrder rfl fun i hi => by simp at hi⟩
  · intro t ts n' n1' n2' B' W2' Ws' _ _ hl hl2 n B n1 Ws hr G hd hI hS hH
    rw [spreadL_snoc] at hr
    obtain ⟨_, Ws1, W2, rfl, r1, r2⟩ := hr.last
    obtain ⟨G1, i1, g1, s1⟩ := hl _ _ _ _ r1 G hd hI hS hH
    obtain ⟨h0, hH⟩ := hH
    obtain ⟨G2, i2, g2, s2, _⟩ := hl2 _ _ _ _ r2 G1 (g1.dr.trans hd) i1 (g1.sim hI hS) ⟨h0, hH.up g1.c g1.x⟩
    have s3 := g2.sim i1 s1
    cases s3 with
    | inOrder el s3 =>
      refine ⟨G2, i2, g1.trans g2 i1, .inOrder (by simp [el]) fun i hi hi' => ?_⟩
      by_cases hi2 : i < Ws1.length
      · rw [List.getElem_append_left hi2, List.getElem_append_left (by omega)]
        exact s3 i hi2 (by omega)
      · simp only [List.length_append, List.length_cons, List.length_nil] at hi hi'
        obtain rfl : i = Ws1.length := by omega
        rw [List.getElem_concat_length rfl, List.getElem_concat_length el]
        exact s2
  · intro t n' W' n B n1 W hr
    obtain ⟨rfl, rfl⟩ := hr.none
    exact .self _ _ _ _ _
  · intro t c n' n1' n2' W' W1' W2' _ _ h h2 n B n1 W hr
    obtain ⟨_, _, r1, r2⟩ := hr.next
    exact (h _ _ _ _ r1).seq (h2 _ _ _ _ r2)
  · intro t lz B' n' n B n1 W hr
    obtain ⟨rfl, rfl⟩ := hr.none
    exact .self _ _ _ _ _
  · intro t lz B' c n' n1' n2' W1' W2' _ _ h h2 n B n1 W hr
    obtain ⟨_, n2, _, _, rfl, rfl, r1, r2⟩ := hr.next
    refine SM.pair fun G hd hI hS hH => ?_
    obtain ⟨G1, i1, g1, s1, _⟩ := ((h _ _ _ _ r1).seq (h2 _ _ _ _ r2)) G hd hI hS hH
    exact ⟨G1, i1, g1, sim_two s1 (g1.sim hI hS) lz⟩
/-- the notes of fewer groups are the first of the notes -/
def Pre (ν ν' : List Int) : Prop := ν.length ≤ ν'.length ∧ ∀ k, k < ν.length → ν[k]? = ν'[k]?
theorem Pre.set {ν ν' : List Int} (h : Pre ν ν') (c : Nat) (x : Int) : Pre (ν.set c x) (ν'.set c x) := by
  refine ⟨by simpa using h.1, fun k hk => ?_⟩
  simp only [List.length_set] at hk
  have h1 := h.1
  by_cases e : c = k
  · subst e
    rw [List.getElem?_set_self hk, List.getElem?_set_self (by omega)]
  · rw [List.getElem?_set_ne e, List.getElem?_set_ne e]
    exact h.2 k hk
/-- parses alike: the same ends, of each the notes -/
def PreL : List (Int × List Int) → List (Int × List Int) → Prop
  | [], [] => True
  | e :: l, e' :: l' => e.1 = e'.1 ∧ Pre e.2 e'.2 ∧ PreL l l'
  | _, _ => False
theorem PreL.snoc {e e' : Int × List Int} (h1 : e.1 = e'.1) (h2 : Pre e.2 e'.2) : ∀ {l l' : List (Int × List Int)}, PreL l l' → PreL (l ++ [e]) (l' ++ [e'])
  | [], [], _ => ⟨h1, h2, trivial⟩
  | _ :: _, _ :: _, h => ⟨h.1, h.2.1, PreL.snoc h1 h2 h.2.2⟩
  | [], _ :: _, h => h.elim
  | _ :: _, [], h => h.elim
/-- THE PARSES OF A TREE UNFOLDED: the same ends in the same order, the same captures as far as they go -/
theorem PS.spread {t : Tn} {K K' : Nat} {tx : List Int} {p : Nat} {l m : List (Int × List Int)} (hK : K ≤ K') (h : PS t.spread K tx p l) (h' : PS t K' tx p m) : PreL l m := by
  obtain ⟨E, W, n1, s1, hB, hE, hg, hx, rfl⟩ := h.ex
  obtain ⟨E', W', n1', s1', hB', hE', hg', hx', rfl⟩ := h'.ex
  obtain ⟨G0, hG0⟩ : ∃ G0 : Mat, G0 = ⟨fun a a' => a = 1 ∧ a' = 1, fun _ _ => False, fun _ _ => False, fun _ => .through, false, Pre, PreL⟩ := ⟨_, rfl⟩
  obtain ⟨G, hI, hgr, hS, h0, hH⟩ := beg_spread hB' _ _ _ _ hB G0 (by rw [hG0]) (by rw [hG0]; exact ⟨fun a a' h => by simp at h; omega, fun _ _ h => h.elim, fun a a' m m' h1 h2 => by simp at h1 h2; omega, fun _ _ _ h => h.elim, fun _ _ _ h => h.elim⟩) (by rw [hG0]; exact .once ⟨rfl, rfl⟩ .through) ⟨1, by rw [hG0]; exact .once (n' := 1) ⟨rfl, rfl⟩⟩
  have hnr : G.NR = Pre := by rw [hgr.nr, hG0]
  have hpr : G.PR = PreL := by rw [hgr.pr, hG0]
  have hdr : G.drop = false := by rw [hgr.dr, hG0]
  have hok : G.Ok E E' := by
    refine ⟨hI.one, hI.noC, hI.oneX, fun b b' hb => ?_, fun c x ν ν' hd hn => ?_, fun c x ν ν' hd _ => (by rw [hdr] at hd; cases hd), fun q ν ν' a b hn h => ?_⟩
    · rcases hgr.new b b' hb with hb | hb
      · rw [hG0] at hb; exact hb.elim
      · exact hb
    · rw [hnr] at hn ⊢; exact hn.set c x
    · rw [hpr] at h ⊢
      rw [hnr] at hn
      exact PreL.snoc (e := ((q : Int), ν.set 1 (q : Int))) (e' := ((q : Int), ν'.set 1 (q : Int))) rfl (hn.set 1 _) h
  obtain ⟨s2, hx2, hA⟩ := sim_ex hok hx W' ⟨[], (List.replicate K' (-1)).set 0 (p : Int), []⟩ NoP hS ⟨fun a a' q _ => by simp, fun m n0 q _ hm => by simp at hm, by rw [hnr]; exact Pre.set ⟨by simpa using hK, fun k hk => by simp only [List.length_replicate] at hk; simp [List.getElem?_replicate, hk, show k < K' by omega]⟩ 0 _, by rw [hpr]; trivial⟩ (Pend.no _ _)
  have e := hx'.det hx2
  subst e
  have := hA.pr
  rw [hpr] at this
  exact this
end Go.Proofs.Ytnpocciioedgpaa
/- HELPERS: nothing is noted but by groups that count. -/
namespace Go.Proofs.Ytnpocciioedgpaa
open Go.RowKit
set_option linter.unusedVariables false
set_option linter.unusedSimpArgs false
mutual
/-- a way notes below K alone -/
def Way.nt (K : Nat) (A : Nat → Prop) : Way → Prop
  | .through => True
  | .once _ d => d.nt K A
  | .noted c d => c < K ∧ d.nt K A
  | .runeOf _ d => d.nt K A
  | .ifHolds _ d => d.nt K A
  | .inOrder l => ntL K A l
  | .again b => A b
def ntL (K : Nat) (A : Nat → Prop) : List Way → Prop
  | [] => True
  | d :: l => d.nt K A ∧ ntL K A l
end
theorem ntL_get {K : Nat} {A : Nat → Prop} : ∀ {l : List Way}, ntL K A l → ∀ (i : Nat) (hi : i < l.length), (l[i]'hi).nt K A := by
  intro l
  induction l with
  | nil => intro _ i hi; simp at hi
  | cons e l ih =>
    intro h i hi
    simp only [ntL] at h
    cases i with
    | zero => exact h.1
    | succ i => exact ih h.2 i (by simpa using hi)
theorem ntL_snoc {K : Nat} {A : Nat → Prop} {d : Way} (hd : d.nt K A) : ∀ {l : List Way}, ntL K A l → ntL K A (l ++ [d]) := by
  intro l
  induction l with
  | nil => intro _; simp [ntL, hd]
  | cons e l ih => intro h; simp only [ntL, List.cons_append] at h ⊢; exact ⟨h.1, ih h.2⟩
mutual
theorem nt_mono {K : Nat} {A A' : Nat → Prop} (hA : ∀ b, A b → A' b) : ∀ (W : Way), W.nt K A → W.nt K A'
  | .through, h => by simp only [Way.nt]
  | .once _ d, h => by simp only [Way.nt] at h ⊢; exact nt_mono hA d h
  | .noted c d, h => by simp only [Way.nt] at h ⊢; exact ⟨h.1, nt_mono hA d h.2⟩
  | .runeOf _ d, h => by simp only [Way.nt] at h ⊢; exact nt_mono hA d h
  | .ifHolds _ d, h => by simp only [Way.nt] at h ⊢; exact nt_mono hA d h
  | .inOrder l, h => by simp only [Way.nt] at h ⊢; exact ntL_mono hA l h
  | .again b, h => by simp only [Way.nt] at h ⊢; exact hA b h
theorem ntL_mono {K : Nat} {A A' : Nat → Prop} (hA : ∀ b, A b → A' b) : ∀ (l : List Way), ntL K A l → ntL K A' l
  | [], h => by simp only [ntL]
  | d :: l, h => by simp only [ntL] at h ⊢; exact ⟨nt_mono hA d h.1, ntL_mono hA l h.2⟩
end
/-- nothing is noted from K on -/
def Bare (K : Nat) (ν : List Int) : Prop := ∀ k, K ≤ k → ν.getD k (-1) = -1
theorem Bare.set {K : Nat} {ν : List Int} (h : Bare K ν) {c : Nat} (hc : c < K) (x : Int) : Bare K (ν.set c x) := fun k hk => by
  have e := h k hk
  simp only [List.getD_eq_getElem?_getD] at e ⊢
  rw [List.getElem?_set_ne (by omega)]
  exact e
theorem ex_bare {tx : List Int} {E : Nat → Way} {A : Nat → Prop} {K : Nat} (hE : ∀ b, A b → (E b).nt K A) (hK : 2 ≤ K) {W : Way} {p : Nat} {s s' : Sg} (h : Ex tx E W p s s') : W.nt K A → Bare K s.notes → (∀ e ∈ s.parses, Bare K e.2) → ∀ e ∈ s'.parses, Bare K e.2 := by
  induction h with
  | through p s =>
    intro _ hM hP e he
    simp only [List.mem_append, List.mem_singleton] at he
    rcases he with he | rfl
    · exact hP e he
    · exact hM.set (by omega) _
  | skip h => intro _ _ hP; exact hP
  | once h hd ih => intro hO hM hP; simp only [Way.nt] at hO; exact ih hO hM hP
  | noted hd ih =>
    intro hO hM hP
    simp only [Way.nt] at hO
    exact ih hO.2 (hM.set hO.1 _) hP
  | over h => intro _ _ hP; exact hP
  | other h hr => intro _ _ hP; exact hP
  | rune h hr hd ih => intro hO hM hP; simp only [Way.nt] at hO; exact ih hO hM hP
  | fails h => intro _ _ hP; exact hP
  | holds h hd ih => intro hO hM hP; simp only [Way.nt] at hO; exact ih hO hM hP
  | @inOrder l p ss h ih =>
    intro hO hM hP
    simp only [Way.nt] at hO
    have key : ∀ i, i ≤ l.length → (ss i).notes = (ss 0).notes ∧ ∀ e ∈ (ss i).parses, Bare K e.2 := by
      intro i
      induction i with
      | zero => intro _; exact ⟨rfl, hP⟩
      | succ i ihi =>
        intro hi
        obtain ⟨a, b⟩ := ihi (by omega)
        exact ⟨(h i (by omega)).notes.trans a, ih i (by omega) (ntL_get hO i (by omega)) (by rw [a]; exact hM) b⟩
    exact (key _ (Nat.le_refl _)).2
  | again h ih => intro hO hM hP; simp only [Way.nt] at hO; exact ih (hE _ hO) hM hP
mutual
/-- the groups that count note below K -/
def Tn.eff (K : Nat) : Tn → Prop
  | .mk k R a s mn mx lz ix nm => (k = 7 → 2 * ix + 1 < (K : Int)) ∧ (¬ (k = 6 ∧ mx = 0) → effL K s)
def effL (K : Nat) : List Tn → Prop
  | [] => True
  | t :: ts => t.eff K ∧ effL K ts
end
theorem effL_snoc {K : Nat} {t : Tn} : ∀ {ts : List Tn}, effL K (ts ++ [t]) ↔ effL K ts ∧ t.eff K := by
  intro ts
  induction ts with
  | nil => simp [effL]
  | cons u ts ih => simp only [List.cons_append, effL, ih, and_assoc]
/-- more loops, each noting below K -/
structure MorN (E : Nat → Way) (K : Nat) (A A' : Nat → Prop) : Prop where
  sub : ∀ b, A b → A' b
  new : ∀ b, A' b → A b ∨ (E b).nt K A'
section
variable {E : Nat → Way} {K : Nat}
theorem MorN.refl (A : Nat → Prop) : MorN E K A A := ⟨fun _ h => h, fun _ h => .inl h⟩
theorem MorN.trans {A A1 A2 : Nat → Prop} (h : MorN E K A A1) (h' : MorN E K A1 A2) : MorN E K A A2 :=
  ⟨fun b hb => h'.sub b (h.sub b hb), fun b hb => by
    rcases h'.new b hb with hb | hb
    · rcases h.new b hb with hb | hb
      · exact .inl hb
      · exact .inr (nt_mono h'.sub _ hb)
    · exact .inr hb⟩
def NtM (E : Nat → Way) (K : Nat) (B W : Way) : Prop := ∀ A, B.nt K A → ∃ A', MorN E K A A' ∧ W.nt K A'
theorem NtM.self (B : Way) : NtM E K B B := fun A h => ⟨A, .refl A, h⟩
theorem NtM.seq {B W W' : Way} (h : NtM E K B W) (h' : NtM E K W W') : NtM E K B W' := fun A hb => by
  obtain ⟨A1, m1, h1⟩ := h A hb
  obtain ⟨A2, m2, h2⟩ := h' A1 h1
  exact ⟨A2, m1.trans m2, h2⟩
theorem NtM.map {B W W' : Way} (h : NtM E K B W) (hW : ∀ A, W.nt K A → W'.nt K A) : NtM E K B W' := fun A hb => by
  obtain ⟨A1, m1, h1⟩ := h A hb
  exact ⟨A1, m1, hW _ h1⟩
theorem NtM.round {n : Int} {b : Nat} {B : Way} (lz : Bool) (h : NtM E K (Dcd lz n b B) (E b)) {A : Nat → Prop} (hB : B.nt K A) : ∃ A', MorN E K A A' ∧ (E b).nt K A' ∧ (Dcd lz n b B).nt K A' := by
  have hD : (Dcd lz n b B).nt K (fun x => A x ∨ x = b) := by
    have hB' := nt_mono (A' := fun x => A x ∨ x = b) (fun x hx => .inl hx) B hB
    simp only [Way.nt]
    cases lz <;> simp [ntL, hB', Way.nt]
  obtain ⟨A1, m1, h1⟩ := h _ hD
  refine ⟨A1, ⟨fun x hx => m1.sub x (.inl hx), fun x hx => ?_⟩, h1, nt_mono m1.sub _ hD⟩
  rcases m1.new x hx with (hx | rfl) | hx
  · exact .inl hx
  · exact .inr h1
  · exact .inr hx
theorem Beg.notes {t : Tn} {n n1 : Int} {B W : Way} (h : Beg E t n B n1 W) : t.eff K → NtM E K B W := by
  refine Beg.rec (motive_1 := fun t n B n1 W _ => t.eff K → NtM E K B W) (motive_2 := fun ts n B n1 W _ => effL K ts → NtM E K B W)
    (motive_3 := fun ts n B n1 Ws _ => effL K ts → ∀ A, B.nt K A → ∃ A', MorN E K A A' ∧ ntL K A' Ws)
    (motive_4 := fun t c n B n1 W _ => (c ≠ 0 → t.eff K) → NtM E K B W) (motive_5 := fun t lz B c n n1 W _ => (c ≠ 0 → t.eff K) → NtM E K B W)
    ?_ ?_ ?_ ?_ ?_ ?_ ?_ ?_ ?_ ?_ ?_ ?_ ?_ ?_ ?_ ?_ ?_ h
  · intro R a s mn mx lz ix nm n B _
    exact (NtM.self B).map fun _ h => by simp only [Way.nt]; exact h
  · intro R a s mn mx lz ix nm n B _
    exact (NtM.self B).map fun _ h => by simp only [Way.nt]; exact h
  · intro R a s mn mx lz ix nm n B _
    exact (NtM.self B).map fun _ h => by simp only [Way.nt]; exact h
  · intro R a s mn mx lz ix nm n n' B W _ h hf
    simp only [Tn.eff] at hf
    exact h (hf.2 (by omega))
  · intro R a s mn mx lz ix nm n n' B Ws _ h hf A hb
    simp only [Tn.eff] at hf
    obtain ⟨A1, m1, h1⟩ := h (hf.2 (by omega)) A hb
    exact ⟨A1, m1, by simp only [Way.nt]; exact h1⟩
  · intro R a t mn mx lz i nm n n' B W _ h hf A hb
    simp only [Tn.eff, effL] at hf
    have hi : 2 * i + 1 < K := by have := hf.1 trivial; omega
    obtain ⟨A1, m1, h1⟩ := h (hf.2 (by omega)).1 A (by simp only [Way.nt]; exact ⟨hi, hb⟩)
    exact ⟨A1, m1, by simp only [Way.nt]; exact ⟨by omega, h1⟩⟩
  · intro R a t lz ix nm n n2 b B _ h hf A hb
    simp only [Tn.eff, effL] at hf
    obtain ⟨A1, m1, _, h1⟩ := (h (hf.2 (by omega)).1).round lz hb
    exact ⟨A1, m1, h1⟩
  · intro R a t c lz ix nm n n2 n3 b B W3 _ _ h hT hf
    simp only [Tn.eff, effL] at hf
    have he := (hf.2 (by omega)).1
    refine NtM.seq (fun A hb => ?_) (hT fun _ => he)
    obtain ⟨A1, m1, h1, _⟩ := (h he).round lz hb
    exact ⟨A1, m1, h1⟩
  · intro R a t c m lz ix nm n n1 n2 B W1 W2 _ _ hO hT hf
    simp only [Tn.eff, effL] at hf
    exact (hO fun h0 => (hf.2 (by omega)).1).seq (hT fun h0 => (hf.2 (by omega)).1)
  · intro n B _
    exact .self B
  · intro t ts n n1 n2 B W1 W2 _ _ h h2 hf
    simp only [effL] at hf
    exact (h hf.2).seq (h2 hf.1)
  · intro n B _ A hb
    exact ⟨A, .refl A, by simp [ntL]⟩
  · intro t ts n n1 n2 B W2 Ws _ _ hl hl2 hf A hb
    rw [effL_snoc] at hf
    obtain ⟨A1, m1, h1⟩ := hl hf.1 A hb
    obtain ⟨A2, m2, h2⟩ := hl2 hf.2 A1 (nt_mono m1.sub _ hb)
    exact ⟨A2, m1.trans m2, ntL_snoc h2 (ntL_mono m2.sub _ h1)⟩
  · intro t n W _
    exact .self W
  · intro t c n n1 n2 W W1 W2 _ _ h h2 hf
    have he := hf (by omega)
    exact (h fun _ => he).seq (h2 he)
  · intro t lz B n _
    exact .self B
  · intro t lz B c n n1 n2 W1 W2 _ _ h h2 hf A hb
    have he := hf (by omega)
    obtain ⟨A1, m1, h1⟩ := ((h fun _ => he).seq (h2 he)) A hb
    have hb1 := nt_mono m1.sub _ hb
    refine ⟨A1, m1, ?_⟩
    simp only [Way.nt]
    cases lz <;> simp [ntL, h1, hb1]
end
/-- THE CAPTURES of groups that do not count are not set -/
theorem PS.unset {t : Tn} {K K' : Nat} {tx : List Int} {p : Nat} {l : List (Int × List Int)} (h : PS t K' tx p l) (hK : 2 ≤ K) (hf : t.eff K) : ∀ e ∈ l, ∀ k, K ≤ k → e.2.getD k (-1) = -1 := by
  obtain ⟨E, W, n1, s', hB, hE, hg, hx, rfl⟩ := h.ex
  obtain ⟨A, hM, hc⟩ := hB.notes hf (fun _ => False) (by simp [Way.nt])
  refine ex_bare (A := A) (fun b hb => ?_) hK hx hc ?_ (fun e he => by cases he)
  · rcases hM.new b hb with h | h
    · exact h.elim
    · exact h
  · refine Bare.set (fun k hk => ?_) (by omega) _
    simp only [List.getD_eq_getElem?_getD, List.getElem?_replicate]
    split <;> simp
/- how great the indices of an unfolded tree are -/
theorem giL_le {G : Int} : ∀ (ts : List Tn) (m : Int), giL ts m ≤ G ↔ m ≤ G ∧ ∀ t ∈ ts, t.gi ≤ G := by
  intro ts
  induction ts with
  | nil => intro m; simp [giL]
  | cons t ts ih =>
    intro m
    simp only [giL, ih, List.mem_cons]
    constructor
    · rintro ⟨h1, h2⟩
      refine ⟨by omega, fun u hu => ?_⟩
      rcases hu with rfl | hu
      · omega
      · exact h2 u hu
    · rintro ⟨h1, h2⟩
      have := h2 t (.inl rfl)
      exact ⟨by omega, fun u hu => h2 u (.inr hu)⟩
theorem gi_loopN {x : Tn} {mn mx : Int} {lz : Bool} {G : Int} : (loopN x mn mx lz).gi ≤ G ↔ 0 ≤ G ∧ x.gi ≤ G := by
  simp only [loopN, Tn.gi, giL_le]
  simp
theorem gi_rowN {l : List Tn} {G : Int} (hG : 0 ≤ G) : (rowN l).gi ≤ G ↔ ∀ x ∈ l, x.gi ≤ G := by
  match l with
  | [] => simp [rowN, Tn.gi, giL, hG]
  | [x] => simp [rowN]
  | x :: y :: l => simp only [rowN, Tn.gi, giL_le, hG, true_and]
theorem gi_optN {x : Tn} {lz : Bool} {G : Int} (hG : 0 ≤ G) : ∀ k, (optN x lz k).gi ≤ G ↔ x.gi ≤ G := by
  intro k
  induction k with
  | zero => simp only [optN, gi_loopN, hG, true_and]
  | succ k ih =>
    simp only [optN, gi_loopN, hG, true_and, gi_rowN hG]
    simp [ih]
theorem gi_sprN {x : Tn} {mn mx : Int} {lz : Bool} {G : Int} (hG : 0 ≤ G) (h0 : 0 ≤ mn) (hx : mx = -1 ∨ mn ≤ mx) : (x.gi ≤ G → (sprN x mn mx lz).gi ≤ G) ∧ (mx ≠ 0 → (sprN x mn mx lz).gi ≤ G → x.gi ≤ G) := by
  unfold sprN
  by_cases c0 : mx < 0
  · rw [if_pos c0]
    by_cases c1 : mn < 2
    · rw [if_pos c1]
      simp only [gi_loopN, hG, true_and]
      exact ⟨fun h => h, fun _ h => h⟩
    · rw [if_neg c1]
      simp only [gi_rowN hG, List.mem_append, List.mem_singleton, List.mem_replicate]
      refine ⟨fun h y hy => ?_, fun _ h => ?_⟩
      · rcases hy with ⟨_, rfl⟩ | rfl
        · exact h
        · exact gi_loopN.2 ⟨hG, h⟩
      · exact (gi_loopN.1 (h _ (.inr rfl))).2
  · rw [if_neg c0]
    simp only [gi_rowN hG, List.mem_append, List.mem_replicate]
    refine ⟨fun h y hy => ?_, fun hne h => ?_⟩
    · rcases hy with ⟨_, rfl⟩ | hy
      · exact h
      · split at hy
        · simp only [List.mem_singleton] at hy
          subst hy
          exact (gi_optN hG _).2 h
        · cases hy
    · by_cases c2 : mn < mx
      · rw [if_pos c2] at h
        exact (gi_optN hG _).1 (h _ (.inr (List.mem_singleton.2 rfl)))
      · exact h x (.inl ⟨by omega, rfl⟩)
mutual
theorem spread_gi : ∀ (t : Tn), t.fine = true → ∀ (G : Int), 0 ≤ G → (t.gi ≤ G → t.spread.gi ≤ G) ∧ (t.spread.gi ≤ G → t.eff (2 * G + 2).toNat)
  | .mk k R a s mn mx lz ix nm, hf, G, hG => by
    simp only [Tn.fine, Bool.and_eq_true] at hf
    have FN := fine_node hf.1
    obtain ⟨i1, i2⟩ := spreadL_gi s hf.2 G hG
    by_cases h6 : k = 6
    · subst h6
      obtain ⟨q1, q2, q3, q4⟩ := FN.rep rfl
      match s, q1, i1, i2 with
      | [x], _, i1, i2 =>
      simp only [spreadL, List.mem_singleton, forall_eq] at i1 i2
      have e : (Tn.mk 6 R a [x] mn mx lz ix nm).spread = sprN x.spread mn mx lz := by simp [Tn.spread, spreadL]
      rw [e]
      obtain ⟨j1, j2⟩ := gi_sprN (x := x.spread) (lz := lz) hG q2 (by omega : mx = -1 ∨ mn ≤ mx)
      refine ⟨fun h => ?_, fun h => ?_⟩
      · simp only [Tn.gi, giL_le] at h
        exact j1 (i1 (h.2 x (by simp)))
      · simp only [Tn.eff]
        exact ⟨fun h => by omega, fun hn => i2 (j2 (fun h0 => hn (by simp [h0])) h)⟩
    · have e : (Tn.mk k R a s mn mx lz ix nm).spread = .mk k R a (spreadL s) mn mx lz ix nm := by simp [Tn.spread, h6]
      rw [e]
      simp only [Tn.gi, giL_le, Tn.eff]
      exact ⟨fun h => ⟨h.1, i1 h.2⟩, fun h => ⟨fun h7 => by have := (FN.grp h7).2; omega, fun _ => i2 h.2⟩⟩
theorem spreadL_gi : ∀ (ts : List Tn), fineL ts = true → ∀ (G : Int), 0 ≤ G → ((∀ t ∈ ts, t.gi ≤ G) → ∀ t ∈ spreadL ts, t.gi ≤ G) ∧ ((∀ t ∈ spreadL ts, t.gi ≤ G) → effL (2 * G + 2).toNat ts)
  | [], _, G, _ => by simp [spreadL, effL]
  | t :: ts, hf, G, hG => by
    simp only [fineL, Bool.and_eq_true] at hf
    obtain ⟨a1, a2⟩ := spread_gi t hf.1 G hG
    obtain ⟨b1, b2⟩ := spreadL_gi ts hf.2 G hG
    simp only [spreadL, List.mem_cons, forall_eq_or_imp, effL]
    exact ⟨fun h => ⟨a1 h.1, b1 h.2⟩, fun h => ⟨a2 h.1, b2 h.2⟩⟩
end
end Go.Proofs.Ytnpocciioedgpaa
/- HELPERS: counts and rows of trees, written as trees. -/
namespace Go.Proofs.Ytnpocciioedgpaa
open Go.RowKit
set_option linter.unusedVariables false
set_option linter.unusedSimpArgs false
theorem n9_block {w : World} {b : Nat} {N : Nv} {t : TypeId} (h : w.heap[b]? = some (.cells #[.int .i64 N.k, .slice N.r1 N.r2 N.r3, .int .i64 N.a2, .slice N.s1 N.s2 N.s3, .int .i64 N.a4, .int .i64 N.a5, .bool N.a6, .int .i64 N.a7, .string N.a8] t (0, 0))) : N9 w b 0 0 N := by
  have := nine' h
  simpa [N9] using this
theorem i64_0 : I64ok 0 := by decide
theorem i64_1 : I64ok 1 := by decide
theorem i64_4 : I64ok 4 := by decide
theorem i64_6 : I64ok 6 := by decide
theorem size_0 : (⟨#[]⟩ : ByteArray).size ≤ maxLen := by decide
theorem le_0 : 0 ≤ 0 ∧ 0 ≤ maxLen := by simp [maxLen]
theorem le_1 : 1 ≤ 1 ∧ 1 ≤ maxLen := by simp [maxLen]
set_option maxRecDepth 100000 in
set_option maxHeartbeats 4000000 in
theorem loop33 (X : Nv) (x : Tn) (A : Nat → Prop) (mn mx : Int) (lz : Bool) (w : World) (hX : TP w A X x) (hA : ∀ b, A b → b < w.heap.size) (hmn : I64ok mn) (hmx : I64ok mx) :
    Calls Try.prog 33 #[X.v, .int .i64 mn, .int .i64 mx, .bool lz] w fun e w' => ∃ M : Nv, e = .returned M.v ∧ TP w' (fun b => A b ∨ w.heap.size ≤ b ∧ b < w'.heap.size) M (loopN x mn mx lz) ∧ Below w.heap.size w w' := by
  have HX := hid hX
  have HA := hid hA
  obtain ⟨k, r1, r2, r3, a2, s1, s2, s3, a4, a5, a6, a7, a8⟩ := X
  clear hX hA
  go_enter Try.func33, Try.ntmps33
  go_wp2
  obtain ⟨V, hV⟩ : ∃ V, V = ((w.alloc (.cells #[.int .i64 k, .slice r1 r2 r3, .int .i64 a2, .slice s1 s2 s3, .int .i64 a4, .int .i64 a5, .bool a6, .int .i64 a7, .string a8] 28)).alloc (.cells #[.int .i64 6, .slice none 0 0, .int .i64 0, .slice (some ⟨w.heap.size + 1 + 1, 0, none⟩) 1 1, .int .i64 mn, .int .i64 mx, .bool lz, .int .i64 0, .string ⟨#[]⟩] 28)).alloc (.cells #[.int .i64 k, .slice r1 r2 r3, .int .i64 a2, .slice s1 s2 s3, .int .i64 a4, .int .i64 a5, .bool a6, .int .i64 a7, .string a8] 28) := ⟨_, rfl⟩
  rw [← hV]
  have y1 : V.heap[w.heap.size + 1]? = some (.cells #[.int .i64 6, .slice none 0 0, .int .i64 0, .slice (some ⟨w.heap.size + 1 + 1, 0, none⟩) 1 1, .int .i64 mn, .int .i64 mx, .bool lz, .int .i64 0, .string ⟨#[]⟩] 28 (0, 0)) := by
    rw [hV]
    exact (heap_alloc_old _ _ (by simp)).trans (two_new w _ _ _)
  have y2 : V.heap[w.heap.size + 1 + 1]? = some (.cells #[.int .i64 k, .slice r1 r2 r3, .int .i64 a2, .slice s1 s2 s3, .int .i64 a4, .int .i64 a5, .bool a6, .int .i64 a7, .string a8] 28 (0, 0)) := by
    rw [hV]
    have h := heap_alloc_new ((w.alloc (.cells #[.int .i64 k, .slice r1 r2 r3, .int .i64 a2, .slice s1 s2 s3, .int .i64 a4, .int .i64 a5, .bool a6, .int .i64 a7, .string a8] 28)).alloc (.cells #[.int .i64 6, .slice none 0 0, .int .i64 0, .slice (some ⟨w.heap.size + 1 + 1, 0, none⟩) 1 1, .int .i64 mn, .int .i64 mx, .bool lz, .int .i64 0, .string ⟨#[]⟩] 28)) (.cells #[.int .i64 k, .slice r1 r2 r3, .int .i64 a2, .slice s1 s2 s3, .int .i64 a4, .int .i64 a5, .bool a6, .int .i64 a7, .string a8] 28)
    simpa using h
  have hs : V.heap.size = w.heap.size + 1 + 1 + 1 := by rw [hV]; simp
  have hb : Below w.heap.size w V := by
    rw [hV]
    exact (below_two' w _ _).trans (Joins.below_le (Joins.below_alloc1 _ _) (by simp; omega))
  clear hV
  refine bodyPost_ret (results_cell_row rfl _ _ (w.heap.size + 1) 28 _ (0, 0) _ rfl y1 Try.underlying28 rfl (by kernel_rfl)) rfl ?_
  refine ⟨⟨6, none, 0, 0, 0, some ⟨w.heap.size + 1 + 1, 0, none⟩, 1, 1, mn, mx, lz, 0, ⟨#[]⟩⟩, rfl, ?_, hb⟩
  refine TP.mk (ts := [x]) (R := []) (ND := fun _ => ⟨k, r1, r2, r3, a2, s1, s2, s3, a4, a5, a6, a7, a8⟩) ⟨i64_6, i64_0, hmn, hmx, i64_0, size_0, le_0, le_1⟩ rfl (fun h => absurd rfl h) (fun x hx => by cases hx) rfl (fun _ => ⟨w.heap.size + 1 + 1, 0, rfl, .inr ⟨by omega, by omega⟩, fun i hi => ?_⟩) (fun i hi => ?_)
  · simp at hi
    subst hi
    exact n9_block (N := ⟨k, r1, r2, r3, a2, s1, s2, s3, a4, a5, a6, a7, a8⟩) y2
  · simp at hi
    subst hi
    exact HX.out.kept (fun b hb' => hb.block b (HA.out b hb')) (fun b hb' => .inl hb')
set_option maxRecDepth 100000 in
set_option maxHeartbeats 4000000 in
theorem row34 {base B : Nat} (w : World) (a1 : Option Addr) (n cap : Nat) (MS : List Nv) (us : List Tn) (A : Nat → Prop) (h : RowN base B w (.slice a1 n cap) MS us A) (hn : n ≤ 1000000) :
    Calls Try.prog 34 #[.slice a1 n cap] w fun e w' => ∃ M : Nv, e = .returned M.v ∧ TP w' (fun b => A b ∨ (Value.slice a1 n cap).ownBlock = some b) M (rowN us) ∧ Below w.heap.size w w' := by
  have hl := h.len
  have hnl : n = MS.length := by
    rcases h.row.2 with ⟨e, h0⟩ | ⟨g, cap, cur, e, _⟩
    · simp only [Value.slice.injEq] at e; omega
    · simp only [Value.slice.injEq] at e; exact e.2.1
  have H := hid h
  have HL := hid hl
  have HNL := hid hnl
  by_cases c0 : n = 0
  · subst c0
    have hus : us = [] := List.length_eq_zero_iff.1 (by omega)
    subst hus
    clear h hl hnl
    go_enter Try.func34, Try.ntmps34
    go_wp2
    have y1 := heap_alloc_new w (.cells #[.int .i64 1, .slice none 0 0, .int .i64 0, .slice none 0 0, .int .i64 0, .int .i64 0, .bool false, .int .i64 0, .string ⟨#[]⟩] 28)
    refine bodyPost_ret (results_cell_row rfl _ _ w.heap.size 28 _ (0, 0) _ rfl y1 Try.underlying28 rfl (by kernel_rfl)) rfl ?_
    exact ⟨⟨1, none, 0, 0, 0, none, 0, 0, 0, 0, false, 0, ⟨#[]⟩⟩, rfl, TP.mk (ts := []) (R := []) (ND := fun _ => default) ⟨i64_1, i64_0, i64_0, i64_0, i64_0, size_0, le_0, le_0⟩ rfl (fun h => absurd rfl h) (fun x hx => by cases hx) rfl (fun h => absurd h (by simp)) (fun i hi => absurd hi (by simp)), Joins.below_alloc1 w _⟩
  · obtain ⟨b, cap', hf⟩ : ∃ b cap', Value.slice a1 n cap = .slice (some ⟨b, 0, none⟩) n cap' := by
      have := Joins.ownsRow_forms h.row
      rw [← hnl] at this
      rcases this with ⟨e, h0⟩ | ⟨b, cap', e⟩
      · omega
      · exact ⟨b, cap', e⟩
    simp only [Value.slice.injEq] at hf
    obtain ⟨rfl, _, rfl⟩ := hf
    have b0 : ((n : Int) == 0) = false := by simp; omega
    by_cases c1 : n = 1
    · subst c1
      obtain ⟨u, rfl⟩ : ∃ u, us = [u] := List.length_eq_one_iff.1 (by omega)
      obtain ⟨M, rfl⟩ : ∃ M, MS = [M] := List.length_eq_one_iff.1 (by omega)
      have hc := h.cells 0 (by simp)
      have htp := h.tp 0 (by simp) (by simp)
      simp only [List.getElem_cons_zero] at hc htp
      obtain ⟨n0', n1', n2', n3', n4', n5', n6', n7', n8'⟩ := hc
      simp only [Nat.zero_mul, Nat.add_zero, Nat.zero_add] at n0' n1' n2' n3' n4' n5' n6' n7' n8'
      have HTP := hid htp
      have hbl : b < w.heap.size := (h.row.lt b rfl).2
      clear h hl hnl htp c0
      go_enter Try.func34, Try.ntmps34
      go_wp2
      have y1 := heap_alloc_new w (.cells #[.int .i64 M.k, .slice M.r1 M.r2 M.r3, .int .i64 M.a2, .slice M.s1 M.s2 M.s3, .int .i64 M.a4, .int .i64 M.a5, .bool M.a6, .int .i64 M.a7, .string M.a8] 28)
      refine bodyPost_ret (results_cell_row rfl _ _ w.heap.size 28 _ (0, 0) _ rfl y1 Try.underlying28 rfl (by kernel_rfl)) rfl ?_
      exact ⟨M, rfl, HTP.out.kept (fun b' hb' => heap_alloc_old w _ (H.out.low b' hb')) (fun b' hb' => .inl hb'), Joins.below_alloc1 w _⟩
    · have b1 : ((n : Int) == 1) = false := by simp; omega
      have hrow : rowN us = .mk 4 [] 0 us 0 0 false 0 ⟨#[]⟩ := by
        have hul : 2 ≤ us.length := by omega
        match us, hul with
        | [], hl => simp at hl
        | [_], hl => simp at hl
        | _ :: _ :: _, _ => rfl
      rw [hrow]
      have HROW := hid hrow
      clear h hl hnl hrow c0 c1
      go_enter Try.func34, Try.ntmps34
      go_wp2
      have y1 := heap_alloc_new w (.cells #[.int .i64 4, .slice none 0 0, .int .i64 0, .slice (some ⟨b, 0, none⟩) n cap, .int .i64 0, .int .i64 0, .bool false, .int .i64 0, .string ⟨#[]⟩] 28)
      refine bodyPost_ret (results_cell_row rfl _ _ w.heap.size 28 _ (0, 0) _ rfl y1 Try.underlying28 rfl (by kernel_rfl)) rfl ?_
      have hcap : n ≤ cap ∧ cap ≤ maxLen := by
        rcases H.out.row.2 with ⟨e, h0⟩ | ⟨g, cap', cur, e, _, _, h2, h3, _⟩
        · cases e
        · simp only [Value.slice.injEq] at e
          obtain ⟨_, e2, rfl⟩ := e
          exact ⟨by omega, h3⟩
      have hTP := H.out.node (N := ⟨4, none, 0, 0, 0, some ⟨b, 0, none⟩, n, cap, 0, 0, false, 0, ⟨#[]⟩⟩) (R := []) ⟨i64_4, i64_0, i64_0, i64_0, i64_0, size_0, le_0, hcap⟩ rfl (fun h => absurd rfl h) (fun x hx => by cases hx) rfl
      refine ⟨⟨4, none, 0, 0, 0, some ⟨b, 0, none⟩, n, cap, 0, 0, false, 0, ⟨#[]⟩⟩, rfl, hTP.kept (fun b' hb' => heap_alloc_old w _ ?_) (fun b' hb' => hb'), Joins.below_alloc1 w _⟩
      rcases hb' with hb' | hb'
      · exact H.out.low b' hb'
      · exact (H.out.row.lt b' hb').2
end Go.Proofs.Ytnpocciioedgpaa
/- HELPERS: a tree unfolded, in memory. -/
namespace Go.Proofs.Ytnpocciioedgpaa
open Go.RowKit
set_option linter.unusedVariables false
set_option linter.unusedSimpArgs false
/-- such a row later, more blocks being trees' -/
theorem RowN.grow {base B : Nat} {w w' : World} {uv : Value} {MS : List Nv} {us : List Tn} {A A' : Nat → Prop} (h : RowN base B w uv MS us A) (hb : Below w.heap.size w w') (hA : ∀ b, A b → A' b) (hlow : ∀ b, A' b → b < w'.heap.size) (hout : ∀ b, uv.ownBlock = some b → ¬ A' b) : RowN base B w' uv MS us A' :=
  ⟨row_kept h.row (fun b hb' => hb.block b (h.row.lt b hb').2), h.len, fun j h1 h2 => (h.tp j h1 h2).kept (fun b hb' => hb.block b (h.low b hb')) hA, fun b hb' => hA b (h.inA b hb'), hlow, hout⟩
/-- two nodes in a new block -/
theorem RowN.two {B : Nat} {w : World} {M M' : Nv} {x x' : Tn} {A : Nat → Prop} (h : TP w A M x) (h' : TP w A M' x') (hin : ∀ b, b < B → A b) (hlow : ∀ b, A b → b < w.heap.size) : RowN w.heap.size B (w.alloc (.cells #[.int .i64 M.k, .slice M.r1 M.r2 M.r3, .int .i64 M.a2, .slice M.s1 M.s2 M.s3, .int .i64 M.a4, .int .i64 M.a5, .bool M.a6, .int .i64 M.a7, .string M.a8, .int .i64 M'.k, .slice M'.r1 M'.r2 M'.r3, .int .i64 M'.a2, .slice M'.s1 M'.s2 M'.s3, .int .i64 M'.a4, .int .i64 M'.a5, .bool M'.a6, .int .i64 M'.a7, .string M'.a8] 28)) (.slice (some ⟨w.heap.size, 0, none⟩) 2 2) [M, M'] [x, x'] A := by
  have hn := heap_alloc_new w (.cells #[.int .i64 M.k, .slice M.r1 M.r2 M.r3, .int .i64 M.a2, .slice M.s1 M.s2 M.s3, .int .i64 M.a4, .int .i64 M.a5, .bool M.a6, .int .i64 M.a7, .string M.a8, .int .i64 M'.k, .slice M'.r1 M'.r2 M'.r3, .int .i64 M'.a2, .slice M'.s1 M'.s2 M'.s3, .int .i64 M'.a4, .int .i64 M'.a5, .bool M'.a6, .int .i64 M'.a7, .string M'.a8] 28)
  refine ⟨⟨by simp, .inr ⟨w.heap.size, 2, _, rfl, Nat.le_refl _, hn, by simp, by simp [maxLen], by simp, by simp⟩⟩, rfl, fun j h1 h2 => ?_, hin, fun b hb => by have := hlow b hb; simp; omega, fun b hb hA => by have := hlow b hA; simp [Value.ownBlock] at hb; omega⟩
  have hk : ∀ b, A b → (w.alloc (.cells #[.int .i64 M.k, .slice M.r1 M.r2 M.r3, .int .i64 M.a2, .slice M.s1 M.s2 M.s3, .int .i64 M.a4, .int .i64 M.a5, .bool M.a6, .int .i64 M.a7, .string M.a8, .int .i64 M'.k, .slice M'.r1 M'.r2 M'.r3, .int .i64 M'.a2, .slice M'.s1 M'.s2 M'.s3, .int .i64 M'.a4, .int .i64 M'.a5, .bool M'.a6, .int .i64 M'.a7, .string M'.a8] 28)).heap[b]? = w.heap[b]? := fun b hb => heap_alloc_old w _ (hlow b hb)
  match j, h1 with
  | 0, _ => exact h.kept hk (fun _ h => h)
  | 1, _ => exact h'.kept hk (fun _ h => h)
/-- an append onto an own row leaves what is below -/
theorem below_moved {B : Nat} {w0 w w3 : World} {o : Obj} {v v' : Value} (hb : Below B w0 w) (hB : B ≤ w.heap.size) (hv : ∀ k, v.ownBlock = some k → B ≤ k) (hm : Moved (w.alloc o) w3 v v') : Below B w0 w3 ∧ w.heap.size ≤ w3.heap.size := by
  have hs3 : w.heap.size ≤ w3.heap.size := by rcases hm with ⟨_, h⟩ | ⟨_, h⟩ <;> (have := h.size; simp at this; omega)
  have hold : ∀ k, k < B → w3.heap[k]? = w.heap[k]? := fun k hk => by
    have hne : v.ownBlock ≠ some k := fun e => by have := hv k e; omega
    exact (moved_old' hm (by simp; omega) hne).trans (heap_alloc_old w _ (by omega))
  refine ⟨⟨?_, ?_, ?_, by have := hb.size; omega, fun k hk => (hold k hk).trans (hb.block k hk)⟩, hs3⟩
  · rcases hm with ⟨_, h⟩ | ⟨_, h⟩ <;> exact h.os.trans hb.os
  · rcases hm with ⟨_, h⟩ | ⟨_, h⟩ <;> exact h.tape.trans hb.tape
  · rcases hm with ⟨_, h⟩ | ⟨_, h⟩ <;> exact h.output.trans hb.output
theorem RowN.lenV {base B : Nat} {w : World} {a1 : Option Addr} {n cap : Nat} {MS : List Nv} {us : List Tn} {A : Nat → Prop} (h : RowN base B w (.slice a1 n cap) MS us A) : n = MS.length := by
  rcases h.row.2 with ⟨e, h0⟩ | ⟨g, cap, cur, e, _⟩
  · simp only [Value.slice.injEq] at e; omega
  · simp only [Value.slice.injEq] at e; exact e.2.1
/-- what may be left, in its box -/
def OptIs (A : Nat → Prop) (L ob : Nat) (w2 : World) (u : Tn) (W : World) : Prop := (∃ Mo : Nv, W.heap[ob]? = some (.cells #[.int .i64 Mo.k, .slice Mo.r1 Mo.r2 Mo.r3, .int .i64 Mo.a2, .slice Mo.s1 Mo.s2 Mo.s3, .int .i64 Mo.a4, .int .i64 Mo.a5, .bool Mo.a6, .int .i64 Mo.a7, .string Mo.a8] 28 (0, 0)) ∧ TP W (fun b => A b ∨ L ≤ b ∧ b < W.heap.size ∧ b ≠ ob) Mo u) ∧ Below ob w2 W ∧ ob < W.heap.size
theorem opt_done {A A6 : Nat → Prop} {L ob : Nat} {w2 w6 : World} {u : Tn} {Mo M4 : Nv} (hmo : w6.heap[ob]? = some (.cells #[.int .i64 Mo.k, .slice Mo.r1 Mo.r2 Mo.r3, .int .i64 Mo.a2, .slice Mo.s1 Mo.s2 Mo.s3, .int .i64 Mo.a4, .int .i64 Mo.a5, .bool Mo.a6, .int .i64 Mo.a7, .string Mo.a8] 28 (0, 0))) (hM4 : TP w6 A6 M4 u) (hA : ∀ b, A6 b → (A b ∨ L ≤ b ∧ b < w6.heap.size ∧ b ≠ ob) ∧ b ≠ ob) (hb : Below ob w2 w6) (hs : ob < w6.heap.size) :
    OptIs A L ob w2 u (((((((((w6.setCell ⟨ob, 0, none⟩ (.int .i64 M4.k)).setCell ⟨ob, 1, none⟩ (.slice M4.r1 M4.r2 M4.r3)).setCell ⟨ob, 2, none⟩ (.int .i64 M4.a2)).setCell ⟨ob, 3, none⟩ (.slice M4.s1 M4.s2 M4.s3)).setCell ⟨ob, 4, none⟩ (.int .i64 M4.a4)).setCell ⟨ob, 5, none⟩ (.int .i64 M4.a5)).setCell ⟨ob, 6, none⟩ (.bool M4.a6)).setCell ⟨ob, 7, none⟩ (.int .i64 M4.a7)).setCell ⟨ob, 8, none⟩ (.string M4.a8)) := by
  obtain ⟨y1, y2, y3, y4⟩ := nineSet w6 ob (.int .i64 M4.k) (.slice M4.r1 M4.r2 M4.r3) (.int .i64 M4.a2) (.slice M4.s1 M4.s2 M4.s3) (.int .i64 M4.a4) (.int .i64 M4.a5) (.bool M4.a6) (.int .i64 M4.a7) (.string M4.a8) hmo
  obtain ⟨Y, hY⟩ : ∃ Y, Y = (((((((((w6.setCell ⟨ob, 0, none⟩ (.int .i64 M4.k)).setCell ⟨ob, 1, none⟩ (.slice M4.r1 M4.r2 M4.r3)).setCell ⟨ob, 2, none⟩ (.int .i64 M4.a2)).setCell ⟨ob, 3, none⟩ (.slice M4.s1 M4.s2 M4.s3)).setCell ⟨ob, 4, none⟩ (.int .i64 M4.a4)).setCell ⟨ob, 5, none⟩ (.int .i64 M4.a5)).setCell ⟨ob, 6, none⟩ (.bool M4.a6)).setCell ⟨ob, 7, none⟩ (.int .i64 M4.a7)).setCell ⟨ob, 8, none⟩ (.string M4.a8)) := ⟨_, rfl⟩
  rw [← hY] at y1 y2 y3 y4 ⊢
  exact ⟨⟨M4, y1, hM4.kept (fun b hb' => y2 b (hA b hb').2) (fun b hb' => by rw [y3]; exact (hA b hb').1)⟩, y4 hb (Nat.le_refl _), by rw [y3]; exact hs⟩
set_option maxRecDepth 100000 in
set_option maxHeartbeats 16000000 in
theorem spread17 {w0 : World} {B : Nat} {N : Nv} {t : Tn} (h : TI w0 B N t) : t.fine = true → t.nodes ≤ 200000 → ∀ (w : World), B ≤ w.heap.size → (∀ b, b < B → w.heap[b]? = w0.heap[b]?) →
    Calls Try.prog 17 #[N.v] w fun e w' => ∃ M : Nv, e = .returned M.v ∧ TP w' (fun b => b < B ∨ w.heap.size ≤ b ∧ b < w'.heap.size) M t.spread ∧ Below w.heap.size w w' := by
  induction h with
  | @mk N R ts ND ok hr hR hRk hs hS hk ih =>
  intro hf hno w hB hw
  simp only [Tn.fine, Bool.and_eq_true] at hf
  simp only [Tn.nodes] at hno
  have FN := fine_node hf.1
  have hfg := fineL_get hf.2
  have IH : ∀ i (hi : i < ts.length) (w : World), B ≤ w.heap.size → (∀ b, b < B → w.heap[b]? = w0.heap[b]?) → Calls Try.prog 17 #[(ND i).v] w fun e w' => ∃ M : Nv, e = .returned M.v ∧ TP w' (fun b => b < B ∨ w.heap.size ≤ b ∧ b < w'.heap.size) M ts[i].spread ∧ Below w.heap.size w w' := fun i hi => ih i hi (hfg i hi) (by have := nodes_get ts i hi; omega)
  have hlen : ts.length ≤ 200000 := by have := nodes_ge ts; omega
  have hRw : ∀ w1 : World, (∀ b, b < B → w1.heap[b]? = w0.heap[b]?) → RP w1 (fun b => b < B) N.r1 R := fun w1 h1 => (show RP w0 (fun b => b < B) N.r1 R from hR).kept h1 (fun b hb => hb)
  have hok := ok
  have HRL0 := hid hr
  obtain ⟨k, r1, r2, r3, a2, s1, s2, s3, a4, a5, a6, a7, a8⟩ := N
  simp only at hs hS FN
  have HW := hid hw
  have HS := hid hS
  have HIH := hid IH
  have HL := hid hs
  have HRW := hid hRw
  have HFN := hid FN
  have hm2 : s2 ≤ 200000 := by omega
  obtain ⟨i0, hi0, hz0, hz1, hz2⟩ := info_parts info28
  have HOK := hid hok
  have HRL : Hid (r2 = R.length) := HRL0.out
  clear HRL0
  clear ok hr hR hk hS hw ih hs hf FN hfg IH hRw hno hlen hok
  obtain ⟨S, hSS⟩ : ∃ S, S = (Tn.mk k R a2 ts a4 a5 a6 a7 a8).spread := ⟨_, rfl⟩
  rw [← hSS]
  have HSS := hid hSS
  clear hSS
  go_enter Try.func17, Try.ntmps17
  go_wp2_with fail
  go_loopw [3, 4] (fun u y wq => ∃ (i : Nat) (u1 : Option Addr) (u3 : Nat), u = .slice u1 i u3 ∧ y = .int .i64 (i : Int) ∧ i ≤ s2 ∧ Hid (∃ MS A, RowN (w.heap.size + 1 + 1) B wq (.slice u1 i u3) MS ((ts.take i).map Tn.spread) A ∧ ∀ b, A b → b < B ∨ w.heap.size + 1 + 1 ≤ b) ∧ Hid (Below w.heap.size w wq) ∧ Hid (wq.heap[w.heap.size]? = some (.cells #[.int .i64 k, .slice r1 r2 r3, .int .i64 a2, .slice s1 s2 s3, .int .i64 a4, .int .i64 a5, .bool a6, .int .i64 a7, .string a8] 28 (0, 0))) ∧ Hid (wq.heap[w.heap.size + 1]? = some (.cells #[.int .i64 0, .slice none 0 0, .int .i64 0, .slice none 0 0, .int .i64 0, .int .i64 0, .bool false, .int .i64 0, .string ⟨#[]⟩] 28 (0, 0)))) (fun _ y _ => s2 - (intOf y).toNat)
  case atStart => exact ⟨0, none, 0, rfl, rfl, by omega, by exact ⟨[], _, RowN.nil _ B _ (by simp; omega), fun b hb => .inl hb⟩, below_two' w _ _, (heap_alloc_old _ _ (by simp)).trans (heap_alloc_new w _), two_new w _ _ _⟩
  case round =>
    obtain ⟨i, u1, u3, rfl, rfl, hi, HI, BK, BX, BY⟩ := hrel
    obtain ⟨o0, o1, o2, o3, o4, o5, o6, o7, o8⟩ := nine' BX.out
    by_cases hil : i < s2
    · have b1 : decide ((i : Int) < (s2 : Int)) = true := by simp; omega
      have b2 : (i : Int) < (s2 : Int) := by omega
      have hlt : i < ts.length := by rw [← HL.out]; exact hil
      obtain ⟨b, o, hs1, hb, hc⟩ := HS.out (by omega)
      subst hs1
      have hwk : ∀ b, b < B → wr.heap[b]? = w0.heap[b]? := fun b hb => (BK.out.block b (by omega)).trans (HW.out b hb)
      obtain ⟨n0, n1, n2, n3, n4, n5, n6, n7, n8⟩ := (hc i hlt).kept (hwk b hb)
      have HC := HIH.out i hlt wr (by have := BK.out.size; omega) hwk
      obtain ⟨MS, A, hRN, hA⟩ := HI.out
      obtain ⟨P, hP⟩ : ∃ P, P = ND i := ⟨_, rfl⟩
      rw [← hP] at HC n0 n1 n2 n3 n4 n5 n6 n7 n8
      have ad1 : IntKind.i64.wrap ((i : Int) + 1) = (i : Int) + 1 := by simp [IntKind.wrap, IntKind.bits, IntKind.signed]; omega
      have hml : MS.length = i := by have := hRN.len; simp at this; omega
      have HRN := hid hRN
      have HA := hid hA
      have HML := hid hml
      clear hP hwk hc hRN hA hml HI
      go_wp2_with (first | (go_at_call 17; (with_reducible refine HC.mono ?_); rintro e w2 ⟨M, rfl, hM, hb2⟩; have hrow2 : w2.ownsRow (w.heap.size + 1 + 1) 28 9 (.slice u1 i u3) i (MS.flatMap Nv.cs) := (by have h := row_kept HRN.out.row (fun b hb => hb2.block b (HRN.out.row.lt b hb).2); rw [HML.out] at h; exact h); have HR2 := hid hrow2; have HM := hid hM; have HB2 := hid hb2; have hs2' : w.heap.size + 1 + 1 ≤ w2.heap.size := (by have := hb2.size; have := (Array.getElem?_eq_some_iff.1 BY.out).1; omega); clear hrow2 hM hb2 HC) | (at_builtin; refine wpList_append_moveN rfl (.tmp 18) (.tmp 25) 26 rfl (w.heap.size + 1 + 1) 28 i0 Z9 9 112 Try.underlying26 hi0 hz0 hz1 hz2 rfl (by decide) (.slice u1 i u3) i (MS.flatMap Nv.cs) rfl (HR2.out.alloc _) ⟨w2.heap.size, 0, none⟩ 1 1 (Nv.cs M) rfl rfl (by decide) (news9 w2 M) (one9 M) (by unfold maxLen; omega) (by omega) (by simp; omega) ?_; intro v' w3 ho3 hm3; obtain ⟨vb, vc, rfl⟩ := Joins.ownsRow_form ho3.out (by omega)))
      have hold : ∀ k, k < w.heap.size + 1 + 1 → w3.heap[k]? = wr.heap[k]? := fun k hk => by
        have hyl := (Array.getElem?_eq_some_iff.1 BY.out).1
        have hne : (Value.slice u1 i u3).ownBlock ≠ some k := fun e => by have := (HRN.out.row.lt k e).1; omega
        exact (moved_old' hm3.out (by simp; omega) hne).trans ((heap_alloc_old w2 _ (by omega)).trans (HB2.out.block k (by omega)))
      have hs3 : w2.heap.size ≤ w3.heap.size := by rcases hm3.out with ⟨_, h⟩ | ⟨_, h⟩ <;> (have := h.size; simp at this; omega)
      have hbel : Below w.heap.size w w3 := by
        have hsz := BK.out.size
        have hsz2 := HB2.out.size
        refine ⟨?_, ?_, ?_, by omega, fun k hk => (hold k (by omega)).trans (BK.out.block k hk)⟩
        · rcases hm3.out with ⟨_, h⟩ | ⟨_, h⟩ <;> exact h.os.trans (HB2.out.os.trans BK.out.os)
        · rcases hm3.out with ⟨_, h⟩ | ⟨_, h⟩ <;> exact h.tape.trans (HB2.out.tape.trans BK.out.tape)
        · rcases hm3.out with ⟨_, h⟩ | ⟨_, h⟩ <;> exact h.output.trans (HB2.out.output.trans BK.out.output)
      have hnx := HRN.out.next (w' := wr) (Nat.le_refl _) (fun b hb => rfl) HB2.out HM.out _ (by rw [HML.out]; exact ho3.out) hm3.out
      have hex : ∃ MS A, RowN (w.heap.size + 1 + 1) B w3 (.slice (some ⟨vb, 0, none⟩) (i + 1) vc) MS ((ts.take (i + 1)).map Tn.spread) A ∧ ∀ b, A b → b < B ∨ w.heap.size + 1 + 1 ≤ b := by
        refine ⟨MS ++ [M], fun b => A b ∨ wr.heap.size ≤ b ∧ b < w2.heap.size, ?_, fun b hb => ?_⟩
        · rw [List.take_succ_eq_append_getElem hlt, List.map_append]
          exact hnx
        · rcases hb with hb | hb
          · exact HA.out b hb
          · right; have := (Array.getElem?_eq_some_iff.1 BY.out).1; omega
      exact ⟨⟨i + 1, _, _, rfl, by push_cast; rfl, by omega, hex, hbel, (hold _ (by omega)).trans BX.out, (hold _ (by omega)).trans BY.out⟩, by simp [intOf]; omega⟩
    · have b1 : decide ((i : Int) < (s2 : Int)) = false := by simp; omega
      obtain rfl : i = s2 := by omega
      have hyl := (Array.getElem?_eq_some_iff.1 BY.out).1
      by_cases k6 : k = 6
      · subst k6
        obtain ⟨q1', q2', q3', q4'⟩ := HFN.out.rep rfl
        obtain ⟨x0, rfl⟩ : ∃ t, ts = [t] := List.length_eq_one_iff.1 q1'
        have hi1 : i = 1 := HL.out
        subst hi1
        obtain ⟨MS, A, hRN, hA⟩ := HI.out
        simp only [List.take_succ_cons, List.take_zero, List.map_cons, List.map_nil] at hRN
        have hml : MS.length = 1 := by have := hRN.len; simpa using this
        obtain ⟨M, rfl⟩ : ∃ M, MS = [M] := List.length_eq_one_iff.1 hml
        obtain ⟨x, hx⟩ : ∃ x, x = x0.spread := ⟨_, rfl⟩
        rw [← hx] at hRN
        have HSX : Hid (S = sprN x a4 a5 a6) := by show _ = _; rw [HSS.out, hx]; simp [Tn.spread, spreadL]
        obtain ⟨rb, rcap, hf⟩ : ∃ b cap, Value.slice u1 1 u3 = .slice (some ⟨b, 0, none⟩) 1 cap := by
          have := Joins.ownsRow_forms hRN.row
          rcases this with ⟨e, h0⟩ | ⟨b, cap, e⟩
          · simp at h0
          · exact ⟨b, cap, e⟩
        simp only [Value.slice.injEq] at hf
        obtain ⟨hu1, _, hu3⟩ := hf
        subst hu1 hu3
        have hc0 := hRN.cells 0 (by simp)
        have htp := hRN.tp 0 (by simp) (by simp)
        simp only [List.getElem_cons_zero] at hc0 htp
        obtain ⟨n0', n1', n2', n3', n4', n5', n6', n7', n8'⟩ := hc0
        simp only [Nat.zero_mul, Nat.add_zero, Nat.zero_add] at n0' n1' n2' n3' n4' n5' n6' n7' n8'
        have hrbl : rb < wr.heap.size := (hRN.row.lt rb rfl).2
        have hAl : ∀ b, A b → (b < B ∨ w.heap.size + 1 + 1 ≤ b) ∧ b < wr.heap.size := fun b hb => ⟨hA b hb, hRN.low b hb⟩
        have hAi : ∀ b, b < B → A b := hRN.inA
        have HTP := hid htp
        have HAL := hid hAl
        have HAI := hid hAi
        clear htp hAl hAi hRN hA hml hx HI HSS HFN HIH HS HRW HOK HRL
        go_upto_region 10 with fail
        obtain ⟨X, hX⟩ : ∃ X, X = wr.alloc (.cells #[.int .i64 M.k, .slice M.r1 M.r2 M.r3, .int .i64 M.a2, .slice M.s1 M.s2 M.s3, .int .i64 M.a4, .int .i64 M.a5, .bool M.a6, .int .i64 M.a7, .string M.a8] 28) := ⟨_, rfl⟩
        rw [← hX]
        obtain ⟨xb, hxb⟩ : ∃ xb, xb = wr.heap.size := ⟨_, rfl⟩
        have hXb : Below wr.heap.size wr X := by rw [hX]; exact Joins.below_alloc1 wr _
        have hXs : X.heap.size = wr.heap.size + 1 := by rw [hX]; simp
        have hXn : X.heap[xb]? = some (.cells #[.int .i64 M.k, .slice M.r1 M.r2 M.r3, .int .i64 M.a2, .slice M.s1 M.s2 M.s3, .int .i64 M.a4, .int .i64 M.a5, .bool M.a6, .int .i64 M.a7, .string M.a8] 28 (0, 0)) := by rw [hX, hxb]; exact heap_alloc_new wr _
        rw [← hxb]
        have hG : ∀ W, Below X.heap.size X W → (W.cell? ⟨w.heap.size, 4, none⟩ = some (.int .i64 a4) ∧ W.cell? ⟨w.heap.size, 5, none⟩ = some (.int .i64 a5) ∧ W.cell? ⟨w.heap.size, 6, none⟩ = some (.bool a6)) ∧ (W.cell? ⟨xb, 0, none⟩ = some (.int .i64 M.k) ∧ W.cell? ⟨xb, 1, none⟩ = some (.slice M.r1 M.r2 M.r3) ∧ W.cell? ⟨xb, 2, none⟩ = some (.int .i64 M.a2) ∧ W.cell? ⟨xb, 3, none⟩ = some (.slice M.s1 M.s2 M.s3) ∧ W.cell? ⟨xb, 4, none⟩ = some (.int .i64 M.a4) ∧ W.cell? ⟨xb, 5, none⟩ = some (.int .i64 M.a5) ∧ W.cell? ⟨xb, 6, none⟩ = some (.bool M.a6) ∧ W.cell? ⟨xb, 7, none⟩ = some (.int .i64 M.a7) ∧ W.cell? ⟨xb, 8, none⟩ = some (.string M.a8)) ∧ W.heap[w.heap.size + 1]? = some (.cells #[.int .i64 0, .slice none 0 0, .int .i64 0, .slice none 0 0, .int .i64 0, .int .i64 0, .bool false, .int .i64 0, .string ⟨#[]⟩] 28 (0, 0)) ∧ TP W A M x ∧ Below w.heap.size w W ∧ X.heap.size ≤ W.heap.size := fun W hW => by
          have e1 : ∀ b, b < wr.heap.size → W.heap[b]? = wr.heap[b]? := fun b hb => (hW.block b (by omega)).trans (hXb.block b hb)
          have hbx := (e1 _ (by omega)).trans BX.out
          have h1 := (hW.block xb (by omega)).trans hXn
          exact ⟨⟨Joins.cell_of_block hbx 4, Joins.cell_of_block hbx 5, Joins.cell_of_block hbx 6⟩, nine' h1, (e1 _ (by omega)).trans BY.out, HTP.out.kept (fun b hb => e1 b (HAL.out b hb).2) (fun b hb => hb), BK.out.trans (Joins.below_le (hXb.trans (Joins.below_le hW (by omega))) (by omega)), hW.size⟩
        have hAX : ∀ b, A b → b < X.heap.size := fun b hb => by have := (HAL.out b hb).2; omega
        have hxs : w.heap.size + 1 + 1 ≤ X.heap.size := by omega
        have HG := hid hG
        have HAX := hid hAX
        have HB0 : Hid (Below X.heap.size X X) := Below.refl _ _
        obtain ⟨⟨o4', o5', o6'⟩, ⟨z0, z1, z2, z3, z4, z5, z6, z7, z8⟩, _⟩ := hG X HB0.out
        have HXS := hid hXs
        clear hX hXb hXn hxb hG hAX o0 o1 o2 o3 o4 o5 o6 o7 o8 n0' n1' n2' n3' n4' n5' n6' n7' n8' hXs
        by_cases c0 : a5 < 0
        · have d0 : decide (a5 < 0) = true := by simp; omega
          have ha5 : a5 = -1 := by omega
          by_cases c1 : a4 < 2
          · have d1 : decide (a4 < 2) = true := by simp; omega
            have hS : S = loopN x a4 (-1) a6 := by rw [HSX.out]; simp [sprN, c0, c1]
            have HS' := hid hS
            have HC := loop33 M x A a4 (-1) a6 X (HG.out X HB0.out).2.2.2.1 HAX.out ⟨by omega, by omega⟩ (by decide)
            clear hS HSX q4'
            go_wp2_with (first | (go_at_call 33; (with_reducible refine HC.mono ?_); rintro e w2 ⟨M2, rfl, hM2, hb2⟩; obtain ⟨_, _, by2, _, bw2, hs2w⟩ := HG.out w2 hb2; obtain ⟨g0, g1, g2, g3, g4, g5, g6, g7, g8⟩ := nine' by2; have f0 := Joins.unfrozen_of_block by2 0; have f1 := Joins.unfrozen_of_block by2 1; have f2 := Joins.unfrozen_of_block by2 2; have f3 := Joins.unfrozen_of_block by2 3; have f4 := Joins.unfrozen_of_block by2 4; have f5 := Joins.unfrozen_of_block by2 5; have f6 := Joins.unfrozen_of_block by2 6; have f7 := Joins.unfrozen_of_block by2 7; have f8 := Joins.unfrozen_of_block by2 8; have HM2 := hid hM2; have BY2 := hid by2; have BW2 := hid bw2; clear by2 bw2 hM2 hb2 HC o4' o5' o6'))
            rw [HS'.out]
            have hfa : ∀ b, (A b ∨ X.heap.size ≤ b ∧ b < w2.heap.size) → b < B ∨ (w.heap.size + 1 + 1 ≤ b ∧ b < w2.heap.size) := fun b hb => by
              rcases hb with hb | hb
              · rcases (HAL.out b hb).1 with h | h
                · exact .inl h
                · right; have := HAX.out b hb; omega
              · right; omega
            obtain ⟨y1, y2, y3, y4⟩ := nineSet w2 (w.heap.size + 1) (.int .i64 M2.k) (.slice M2.r1 M2.r2 M2.r3) (.int .i64 M2.a2) (.slice M2.s1 M2.s2 M2.s3) (.int .i64 M2.a4) (.int .i64 M2.a5) (.bool M2.a6) (.int .i64 M2.a7) (.string M2.a8) BY2.out
            obtain ⟨Y, hY⟩ : ∃ Y, Y = (((((((((w2.setCell ⟨w.heap.size + 1, 0, none⟩ (.int .i64 M2.k)).setCell ⟨w.heap.size + 1, 1, none⟩ (.slice M2.r1 M2.r2 M2.r3)).setCell ⟨w.heap.size + 1, 2, none⟩ (.int .i64 M2.a2)).setCell ⟨w.heap.size + 1, 3, none⟩ (.slice M2.s1 M2.s2 M2.s3)).setCell ⟨w.heap.size + 1, 4, none⟩ (.int .i64 M2.a4)).setCell ⟨w.heap.size + 1, 5, none⟩ (.int .i64 M2.a5)).setCell ⟨w.heap.size + 1, 6, none⟩ (.bool M2.a6)).setCell ⟨w.heap.size + 1, 7, none⟩ (.int .i64 M2.a7)).setCell ⟨w.heap.size + 1, 8, none⟩ (.string M2.a8)) := ⟨_, rfl⟩
            rw [← hY] at y1 y2 y3 y4
            have y4' := y4 BW2.out (by omega)
            rw [← hY]
            refine bodyPost_ret (results_cell_row rfl _ _ (w.heap.size + 1) 28 _ (0, 0) _ rfl y1 Try.underlying28 rfl (by kernel_rfl)) rfl ?_
            refine ⟨M2, rfl, HM2.out.kept (fun b hb => y2 b ?_) (fun b hb => ?_), y4'⟩
            · rcases hfa b hb with h | h <;> omega
            · rcases hfa b hb with h | h
              · exact .inl h
              · right; omega
          · have d1 : decide (a4 < 2) = false := by simp; omega
            have hS : S = rowN (List.replicate (a4 - 1).toNat x ++ [loopN x 1 (-1) a6]) := by rw [HSX.out]; simp [sprN, c0, c1]
            obtain ⟨C, hC⟩ : ∃ C : Nat, (C : Int) = a4 - 1 := ⟨(a4 - 1).toNat, by omega⟩
            have hCt : (a4 - 1).toNat = C := by omega
            rw [hCt] at hS
            have HS' := hid hS
            have HCC := hid hC
            have hCb : C ≤ 1000 := by omega
            clear hS HSX hC hCt q4' o4' o5' o6' z0 z1 z2 z3 z4 z5 z6 z7 z8
            obtain ⟨⟨o4', o5', o6'⟩, ⟨z0, z1, z2, z3, z4, z5, z6, z7, z8⟩, _⟩ := HG.out X HB0.out
            go_wp2_with fail
            go_loopw [6, 7] (fun u y wq => ∃ (c : Nat) (v1 : Option Addr) (v3 : Nat) (z : Int), u = .slice v1 c v3 ∧ y = .int .i64 z ∧ Hid (z = (c : Int) + 1) ∧ (0 ≤ z ∧ z ≤ 2000) ∧ c ≤ C ∧ Hid (RowN X.heap.size B wq (.slice v1 c v3) (List.replicate c M) (List.replicate c x) A) ∧ Hid (Below X.heap.size X wq)) (fun _ y _ => (a4 - intOf y).toNat)
            case atStart => exact ⟨0, none, 0, 1, rfl, rfl, by show _ = _; omega, by omega, by omega, by exact ⟨World.ownsRow_nil _ _ _ _, rfl, fun j h => by simp at h, HAI.out, HAX.out, fun b hb => by cases hb⟩, HB0⟩
            case round =>
              obtain ⟨c, v1, v3, z, rfl, rfl, HZ, hzb, hcC, HR, BX2⟩ := hrel
              obtain ⟨⟨o4', o5', o6'⟩, ⟨z0, z1, z2, z3, z4, z5, z6, z7, z8⟩, _, htpw, _, hsw⟩ := HG.out wr BX2.out
              have HTW := hid htpw
              clear htpw
              by_cases hc : c < C
              · have b3 : decide (z < a4) = true := by have := HZ.out; have := HCC.out; simp; omega
                have ad2 : IntKind.i64.wrap (z + 1) = z + 1 := by simp [IntKind.wrap, IntKind.bits, IntKind.signed]; omega
                have hrow : wr.ownsRow X.heap.size 28 9 (.slice v1 c v3) c ((List.replicate c M).flatMap Nv.cs) := by have h := HR.out.row; simpa using h
                have HROW := hid hrow
                clear hrow
                go_wp2_with (first | (at_builtin; refine wpList_append_moveN rfl (.tmp 59) (.tmp 61) 26 rfl X.heap.size 28 i0 Z9 9 112 Try.underlying26 hi0 hz0 hz1 hz2 rfl (by decide) (.slice v1 c v3) c ((List.replicate c M).flatMap Nv.cs) rfl (HROW.out.alloc _) ⟨wr.heap.size, 0, none⟩ 1 1 (Nv.cs M) rfl rfl (by decide) (news9 wr M) (one9 M) (by unfold maxLen; omega) (by omega) (by simp; omega) ?_; intro v' w3 ho3 hm3; obtain ⟨vb, vc, rfl⟩ := Joins.ownsRow_form ho3.out (by omega)))
                obtain ⟨hbw, hs3⟩ := below_moved BX2.out hsw (fun k hk => (HROW.out.lt k hk).1) hm3.out
                have hnx := HR.out.push HTW.out _ (by simpa using ho3.out) hm3.out
                rw [← List.replicate_succ', ← List.replicate_succ'] at hnx
                exact ⟨⟨c + 1, _, _, z + 1, rfl, rfl, by have := HZ.out; show _ = _; push_cast; omega, by have := HZ.out; have := HCC.out; omega, by omega, hnx, hbw⟩, by have := HZ.out; have := HCC.out; simp [intOf]; omega⟩
              · have b3 : decide (z < a4) = false := by have := HZ.out; have := HCC.out; simp; omega
                obtain rfl : c = C := by omega
                have HC := loop33 M x A 1 (-1) a6 wr HTW.out (fun b hb => by have := HAX.out b hb; omega) (by decide) (by decide)
                go_wp2_with (first | (go_at_call 33; (with_reducible refine HC.mono ?_); rintro e w2 ⟨M2, rfl, hM2, hb2⟩; have hRN2 := HR.out.grow hb2 (A' := fun b => A b ∨ wr.heap.size ≤ b ∧ b < w2.heap.size) (fun b hb => .inl hb) (fun b hb => (by have := hb2.size; rcases hb with hb | hb; have := HAX.out b hb; omega; omega)) (fun b hb hA' => (by rcases hA' with h | h; exact HR.out.out b hb h; have := (HR.out.row.lt b hb).2; omega)); have hrow2 : w2.ownsRow X.heap.size 28 9 (.slice v1 c v3) c ((List.replicate c M).flatMap Nv.cs) := (by have h := hRN2.row; simpa using h); have HR2 := hid hRN2; have HROW := hid hrow2; have HM2 := hid hM2; have BX3 : Hid (Below X.heap.size X w2) := BX2.out.trans (Joins.below_le hb2 hsw); have hs2x : X.heap.size ≤ w2.heap.size := BX3.out.size; clear hRN2 hrow2 hM2 hb2 HC) | (at_builtin; refine wpList_append_moveN rfl (.tmp 63) (.tmp 68) 26 rfl X.heap.size 28 i0 Z9 9 112 Try.underlying26 hi0 hz0 hz1 hz2 rfl (by decide) (.slice v1 c v3) c ((List.replicate c M).flatMap Nv.cs) rfl (HROW.out.alloc _) ⟨w2.heap.size, 0, none⟩ 1 1 (Nv.cs M2) rfl rfl (by decide) (news9 w2 M2) (one9 M2) (by unfold maxLen; omega) (by omega) (by simp; omega) ?_; intro v' w3 ho3 hm3; obtain ⟨vb, vc, rfl⟩ := Joins.ownsRow_form ho3.out (by omega); have hnx := HR2.out.push HM2.out _ (by simpa using ho3.out) hm3.out; have hbm := below_moved BX3.out hs2x (fun k hk => (HROW.out.lt k hk).1) hm3.out; have HC2 := row34 w3 _ _ _ _ _ _ hnx (by omega); have HNX := hid hnx; have BX4 := hid hbm.1; have hs3w : w2.heap.size ≤ w3.heap.size := hbm.2; clear hnx hbm ho3 hm3) | (go_at_call 34; (with_reducible refine HC2.mono ?_); rintro e w4 ⟨M4, rfl, hM4, hb4⟩; have hbx4 : Below X.heap.size X w4 := BX4.out.trans (Joins.below_le hb4 (by omega)); obtain ⟨_, _, by4, _, bw4, hs4w⟩ := HG.out w4 hbx4; obtain ⟨g0, g1, g2, g3, g4, g5, g6, g7, g8⟩ := nine' by4; have f0 := Joins.unfrozen_of_block by4 0; have f1 := Joins.unfrozen_of_block by4 1; have f2 := Joins.unfrozen_of_block by4 2; have f3 := Joins.unfrozen_of_block by4 3; have f4 := Joins.unfrozen_of_block by4 4; have f5 := Joins.unfrozen_of_block by4 5; have f6 := Joins.unfrozen_of_block by4 6; have f7 := Joins.unfrozen_of_block by4 7; have f8 := Joins.unfrozen_of_block by4 8; have HM4 := hid hM4; have BY4 := hid by4; have BW4 := hid bw4; have HS4 := hid hb4.size; clear by4 bw4 hM4 hb4 hbx4 HC2))
                rw [HS'.out]
                have hfa : ∀ b, ((A b ∨ wr.heap.size ≤ b ∧ b < w2.heap.size) ∨ (Value.slice (some ⟨vb, 0, none⟩) (c + 1) vc).ownBlock = some b) → b < B ∨ (w.heap.size + 1 + 1 ≤ b ∧ b < w4.heap.size) := fun b hb => by
                  have := HS4.out
                  rcases hb with (hb | hb) | hb
                  · rcases (HAL.out b hb).1 with h | h
                    · exact .inl h
                    · right; have := HAX.out b hb; omega
                  · right; omega
                  · right; have := HNX.out.row.lt b hb; omega
                obtain ⟨y1, y2, y3, y4⟩ := nineSet w4 (w.heap.size + 1) (.int .i64 M4.k) (.slice M4.r1 M4.r2 M4.r3) (.int .i64 M4.a2) (.slice M4.s1 M4.s2 M4.s3) (.int .i64 M4.a4) (.int .i64 M4.a5) (.bool M4.a6) (.int .i64 M4.a7) (.string M4.a8) BY4.out
                obtain ⟨Y, hY⟩ : ∃ Y, Y = (((((((((w4.setCell ⟨w.heap.size + 1, 0, none⟩ (.int .i64 M4.k)).setCell ⟨w.heap.size + 1, 1, none⟩ (.slice M4.r1 M4.r2 M4.r3)).setCell ⟨w.heap.size + 1, 2, none⟩ (.int .i64 M4.a2)).setCell ⟨w.heap.size + 1, 3, none⟩ (.slice M4.s1 M4.s2 M4.s3)).setCell ⟨w.heap.size + 1, 4, none⟩ (.int .i64 M4.a4)).setCell ⟨w.heap.size + 1, 5, none⟩ (.int .i64 M4.a5)).setCell ⟨w.heap.size + 1, 6, none⟩ (.bool M4.a6)).setCell ⟨w.heap.size + 1, 7, none⟩ (.int .i64 M4.a7)).setCell ⟨w.heap.size + 1, 8, none⟩ (.string M4.a8)) := ⟨_, rfl⟩
                rw [← hY] at y1 y2 y3 y4
                have y4' := y4 BW4.out (by omega)
                rw [← hY]
                refine bodyPost_ret (results_cell_row rfl _ _ (w.heap.size + 1) 28 _ (0, 0) _ rfl y1 Try.underlying28 rfl (by kernel_rfl)) rfl ?_
                refine ⟨M4, rfl, HM4.out.kept (fun b hb => y2 b ?_) (fun b hb => ?_), y4'⟩
                · rcases hfa b hb with h | h <;> omega
                · rcases hfa b hb with h | h
                  · exact .inl h
                  · right; omega
        · have d0 : decide (a5 < 0) = false := by simp; omega
          have q5 : a4 ≤ a5 ∧ a5 ≤ 1000 := by omega
          obtain ⟨C, hC⟩ : ∃ C : Nat, (C : Int) = a4 := ⟨a4.toNat, by omega⟩
          have hS0 : S = rowN (List.replicate C x ++ if a4 < a5 then [optN x a6 (a5 - a4 - 1).toNat] else []) := by rw [HSX.out]; simp only [sprN, c0, if_false]; rw [show a4.toNat = C by omega]
          have HS0 := hid hS0
          have HCC := hid hC
          have hCb : C ≤ 1000 := by omega
          clear hS0 HSX hC q4' o4' o5' o6' z0 z1 z2 z3 z4 z5 z6 z7 z8
          obtain ⟨⟨o4', o5', o6'⟩, ⟨z0, z1, z2, z3, z4, z5, z6, z7, z8⟩, _⟩ := HG.out X HB0.out
          go_wp2_with fail
          go_loopw [6, 8] (fun u y wq => ∃ (c : Nat) (v1 : Option Addr) (v3 : Nat) (z : Int), u = .slice v1 c v3 ∧ y = .int .i64 z ∧ Hid (z = (c : Int) + 0) ∧ (0 ≤ z ∧ z ≤ 2000) ∧ c ≤ C ∧ Hid (RowN X.heap.size B wq (.slice v1 c v3) (List.replicate c M) (List.replicate c x) A) ∧ Hid (Below X.heap.size X wq)) (fun _ y _ => (a4 - intOf y).toNat)
          case atStart => exact ⟨0, none, 0, 0, rfl, rfl, by show _ = _; omega, by omega, by omega, by exact ⟨World.ownsRow_nil _ _ _ _, rfl, fun j h => by simp at h, HAI.out, HAX.out, fun b hb => by cases hb⟩, HB0⟩
          case round =>
            obtain ⟨c, v1, v3, z, rfl, rfl, HZ, hzb, hcC, HR, BX2⟩ := hrel
            obtain ⟨⟨o4', o5', o6'⟩, ⟨z0, z1, z2, z3, z4, z5, z6, z7, z8⟩, _, htpw, _, hsw⟩ := HG.out wr BX2.out
            have HTW := hid htpw
            clear htpw
            by_cases hc : c < C
            · have b3 : decide (z < a4) = true := by have := HZ.out; have := HCC.out; simp; omega
              have ad2 : IntKind.i64.wrap (z + 1) = z + 1 := by simp [IntKind.wrap, IntKind.bits, IntKind.signed]; omega
              have hrow : wr.ownsRow X.heap.size 28 9 (.slice v1 c v3) c ((List.replicate c M).flatMap Nv.cs) := by have h := HR.out.row; simpa using h
              have HROW := hid hrow
              clear hrow
              go_wp2_with (first | (at_builtin; refine wpList_append_moveN rfl (.tmp 77) (.tmp 79) 26 rfl X.heap.size 28 i0 Z9 9 112 Try.underlying26 hi0 hz0 hz1 hz2 rfl (by decide) (.slice v1 c v3) c ((List.replicate c M).flatMap Nv.cs) rfl (HROW.out.alloc _) ⟨wr.heap.size, 0, none⟩ 1 1 (Nv.cs M) rfl rfl (by decide) (news9 wr M) (one9 M) (by unfold maxLen; omega) (by omega) (by simp; omega) ?_; intro v' w3 ho3 hm3; obtain ⟨vb, vc, rfl⟩ := Joins.ownsRow_form ho3.out (by omega)))
              obtain ⟨hbw, hs3⟩ := below_moved BX2.out hsw (fun k hk => (HROW.out.lt k hk).1) hm3.out
              have hnx := HR.out.push HTW.out _ (by simpa using ho3.out) hm3.out
              rw [← List.replicate_succ', ← List.replicate_succ'] at hnx
              exact ⟨⟨c + 1, _, _, z + 1, rfl, rfl, by have := HZ.out; show _ = _; push_cast; omega, by have := HZ.out; have := HCC.out; omega, by omega, hnx, hbw⟩, by have := HZ.out; have := HCC.out; simp [intOf]; omega⟩
            · have b3 : decide (z < a4) = false := by have := HZ.out; have := HCC.out; simp; omega
              obtain rfl : c = C := by omega
              by_cases c2 : a4 < a5
              · have d2 : decide (a5 > a4) = true := by simp; omega
                have d2' : decide (a4 < a5) = true := by simp; omega
                obtain ⟨D, hD⟩ : ∃ D : Nat, (D : Int) = a5 - a4 - 1 := ⟨(a5 - a4 - 1).toNat, by omega⟩
                have hS : S = rowN (List.replicate c x ++ [optN x a6 D]) := by rw [HS0.out, if_pos c2, show (a5 - a4 - 1).toNat = D by omega]
                have HS' := hid hS
                have HDD := hid hD
                have ad4 : IntKind.i64.wrap (a4 + 1) = a4 + 1 := by simp [IntKind.wrap, IntKind.bits, IntKind.signed]; omega
                have HC := loop33 M x A 0 1 a6 wr HTW.out (fun b hb => by have := HAX.out b hb; omega) (by decide) (by decide)
                obtain ⟨WL, hWL⟩ : ∃ WL, WL = wr := ⟨_, rfl⟩
                subst hWL
                clear hS hD HS0
                go_upto_region 25 with (first | (go_at_call 33; (with_reducible refine HC.mono ?_); rintro e w2 ⟨M2, rfl, hM2, hb2⟩; have HM2 := hid hM2; have HB2 := hid hb2; have hs2w : WL.heap.size ≤ w2.heap.size := hb2.size; clear hM2 hb2 HC o4' o5' o6' z0 z1 z2 z3 z4 z5 z6 z7 z8))
                obtain ⟨Z, hZ⟩ : ∃ Z, Z = w2.alloc (.cells #[.int .i64 M2.k, .slice M2.r1 M2.r2 M2.r3, .int .i64 M2.a2, .slice M2.s1 M2.s2 M2.s3, .int .i64 M2.a4, .int .i64 M2.a5, .bool M2.a6, .int .i64 M2.a7, .string M2.a8] 28) := ⟨_, rfl⟩
                rw [← hZ]
                obtain ⟨ob, hob⟩ : ∃ ob, ob = w2.heap.size := ⟨_, rfl⟩
                rw [← hob]
                have hZb : Below w2.heap.size w2 Z := by rw [hZ]; exact Joins.below_alloc1 w2 _
                have hZs : Z.heap.size = w2.heap.size + 1 := by rw [hZ]; simp
                have hZn : Z.heap[ob]? = some (.cells #[.int .i64 M2.k, .slice M2.r1 M2.r2 M2.r3, .int .i64 M2.a2, .slice M2.s1 M2.s2 M2.s3, .int .i64 M2.a4, .int .i64 M2.a5, .bool M2.a6, .int .i64 M2.a7, .string M2.a8] 28 (0, 0)) := by rw [hZ, hob]; exact heap_alloc_new w2 _
                have HZN := hid hZn
                have HZB := hid hZb
                have HZS := hid hZs
                have HOB := hid hob
                have hobl : WL.heap.size ≤ ob := by omega
                have BXZ : Hid (Below X.heap.size X Z) := (BX2.out.trans (Joins.below_le HB2.out hsw)).trans (Joins.below_le hZb (by omega))
                obtain ⟨⟨o4', o5', o6'⟩, ⟨z0, z1, z2, z3, z4, z5, z6, z7, z8⟩, _⟩ := HG.out Z BXZ.out
                clear hZ hZb hZs hZn hob
                go_wp2_with fail
                go_loopw [10] (fun y wq => ∃ (d : Nat) (z : Int), y = .int .i64 z ∧ Hid (z = a4 + 1 + (d : Int)) ∧ (0 ≤ z ∧ z ≤ 2000) ∧ d ≤ D ∧ Hid (OptIs A WL.heap.size ob w2 (optN x a6 d) wq)) (fun y _ => (a5 - intOf y).toNat)
                case atStart => exact ⟨0, a4 + 1, rfl, by show _ = _; simp, by omega, by omega, by exact ⟨⟨M2, HZN.out, HM2.out.kept (fun b hb => HZB.out.block b (by rcases hb with hb | hb; have := HAX.out b hb; omega; omega)) (fun b hb => by rcases hb with hb | hb; exact .inl hb; right; have := HZS.out; have := HOB.out; omega)⟩, by rw [HOB.out]; exact HZB.out, by have := HZS.out; have := HOB.out; omega⟩⟩
                case round =>
                  obtain ⟨d, z, rfl, HZ1, hzb1, hdD, HMO⟩ := hrel
                  obtain ⟨⟨Mo, hmo, htpo⟩, hbo0, hosz⟩ := HMO.out
                  have HBO := hid hbo0
                  have hbl : Below X.heap.size X wr := (BX2.out.trans (Joins.below_le HB2.out hsw)).trans (Joins.below_le HBO.out (by omega))
                  have BXr := hid hbl
                  obtain ⟨⟨o4', o5', o6'⟩, ⟨z0, z1, z2, z3, z4, z5, z6, z7, z8⟩, by1, htx1, bw1, hsxr⟩ := HG.out wr hbl
                  obtain ⟨p0, p1, p2, p3, p4, p5, p6, p7, p8⟩ := nine' hmo
                  have HMOB := hid hmo
                  have HTPO := hid htpo
                  have HTX1 := hid htx1
                  have hAw : ∀ b, (A b ∨ WL.heap.size ≤ b ∧ b < wr.heap.size ∧ b ≠ ob) → b < wr.heap.size := fun b hb => by rcases hb with hb | hb; have := HAX.out b hb; omega; omega
                  have HAW := hid hAw
                  have hbxs : w.heap.size < wr.heap.size := by omega
                  clear hmo htpo htx1 by1 bw1 hAw hbl HMO hbo0
                  by_cases hd : d < D
                  · have b4 : decide (z < a5) = true := by have := HZ1.out; have := HDD.out; simp; omega
                    have ad5 : IntKind.i64.wrap (z + 1) = z + 1 := by simp [IntKind.wrap, IntKind.bits, IntKind.signed]; omega
                    have h2 := RowN.two (B := B) (w := wr.drew) (M := M) (M' := Mo) (x := x) (x' := optN x a6 d) (A := fun b => A b ∨ WL.heap.size ≤ b ∧ b < wr.heap.size ∧ b ≠ ob) (HTX1.out.kept (fun _ _ => rfl) (fun b hb => .inl hb)) (HTPO.out.kept (fun _ _ => rfl) (fun b hb => hb)) (fun b hb => .inl (HAI.out b hb)) HAW.out
                    have HC := (show Calls Try.prog 34 #[.slice (some ⟨wr.heap.size, 0, none⟩) 2 2] ((wr.alloc (.cells #[.int .i64 M.k, .slice M.r1 M.r2 M.r3, .int .i64 M.a2, .slice M.s1 M.s2 M.s3, .int .i64 M.a4, .int .i64 M.a5, .bool M.a6, .int .i64 M.a7, .string M.a8, .int .i64 Mo.k, .slice Mo.r1 Mo.r2 Mo.r3, .int .i64 Mo.a2, .slice Mo.s1 Mo.s2 Mo.s3, .int .i64 Mo.a4, .int .i64 Mo.a5, .bool Mo.a6, .int .i64 Mo.a7, .string Mo.a8] 28)).drew) _ from row34 _ _ _ _ _ _ _ h2 (by omega))
                    have hVb : Below wr.heap.size wr ((wr.alloc (.cells #[.int .i64 M.k, .slice M.r1 M.r2 M.r3, .int .i64 M.a2, .slice M.s1 M.s2 M.s3, .int .i64 M.a4, .int .i64 M.a5, .bool M.a6, .int .i64 M.a7, .string M.a8, .int .i64 Mo.k, .slice Mo.r1 Mo.r2 Mo.r3, .int .i64 Mo.a2, .slice Mo.s1 Mo.s2 Mo.s3, .int .i64 Mo.a4, .int .i64 Mo.a5, .bool Mo.a6, .int .i64 Mo.a7, .string Mo.a8] 28)).drew) := (Joins.below_alloc1 wr _).drew
                    have hVs : ((wr.alloc (.cells #[.int .i64 M.k, .slice M.r1 M.r2 M.r3, .int .i64 M.a2, .slice M.s1 M.s2 M.s3, .int .i64 M.a4, .int .i64 M.a5, .bool M.a6, .int .i64 M.a7, .string M.a8, .int .i64 Mo.k, .slice Mo.r1 Mo.r2 Mo.r3, .int .i64 Mo.a2, .slice Mo.s1 Mo.s2 Mo.s3, .int .i64 Mo.a4, .int .i64 Mo.a5, .bool Mo.a6, .int .i64 Mo.a7, .string Mo.a8] 28)).drew).heap.size = wr.heap.size + 1 := by simp
                    have HVB := hid hVb
                    have HVS := hid hVs
                    clear h2 hVb hVs
                    have hz1 : z + 1 = a4 + 1 + ((d + 1 : Nat) : Int) := by have := HZ1.out; push_cast; omega
                    have HZN1 := hid hz1
                    have hz2 : 0 ≤ z + 1 ∧ z + 1 ≤ 2000 := by have := HZ1.out; have := HDD.out; omega
                    have HZB1 := hid hz2
                    have hms : (a5 - intOf (Value.int .i64 (z + 1))).toNat < (a5 - intOf (Value.int .i64 z)).toNat := by have := HZ1.out; have := HDD.out; simp [intOf]; omega
                    have HMS := hid hms
                    clear hz1 hz2 hms
                    go_upto_region 28 with fail
                    go_region_with (first | (go_at_call 34; (with_reducible refine HC.mono ?_); rintro e w5 ⟨M3, rfl, hM3, hb5⟩; have hb5' : Below wr.heap.size wr w5 := HVB.out.trans (Joins.below_le hb5 (by rw [HVS.out]; omega)); have hs5 : wr.heap.size + 1 ≤ w5.heap.size := (by have := hb5.size; rw [HVS.out] at this; exact this); have o6'' := (HG.out w5 (BXr.out.trans (Joins.below_le hb5' (by omega)))).1.2.2; have HC2 := loop33 M3 (rowN [x, optN x a6 d]) _ 0 1 a6 w5 hM3 (fun b hb => (by rcases hb with hb | hb; have := HAW.out b hb; omega; simp [Value.ownBlock] at hb; have : b = wr.heap.size := hb.symm; omega)) (by decide) (by decide); have HB5 := hid hb5'; clear hM3 hb5 hb5' HC) | (go_at_call 33; (with_reducible refine HC2.mono ?_); rintro e w6 ⟨M4, rfl, hM4, hb6⟩; have hs6 : w5.heap.size ≤ w6.heap.size := hb6.size; have hmo6 := (hb6.block ob (by omega)).trans ((HB5.out.block ob hosz).trans HMOB.out); have hbo : Below ob w2 w6 := (HBO.out.trans (Joins.below_le HB5.out (by omega))).trans (Joins.below_le hb6 (by omega)); have HFIN := hid (opt_done (A := A) (L := WL.heap.size) hmo6 hM4 (fun b hb => (by rcases hb with (hb | hb) | hb; rcases hb with hb | hb; have := HAX.out b hb; exact ⟨.inl hb, by omega⟩; exact ⟨.inr ⟨hb.1, by omega, hb.2.2⟩, hb.2.2⟩; simp [Value.ownBlock] at hb; have : b = wr.heap.size := hb.symm; exact ⟨.inr ⟨by omega, by omega, by omega⟩, by omega⟩; exact ⟨.inr ⟨by omega, by omega, by omega⟩, by omega⟩)) hbo (by omega)); obtain ⟨g0, g1, g2, g3, g4, g5, g6, g7, g8⟩ := nine' hmo6; have f0 := Joins.unfrozen_of_block hmo6 0; have f1 := Joins.unfrozen_of_block hmo6 1; have f2 := Joins.unfrozen_of_block hmo6 2; have f3 := Joins.unfrozen_of_block hmo6 3; have f4 := Joins.unfrozen_of_block hmo6 4; have f5 := Joins.unfrozen_of_block hmo6 5; have f6 := Joins.unfrozen_of_block hmo6 6; have f7 := Joins.unfrozen_of_block hmo6 7; have f8 := Joins.unfrozen_of_block hmo6 8; clear hM4 hb6 hmo6 hbo HC2))
                    all_goals
                      go_wp2
                      exact ⟨⟨d + 1, z + 1, rfl, HZN1, HZB1.out, hd, HFIN⟩, HMS.out⟩
                  · have b4 : decide (z < a5) = false := by have := HZ1.out; have := HDD.out; simp; omega
                    obtain rfl : d = D := by omega
                    have hRN2 := HR.out.grow (w' := wr) (HB2.out.trans (Joins.below_le HBO.out (by omega))) (A' := fun b => A b ∨ WL.heap.size ≤ b ∧ b < wr.heap.size ∧ b ≠ ob) (fun b hb => .inl hb) HAW.out (fun b hb hA' => by rcases hA' with h | h; exact HR.out.out b hb h; have := (HR.out.row.lt b hb).2; omega)
                    have hrow2 : wr.ownsRow X.heap.size 28 9 (.slice v1 c v3) c ((List.replicate c M).flatMap Nv.cs) := by have h := hRN2.row; simpa using h
                    have HR2 := hid hRN2
                    have HROW := hid hrow2
                    clear hRN2 hrow2
                    go_wp2_with (first | (at_builtin; refine wpList_append_moveN rfl (.tmp 106) (.tmp 108) 26 rfl X.heap.size 28 i0 Z9 9 112 Try.underlying26 hi0 hz0 hz1 hz2 rfl (by decide) (.slice v1 c v3) c ((List.replicate c M).flatMap Nv.cs) rfl (HROW.out.alloc _) ⟨wr.heap.size, 0, none⟩ 1 1 (Nv.cs Mo) rfl rfl (by decide) (news9 wr Mo) (one9 Mo) (by unfold maxLen; omega) (by omega) (by simp; omega) ?_; intro v' w3 ho3 hm3; obtain ⟨vb, vc, rfl⟩ := Joins.ownsRow_form ho3.out (by omega); have hnx := HR2.out.push HTPO.out _ (by simpa using ho3.out) hm3.out; have hbm := below_moved BXr.out hsxr (fun k hk => (HROW.out.lt k hk).1) hm3.out; have HC2 := row34 w3 _ _ _ _ _ _ hnx (by omega); have HNX := hid hnx; have BX4 := hid hbm.1; have hs3w : wr.heap.size ≤ w3.heap.size := hbm.2; clear hnx hbm ho3 hm3) | (go_at_call 34; (with_reducible refine HC2.mono ?_); rintro e w4 ⟨M4, rfl, hM4, hb4⟩; have hbx4 : Below X.heap.size X w4 := BX4.out.trans (Joins.below_le hb4 (by omega)); obtain ⟨_, _, by4, _, bw4, hs4w⟩ := HG.out w4 hbx4; obtain ⟨g0, g1, g2, g3, g4, g5, g6, g7, g8⟩ := nine' by4; have f0 := Joins.unfrozen_of_block by4 0; have f1 := Joins.unfrozen_of_block by4 1; have f2 := Joins.unfrozen_of_block by4 2; have f3 := Joins.unfrozen_of_block by4 3; have f4 := Joins.unfrozen_of_block by4 4; have f5 := Joins.unfrozen_of_block by4 5; have f6 := Joins.unfrozen_of_block by4 6; have f7 := Joins.unfrozen_of_block by4 7; have f8 := Joins.unfrozen_of_block by4 8; have HM4 := hid hM4; have BY4 := hid by4; have BW4 := hid bw4; have HS4 := hid hb4.size; clear by4 bw4 hM4 hb4 hbx4 HC2))
                    rw [HS'.out]
                    have hfa : ∀ b, ((A b ∨ WL.heap.size ≤ b ∧ b < wr.heap.size ∧ b ≠ ob) ∨ (Value.slice (some ⟨vb, 0, none⟩) (c + 1) vc).ownBlock = some b) → b < B ∨ (w.heap.size + 1 + 1 ≤ b ∧ b < w4.heap.size) := fun b hb => by
                      have := HS4.out
                      rcases hb with (hb | hb) | hb
                      · rcases (HAL.out b hb).1 with h | h
                        · exact .inl h
                        · right; have := HAX.out b hb; omega
                      · right; omega
                      · right; have := HNX.out.row.lt b hb; omega
                    obtain ⟨y1, y2, y3, y4⟩ := nineSet w4 (w.heap.size + 1) (.int .i64 M4.k) (.slice M4.r1 M4.r2 M4.r3) (.int .i64 M4.a2) (.slice M4.s1 M4.s2 M4.s3) (.int .i64 M4.a4) (.int .i64 M4.a5) (.bool M4.a6) (.int .i64 M4.a7) (.string M4.a8) BY4.out
                    obtain ⟨Y, hY⟩ : ∃ Y, Y = (((((((((w4.setCell ⟨w.heap.size + 1, 0, none⟩ (.int .i64 M4.k)).setCell ⟨w.heap.size + 1, 1, none⟩ (.slice M4.r1 M4.r2 M4.r3)).setCell ⟨w.heap.size + 1, 2, none⟩ (.int .i64 M4.a2)).setCell ⟨w.heap.size + 1, 3, none⟩ (.slice M4.s1 M4.s2 M4.s3)).setCell ⟨w.heap.size + 1, 4, none⟩ (.int .i64 M4.a4)).setCell ⟨w.heap.size + 1, 5, none⟩ (.int .i64 M4.a5)).setCell ⟨w.heap.size + 1, 6, none⟩ (.bool M4.a6)).setCell ⟨w.heap.size + 1, 7, none⟩ (.int .i64 M4.a7)).setCell ⟨w.heap.size + 1, 8, none⟩ (.string M4.a8)) := ⟨_, rfl⟩
                    rw [← hY] at y1 y2 y3 y4
                    have y4' := y4 BW4.out (by omega)
                    rw [← hY]
                    refine bodyPost_ret (results_cell_row rfl _ _ (w.heap.size + 1) 28 _ (0, 0) _ rfl y1 Try.underlying28 rfl (by kernel_rfl)) rfl ?_
                    refine ⟨M4, rfl, HM4.out.kept (fun b hb => y2 b ?_) (fun b hb => ?_), y4'⟩
                    · rcases hfa b hb with h | h <;> omega
                    · rcases hfa b hb with h | h
                      · exact .inl h
                      · right; omega
              · have d2 : decide (a5 > a4) = false := by simp; omega
                have d2' : decide (a4 < a5) = false := by simp; omega
                have hS : S = rowN (List.replicate c x) := by rw [HS0.out, if_neg c2, List.append_nil]
                have HS' := hid hS
                have HC2 := row34 wr _ _ _ _ _ _ HR.out (by omega)
                clear hS HS0
                go_wp2_with (first | (go_at_call 34; (with_reducible refine HC2.mono ?_); rintro e w4 ⟨M4, rfl, hM4, hb4⟩; have hbx4 : Below X.heap.size X w4 := BX2.out.trans (Joins.below_le hb4 (by omega)); obtain ⟨_, _, by4, _, bw4, hs4w⟩ := HG.out w4 hbx4; obtain ⟨g0, g1, g2, g3, g4, g5, g6, g7, g8⟩ := nine' by4; have f0 := Joins.unfrozen_of_block by4 0; have f1 := Joins.unfrozen_of_block by4 1; have f2 := Joins.unfrozen_of_block by4 2; have f3 := Joins.unfrozen_of_block by4 3; have f4 := Joins.unfrozen_of_block by4 4; have f5 := Joins.unfrozen_of_block by4 5; have f6 := Joins.unfrozen_of_block by4 6; have f7 := Joins.unfrozen_of_block by4 7; have f8 := Joins.unfrozen_of_block by4 8; have HM4 := hid hM4; have BY4 := hid by4; have BW4 := hid bw4; have HS4 := hid hb4.size; clear by4 bw4 hM4 hb4 hbx4 HC2))
                rw [HS'.out]
                have hfa : ∀ b, (A b ∨ (Value.slice v1 c v3).ownBlock = some b) → b < B ∨ (w.heap.size + 1 + 1 ≤ b ∧ b < w4.heap.size) := fun b hb => by
                  have := HS4.out
                  rcases hb with hb | hb
                  · rcases (HAL.out b hb).1 with h | h
                    · exact .inl h
                    · right; have := HAX.out b hb; omega
                  · right; have := HR.out.row.lt b hb; omega
                obtain ⟨y1, y2, y3, y4⟩ := nineSet w4 (w.heap.size + 1) (.int .i64 M4.k) (.slice M4.r1 M4.r2 M4.r3) (.int .i64 M4.a2) (.slice M4.s1 M4.s2 M4.s3) (.int .i64 M4.a4) (.int .i64 M4.a5) (.bool M4.a6) (.int .i64 M4.a7) (.string M4.a8) BY4.out
                obtain ⟨Y, hY⟩ : ∃ Y, Y = (((((((((w4.setCell ⟨w.heap.size + 1, 0, none⟩ (.int .i64 M4.k)).setCell ⟨w.heap.size + 1, 1, none⟩ (.slice M4.r1 M4.r2 M4.r3)).setCell ⟨w.heap.size + 1, 2, none⟩ (.int .i64 M4.a2)).setCell ⟨w.heap.size + 1, 3, none⟩ (.slice M4.s1 M4.s2 M4.s3)).setCell ⟨w.heap.size + 1, 4, none⟩ (.int .i64 M4.a4)).setCell ⟨w.heap.size + 1, 5, none⟩ (.int .i64 M4.a5)).setCell ⟨w.heap.size + 1, 6, none⟩ (.bool M4.a6)).setCell ⟨w.heap.size + 1, 7, none⟩ (.int .i64 M4.a7)).setCell ⟨w.heap.size + 1, 8, none⟩ (.string M4.a8)) := ⟨_, rfl⟩
                rw [← hY] at y1 y2 y3 y4
                have y4' := y4 BW4.out (by omega)
                rw [← hY]
                refine bodyPost_ret (results_cell_row rfl _ _ (w.heap.size + 1) 28 _ (0, 0) _ rfl y1 Try.underlying28 rfl (by kernel_rfl)) rfl ?_
                refine ⟨M4, rfl, HM4.out.kept (fun b hb => y2 b ?_) (fun b hb => ?_), y4'⟩
                · rcases hfa b hb with h | h <;> omega
                · rcases hfa b hb with h | h
                  · exact .inl h
                  · right; omega
      · have k6' : (k != 6) = true := by simpa using k6
        have e0 : (Tn.mk k R a2 ts a4 a5 a6 a7 a8).spread = .mk k R a2 (ts.map Tn.spread) a4 a5 a6 a7 a8 := by simp only [Tn.spread, k6, if_false, spreadL_map]
        have HE0 : Hid (S = .mk k R a2 (ts.map Tn.spread) a4 a5 a6 a7 a8) := HSS.out.trans e0
        clear e0
        obtain ⟨q0, q1, q2, q3, q4, q5, q6, q7, q8⟩ := nine' BY.out
        have fx3 := Joins.unfrozen_of_block BX.out 3
        have f0 := Joins.unfrozen_of_block BY.out 0
        have f1 := Joins.unfrozen_of_block BY.out 1
        have f2 := Joins.unfrozen_of_block BY.out 2
        have f3 := Joins.unfrozen_of_block BY.out 3
        have f4 := Joins.unfrozen_of_block BY.out 4
        have f5 := Joins.unfrozen_of_block BY.out 5
        have f6 := Joins.unfrozen_of_block BY.out 6
        have f7 := Joins.unfrozen_of_block BY.out 7
        have f8 := Joins.unfrozen_of_block BY.out 8
        go_wp2
        obtain ⟨X, hX⟩ : ∃ X, X = wr.setCell ⟨w.heap.size, 3, none⟩ (.slice u1 i u3) := ⟨_, rfl⟩
        rw [← hX]
        have hXo : ∀ k, k ≠ w.heap.size → X.heap[k]? = wr.heap[k]? := fun k hk => by rw [hX]; exact Below.heap_setCell _ _ _ _ hk
        have hXs : X.heap.size = wr.heap.size := by rw [hX]; simp [World.setCell]
        have hXb : Below w.heap.size w X := by rw [hX]; exact BK.out.setCell (by exact Nat.le_refl _) _
        obtain ⟨y1, y2, y3, y4⟩ := nineSet X (w.heap.size + 1) (.int .i64 k) (.slice r1 r2 r3) (.int .i64 a2) (.slice u1 i u3) (.int .i64 a4) (.int .i64 a5) (.bool a6) (.int .i64 a7) (.string a8) ((hXo _ (by omega)).trans BY.out)
        obtain ⟨Y, hY⟩ : ∃ Y, Y = (((((((((X.setCell ⟨w.heap.size + 1, 0, none⟩ (.int .i64 k)).setCell ⟨w.heap.size + 1, 1, none⟩ (.slice r1 r2 r3)).setCell ⟨w.heap.size + 1, 2, none⟩ (.int .i64 a2)).setCell ⟨w.heap.size + 1, 3, none⟩ (.slice u1 i u3)).setCell ⟨w.heap.size + 1, 4, none⟩ (.int .i64 a4)).setCell ⟨w.heap.size + 1, 5, none⟩ (.int .i64 a5)).setCell ⟨w.heap.size + 1, 6, none⟩ (.bool a6)).setCell ⟨w.heap.size + 1, 7, none⟩ (.int .i64 a7)).setCell ⟨w.heap.size + 1, 8, none⟩ (.string a8)) := ⟨_, rfl⟩
        rw [← hY] at y1 y2 y3 y4
        have y4' := y4 hXb (by omega)
        rw [← hY]
        refine bodyPost_ret (results_cell_row rfl _ _ (w.heap.size + 1) 28 _ (0, 0) _ rfl y1 Try.underlying28 rfl (by kernel_rfl)) rfl ?_
        obtain ⟨MS, A, hRN, hA⟩ := HI.out
        have htk : (ts.take i).map Tn.spread = ts.map Tn.spread := by rw [HL.out, List.take_length]
        rw [htk] at hRN
        have hwk : ∀ b, b < B → wr.heap[b]? = w0.heap[b]? := fun b hb => (BK.out.block b (by omega)).trans (HW.out b hb)
        rw [HE0.out]
        exact ⟨⟨k, r1, r2, r3, a2, u1, i, u3, a4, a5, a6, a7, a8⟩, rfl, fin23 hB (Nat.le_refl _) hRN hA HOK.out HRL.out (HRW.out wr hwk) hRk hXo y2 (y3.trans hXs), y4'⟩
end Go.Proofs.Ytnpocciioedgpaa
namespace Go.Proofs.Ytnpocciioedgpaa
open Go.RowKit
set_option linter.unusedVariables false
set_option linter.unusedSimpArgs false
/-- how many -/
def cnt (f : Nat → Bool) (i : Nat) : Nat := ((List.range i).filter f).length
theorem cnt_succ (f : Nat → Bool) (i : Nat) : cnt f (i + 1) = cnt f i + (if f i then 1 else 0) := by
  unfold cnt
  rw [List.range_succ, List.filter_append, List.length_append]
  cases h : f i <;> simp [h]
theorem cnt_le (f : Nat → Bool) (i : Nat) : cnt f i ≤ i := by
  unfold cnt
  have := List.length_filter_le f (List.range i)
  simpa using this
/-- the parses are as many as the places that the table tells -/
theorem PS.count {t : Tn} {K : Nat} {tx : List Int} {p : Nat} {l : List (Int × List Int)} (h : PS t K tx p l) (hf : t.fine = true) (hp : p < tx.length + 1) : (∀ q : Nat, q < tx.length + 1 → decide ((q : Int) ∈ l.map Prod.fst) = tab tx t p q) ∧ l.length = cnt (tab tx t p) (tx.length + 1) := by
  obtain ⟨h1, h2, h3⟩ := h.ends
  have hs := tab_says (tx := tx) t hf
  have hm : ∀ q : Nat, q < tx.length + 1 → ((q : Int) ∈ l.map Prod.fst ↔ tab tx t p q = true) := fun q hq => (h3 q).trans (hs p q hp hq).symm
  refine ⟨fun q hq => by rw [Bool.eq_iff_iff, decide_eq_true_eq]; exact hm q hq, ?_⟩
  have hA : ∀ x ∈ l.map Prod.fst, x ∈ ((List.range (tx.length + 1)).filter (tab tx t p)).map (fun q : Nat => (q : Int)) := fun x hx => by
    obtain ⟨e, he, rfl⟩ := List.mem_map.1 hx
    obtain ⟨q, hq⟩ := h2 e he
    have hx' : (q : Int) ∈ l.map Prod.fst := by rw [← hq]; exact List.mem_map_of_mem he
    have hlt : q < tx.length + 1 := Mt.stay t p q hp ((h3 q).1 hx')
    rw [hq]
    exact List.mem_map_of_mem (f := fun q : Nat => (q : Int)) (List.mem_filter.2 ⟨by simpa using hlt, (hm q hlt).1 hx'⟩)
  have hB : ∀ x ∈ ((List.range (tx.length + 1)).filter (tab tx t p)).map (fun q : Nat => (q : Int)), x ∈ l.map Prod.fst := fun x hx => by
    obtain ⟨q, hq, rfl⟩ := List.mem_map.1 hx
    obtain ⟨q1, q2⟩ := List.mem_filter.1 hq
    exact (hm q (by simpa using q1)).2 q2
  have hnd : (((List.range (tx.length + 1)).filter (tab tx t p)).map (fun q : Nat => (q : Int))).Nodup := by
    refine List.Pairwise.map _ ?_ (List.Pairwise.filter _ List.nodup_range)
    intro a b hab he
    exact hab (by omega)
  have l1 := nodup_le h1 hA
  have l2 := nodup_le hnd hB
  simp only [List.length_map] at l1 l2
  unfold cnt
  omega
theorem PR.caps {N : Nat} {w : World} {cs : List Value} {l : List (Int × List Int)} {F : List Nat} (h : PR N w cs l F) : ∀ (i : Nat) (hi : i < l.length), ∃ cv, cs[i * 2 + 1]? = some cv ∧ w.ownsRow N 3 1 cv l[i].2.length (I64 l[i].2) := by
  induction h with
  | nil => intro i hi; simp at hi
  | cons h hl ih =>
    intro i hi
    cases i with
    | zero => exact ⟨_, by simp, h⟩
    | succ i =>
      obtain ⟨cv, h1, h2⟩ := ih i (by simpa using hi)
      refine ⟨cv, ?_, by simpa using h2⟩
      rw [show (i + 1) * 2 + 1 = i * 2 + 1 + 1 + 1 by omega]
      simpa using h1
theorem Parsed.caps {N : Nat} {w : World} {b cap n : Nat} {l : List (Int × List Int)} (h : Parsed N w (.slice (some ⟨b, 0, none⟩) n cap) l) (i : Nat) (hi : i < l.length) (hc : 0 < l[i].2.length) : ∃ cb cc, w.cell? ⟨b, i * 2 + 1, none⟩ = some (.slice (some ⟨cb, 0, none⟩) l[i].2.length cc) ∧ ∀ j, j < l[i].2.length → w.cell? ⟨cb, j, none⟩ = some (.int .i64 (l[i].2.getD j 0)) := by
  obtain ⟨cs, F, h1, h2⟩ := h
  obtain ⟨cv, q1, q2⟩ := h2.caps i hi
  obtain ⟨cb, cc, rfl⟩ := Joins.ownsRow_form q2 hc
  have hn : n = l.length := by
    rcases h1.2 with ⟨e, h0⟩ | ⟨g, cap', cur, e, _⟩
    · cases e
    · simp only [Value.slice.injEq] at e
      exact e.2.1
  subst hn
  refine ⟨cb, cc, ?_, fun j hj => ?_⟩
  · have hl : cs.length = l.length * 2 := h1.1
    rw [h1.cellAt (i * 2 + 1) (by omega), q1]
  · rw [q2.cellAt j (by simpa using hj)]
    simp [List.getD_eq_getElem?_getD, List.getElem?_eq_getElem hj]
set_option maxRecDepth 100000 in
set_option maxHeartbeats 4000000 in
theorem ends5_out (N : Nv) (t : Tn) (tx : List Int) (ad : Option Addr) (tn tcap : Nat) (at_ : Int) (w : World) (hTI : TI w w.heap.size N t) (htx : Look.TextAt w.heap.size w ad tn tx) (htc : tn ≤ tcap) (hout : mayB t tn at_ = false) :
    Calls Try.prog 5 #[N.v, .agg #[.slice ad tn tcap, .int .i64 at_]] w fun e w' => e = .returned (.bool true) ∧ Below w.heap.size w w' := by
  obtain ⟨W0, hW0⟩ : ∃ W0, W0 = (w.alloc N.ob).alloc (Xob ad tn tcap at_) := ⟨_, rfl⟩
  have hq := boxes (tcap := tcap) (at_ := at_) hTI htx
  rw [← hW0] at hq
  have hs0 : W0.heap.size = w.heap.size + 1 + 1 := by rw [hW0]; simp
  have HB0 : Hid (Below (w.heap.size + 1 + 1) W0 W0) := Below.refl _ _
  have htm : tn ≤ 35184372088832 := htx.2.1
  have c10 : ∀ W, Below (w.heap.size + 1 + 1) W0 W → Calls Try.prog 10 #[N.v] W fun e w' => e = .returned (.bool (decide (4194304 < t.nodes))) ∧ Below W.heap.size W w' := fun W hB => deep10 (hq W hB).2.2.1
  have c11 : ∀ W, Below (w.heap.size + 1 + 1) W0 W → Calls Try.prog 11 #[N.v, .slice ad tn tcap] W fun e w' => e = .returned (.bool (muchB t tn)) ∧ Below W.heap.size W w' := fun W hB => much11 N t ad tn tcap W (hq W hB).2.2.1 htm
  have c12 : ∀ W, Below (w.heap.size + 1 + 1) W0 W → Calls Try.prog 12 #[N.v, .agg #[.slice ad tn tcap, .int .i64 at_]] W fun e w' => e = .returned (.bool (mayB t tn at_)) ∧ Below W.heap.size W w' := fun W hB => may12 N t ad tn tcap at_ W (hq W hB).2.2.1 htm
  rw [hout] at c12
  obtain ⟨dp, hdp⟩ : ∃ dp, dp = decide (4194304 < t.nodes) := ⟨_, rfl⟩
  obtain ⟨mu, hmu⟩ : ∃ mu, mu = muchB t tn := ⟨_, rfl⟩
  rw [← hdp] at c10
  rw [← hmu] at c11
  clear hdp hmu hout
  obtain ⟨k, r1, r2, r3, a2, s1, s2, s3, a4, a5, a6, a7, a8⟩ := N
  dsimp only at hq c10 c11 c12
  have hx : ∀ W, Below (w.heap.size + 1 + 1) W0 W → Below w.heap.size w W := fun W hB => (hq W hB).2.2.2.2
  have HX := hid hx
  have HQ := hid hq
  have HC10 := hid c10
  have HC11 := hid c11
  have HC12 := hid c12
  clear hTI htx hq c10 c11 c12 hx
  go_enter Try.func5, Try.ntmps5
  go_upto_region 1 with fail
  rw [← hW0]
  clear hW0
  obtain ⟨⟨o0, o1, o2, o3, o4, o5, o6, o7, o8⟩, ⟨y0, y1⟩, _⟩ := HQ.out W0 HB0.out
  have HC := HC10.out W0 HB0.out
  cases dp with
  | true =>
    go_wp2_with (first | (go_at_call 10; (with_reducible refine HC.mono ?_); rintro e w1 ⟨rfl, hb1⟩; have HB1 : Hid (Below (w.heap.size + 1 + 1) W0 w1) := HB0.out.trans (Joins.below_le hb1 (by omega)); clear hb1 HC))
    go_ret
    exact ⟨rfl, HX.out _ HB1.out⟩
  | false =>
  go_upto_region 4 with (first | (go_at_call 10; (with_reducible refine HC.mono ?_); rintro e w1 ⟨rfl, hb1⟩; have HB1 : Hid (Below (w.heap.size + 1 + 1) W0 w1) := HB0.out.trans (Joins.below_le hb1 (by omega)); clear hb1 HC o0 o1 o2 o3 o4 o5 o6 o7 o8 y0 y1))
  have hs1' : W0.heap.size ≤ w1.heap.size := HB1.out.size
  obtain ⟨⟨o0, o1, o2, o3, o4, o5, o6, o7, o8⟩, ⟨y0, y1⟩, _⟩ := HQ.out w1 HB1.out
  have HC := HC11.out w1 HB1.out
  cases mu with
  | true =>
    go_wp2_with (first | (go_at_call 11; (with_reducible refine HC.mono ?_); rintro e w2 ⟨rfl, hb2⟩; have HB2 : Hid (Below (w.heap.size + 1 + 1) W0 w2) := HB1.out.trans (Joins.below_le hb2 (by omega)); clear hb2 HC))
    go_ret
    exact ⟨rfl, HX.out _ HB2.out⟩
  | false =>
  go_upto_region 7 with (first | (go_at_call 11; (with_reducible refine HC.mono ?_); rintro e w2 ⟨rfl, hb2⟩; have HB2 : Hid (Below (w.heap.size + 1 + 1) W0 w2) := HB1.out.trans (Joins.below_le hb2 (by omega)); clear hb2 HC o0 o1 o2 o3 o4 o5 o6 o7 o8 y0 y1))
  have hs2' : W0.heap.size ≤ w2.heap.size := HB2.out.size
  obtain ⟨⟨o0, o1, o2, o3, o4, o5, o6, o7, o8⟩, ⟨y0, y1⟩, _⟩ := HQ.out w2 HB2.out
  have HC := awake8 w2
  go_upto_region 8 with (first | (go_at_call 8; (with_reducible refine HC.mono ?_); rintro e w3 ⟨rfl, hb3⟩; have HB3 : Hid (Below (w.heap.size + 1 + 1) W0 w3) := HB2.out.trans (Joins.below_le hb3 (by omega)); clear hb3 HC o0 o1 o2 o3 o4 o5 o6 o7 o8 y0 y1))
  have hs3' : W0.heap.size ≤ w3.heap.size := HB3.out.size
  obtain ⟨⟨o0, o1, o2, o3, o4, o5, o6, o7, o8⟩, ⟨y0, y1⟩, _⟩ := HQ.out w3 HB3.out
  have HC := HC12.out w3 HB3.out
  go_wp2_with (first | (go_at_call 12; (with_reducible refine HC.mono ?_); rintro e w4 ⟨rfl, hb4⟩; have HB4 : Hid (Below (w.heap.size + 1 + 1) W0 w4) := HB3.out.trans (Joins.below_le hb4 (by omega)); clear hb4 HC))
  go_ret
  exact ⟨rfl, HX.out _ HB4.out⟩
set_option maxRecDepth 100000 in
set_option maxHeartbeats 8000000 in
theorem ends5_in (N : Nv) (t : Tn) (tx : List Int) (ad : Option Addr) (tn tcap : Nat) (at_ : Int) (w : World) (hTI : TI w w.heap.size N t) (htx : Look.TextAt w.heap.size w ad tn tx) (htc : tn ≤ tcap) (hin : mayB t tn at_ = true) :
    Calls Try.prog 5 #[N.v, .agg #[.slice ad tn tcap, .int .i64 at_]] w fun e w' => e = .returned (.bool true) ∧ Below w.heap.size w w' := by
  obtain ⟨hsd, hsz, htn, ha0, ha1⟩ := mayB_parts hin
  obtain ⟨hfine, _, hnod⟩ := sound_parts hsd
  obtain ⟨W0, hW0⟩ : ∃ W0, W0 = (w.alloc N.ob).alloc (Xob ad tn tcap at_) := ⟨_, rfl⟩
  have hq := boxes (tcap := tcap) (at_ := at_) hTI htx
  rw [← hW0] at hq
  have hs0 : W0.heap.size = w.heap.size + 1 + 1 := by rw [hW0]; simp
  have HB0 : Hid (Below (w.heap.size + 1 + 1) W0 W0) := Below.refl _ _
  have htm : tn ≤ 35184372088832 := htx.2.1
  have c10 : ∀ W, Below (w.heap.size + 1 + 1) W0 W → Calls Try.prog 10 #[N.v] W fun e w' => e = .returned (.bool false) ∧ Below W.heap.size W w' := fun W hB => by have h := deep10 (hq W hB).2.2.1; rw [decide_eq_false (by omega)] at h; exact h
  have c11 : ∀ W, Below (w.heap.size + 1 + 1) W0 W → Calls Try.prog 11 #[N.v, .slice ad tn tcap] W fun e w' => e = .returned (.bool (muchB t tn)) ∧ Below W.heap.size W w' := fun W hB => much11 N t ad tn tcap W (hq W hB).2.2.1 htm
  have c12 : ∀ W, Below (w.heap.size + 1 + 1) W0 W → Calls Try.prog 12 #[N.v, .agg #[.slice ad tn tcap, .int .i64 at_]] W fun e w' => e = .returned (.bool true) ∧ Below W.heap.size W w' := fun W hB => by have h := may12 N t ad tn tcap at_ W (hq W hB).2.2.1 htm; rw [hin] at h; exact h
  have c13t : ∀ W, Below (w.heap.size + 1 + 1) W0 W → Calls Try.prog 13 #[N.v, .slice ad tn tcap, .int .i64 at_] W fun e w' => ∃ (a : Option Addr) (c : Nat) (l : List (Int × List Int)), e = .returned (.tuple #[.slice a l.length c, .int .i64 0]) ∧ Parsed W.heap.size w' (.slice a l.length c) l ∧ PS t t.notes tx at_.toNat l ∧ l.length ≤ 65 ∧ Below W.heap.size W w' := fun W hB => parses13ok (hq W hB).2.2.1 (hq W hB).2.2.2.1 htc (errP_zero hin hsd (Nat.le_refl _))
  obtain ⟨p, hpp⟩ : ∃ p : Nat, at_ = (p : Int) := ⟨at_.toNat, by omega⟩
  subst hpp
  obtain ⟨hg0, hg1⟩ := fine_gi t hfine
  obtain ⟨G, hG⟩ : ∃ G : Nat, t.gi = (G : Int) := ⟨t.gi.toNat, by omega⟩
  have hK : t.notes = 2 * G + 2 := by simp only [Tn.notes, hG]; omega
  have c20 : ∀ W, Below (w.heap.size + 1 + 1) W0 W → Calls Try.prog 20 #[N.v, .slice ad tn tcap] W (TabC W (tn + 1) (tab tx t)) := fun W hB => by
    have h0 := (hq W hB).2.2.2.2
    exact table20 hTI tx ad tn tcap (tn + 1) htx rfl htn hfine hnod W h0.size (fun b hb => h0.block b hb)
  have c15 : ∀ W, Below (w.heap.size + 1 + 1) W0 W → Calls Try.prog 15 #[N.v] W fun e w' => e = .returned (.int .i64 (G : Int)) ∧ Below W.heap.size W w' := fun W hB => by
    have h0 := (hq W hB).2.2.2.2
    have := greatest15 hTI W h0.size (fun b hb => h0.block b hb)
    rw [hG] at this
    exact this
  have hpl : p < tx.length + 1 := by have := htx.1; omega
  rw [hK] at c13t
  have hG5 : G ≤ 500 := by omega
  obtain ⟨mu, hmu⟩ : ∃ mu, mu = muchB t tn := ⟨_, rfl⟩
  rw [← hmu] at c11
  have htl : tx.length = tn := htx.1.symm
  clear hmu
  obtain ⟨k, r1, r2, r3, a2, s1, s2, s3, a4, a5, a6, a7, a8⟩ := N
  dsimp only at hq c10 c11 c12 c13t c20 c15
  have hx : ∀ W, Below (w.heap.size + 1 + 1) W0 W → Below w.heap.size w W := fun W hB => (hq W hB).2.2.2.2
  have hsx : ∀ W, Below (w.heap.size + 1 + 1) W0 W → W.cell? ⟨w.heap.size, 0, none⟩ = some (.int .i64 k) ∧ W.cell? ⟨w.heap.size, 1, none⟩ = some (.slice r1 r2 r3) ∧ W.cell? ⟨w.heap.size, 2, none⟩ = some (.int .i64 a2) ∧ W.cell? ⟨w.heap.size, 3, none⟩ = some (.slice s1 s2 s3) ∧ W.cell? ⟨w.heap.size, 4, none⟩ = some (.int .i64 a4) ∧ W.cell? ⟨w.heap.size, 5, none⟩ = some (.int .i64 a5) ∧ W.cell? ⟨w.heap.size, 6, none⟩ = some (.bool a6) ∧ W.cell? ⟨w.heap.size, 7, none⟩ = some (.int .i64 a7) ∧ W.cell? ⟨w.heap.size, 8, none⟩ = some (.string a8) ∧ W.cell? ⟨w.heap.size + 1, 0, none⟩ = some (.slice ad tn tcap) ∧ W.cell? ⟨w.heap.size + 1, 1, none⟩ = some (.int .i64 (p : Int)) := fun W hB => by obtain ⟨⟨o0, o1, o2, o3, o4, o5, o6, o7, o8⟩, ⟨y0, y1⟩, _⟩ := hq W hB; exact ⟨o0, o1, o2, o3, o4, o5, o6, o7, o8, y0, y1⟩
  have HX := hid hx
  have HSX := hid hsx
  have HQ := hid hq
  have HC10 := hid c10
  have HC11 := hid c11
  have HC12 := hid c12
  have HC13t := hid c13t
  have HF := hid hfine
  have HTL := hid htl
  have HC20 := hid c20
  have HC15 := hid c15
  have HPL := hid hpl
  have hf1 := t.fine_from1 HF.out
  have HF1 := hid hf1
  clear hTI htx hq c10 c11 c12 c13t hx hsx hfine htl hsd hsz hnod hin c20 c15 hpl hK hG hg0 hg1 hf1
  go_enter Try.func5, Try.ntmps5
  go_upto_region 1 with fail
  rw [← hW0]
  clear hW0
  obtain ⟨⟨o0, o1, o2, o3, o4, o5, o6, o7, o8⟩, ⟨y0, y1⟩, _⟩ := HQ.out W0 HB0.out
  have HC := HC10.out W0 HB0.out
  go_upto_region 4 with (first | (go_at_call 10; (with_reducible refine HC.mono ?_); rintro e w1 ⟨rfl, hb1⟩; have HB1 : Hid (Below (w.heap.size + 1 + 1) W0 w1) := HB0.out.trans (Joins.below_le hb1 (by omega)); clear hb1 HC o0 o1 o2 o3 o4 o5 o6 o7 o8 y0 y1))
  have hs1' : W0.heap.size ≤ w1.heap.size := HB1.out.size
  obtain ⟨⟨o0, o1, o2, o3, o4, o5, o6, o7, o8⟩, ⟨y0, y1⟩, _⟩ := HQ.out w1 HB1.out
  have HC := HC11.out w1 HB1.out
  cases mu with
  | true =>
    go_wp2_with (first | (go_at_call 11; (with_reducible refine HC.mono ?_); rintro e w2 ⟨rfl, hb2⟩; have HB2 : Hid (Below (w.heap.size + 1 + 1) W0 w2) := HB1.out.trans (Joins.below_le hb2 (by omega)); clear hb2 HC))
    go_ret
    exact ⟨rfl, HX.out _ HB2.out⟩
  | false =>
  go_upto_region 7 with (first | (go_at_call 11; (with_reducible refine HC.mono ?_); rintro e w2 ⟨rfl, hb2⟩; have HB2 : Hid (Below (w.heap.size + 1 + 1) W0 w2) := HB1.out.trans (Joins.below_le hb2 (by omega)); clear hb2 HC o0 o1 o2 o3 o4 o5 o6 o7 o8 y0 y1))
  have hs2' : W0.heap.size ≤ w2.heap.size := HB2.out.size
  obtain ⟨⟨o0, o1, o2, o3, o4, o5, o6, o7, o8⟩, ⟨y0, y1⟩, _⟩ := HQ.out w2 HB2.out
  have HC := awake8 w2
  go_upto_region 8 with (first | (go_at_call 8; (with_reducible refine HC.mono ?_); rintro e w3 ⟨rfl, hb3⟩; have HB3 : Hid (Below (w.heap.size + 1 + 1) W0 w3) := HB2.out.trans (Joins.below_le hb3 (by omega)); clear hb3 HC o0 o1 o2 o3 o4 o5 o6 o7 o8 y0 y1))
  have hs3' : W0.heap.size ≤ w3.heap.size := HB3.out.size
  obtain ⟨⟨o0, o1, o2, o3, o4, o5, o6, o7, o8⟩, ⟨y0, y1⟩, _⟩ := HQ.out w3 HB3.out
  have HC := HC12.out w3 HB3.out
  go_upto_region 11 with (first | (go_at_call 12; (with_reducible refine HC.mono ?_); rintro e w4 ⟨rfl, hb4⟩; have HB4 : Hid (Below (w.heap.size + 1 + 1) W0 w4) := HB3.out.trans (Joins.below_le hb4 (by omega)); clear hb4 HC o0 o1 o2 o3 o4 o5 o6 o7 o8 y0 y1))
  have hs4' : W0.heap.size ≤ w4.heap.size := HB4.out.size
  obtain ⟨⟨o0, o1, o2, o3, o4, o5, o6, o7, o8⟩, ⟨y0, y1⟩, _⟩ := HQ.out w4 HB4.out
  have HC := HC13t.out w4 HB4.out
  go_upto_region 12 with (first | (go_at_call 13; (with_reducible refine HC.mono ?_); rintro e w5 ⟨la, lc, l, rfl, hPl, hSl, hLl, hb5⟩; have HB5 : Hid (Below (w.heap.size + 1 + 1) W0 w5) := HB4.out.trans (Joins.below_le hb5 (by omega)); have HPl := hid hPl; have HSl := hid hSl; clear hPl hSl; clear hb5 HC o0 o1 o2 o3 o4 o5 o6 o7 o8 y0 y1))
  have hs5' : W0.heap.size ≤ w5.heap.size := HB5.out.size
  obtain ⟨⟨o0, o1, o2, o3, o4, o5, o6, o7, o8⟩, ⟨y0, y1⟩, _⟩ := HQ.out w5 HB5.out
  have hcount := HSl.out.count HF.out (by have := HPL.out; simpa using this)
  have hwithin := HSl.out.within (by omega) HF1.out
  simp only [Int.toNat_natCast] at hcount hwithin
  rw [HTL.out] at hcount
  obtain ⟨f, hf⟩ : ∃ f, f = tab tx t p := ⟨_, rfl⟩
  rw [← hf] at hcount
  have HCN := hid hcount
  have HWI := hid hwithin
  have HFE := hid hf
  have HB5d : Hid (Below (w.heap.size + 1 + 1) W0 w5.drew) := HB5.out.drew
  have hs5d : W0.heap.size ≤ w5.drew.heap.size := HB5d.out.size
  have HPl5d : Hid (Parsed w4.heap.size w5.drew (.slice la l.length lc) l) := HPl.out.kept ((Below.refl _ _).drew)
  have HC := HC20.out w5.drew HB5d.out
  have hptn : p < tn + 1 := by have := HPL.out; have := HTL.out; omega
  have hptI : (p : Int) < ((tn + 1 : Nat) : Int) := by omega
  have hptJ : (p : Int) < (tn : Int) + 1 := by omega
  clear hcount hwithin HPl hf
  go_cut [11] from 47 to 54 (fun x wx => ∃ (r : Nat), x = .slice (some ⟨r, 0, none⟩) (tn + 1) (tn + 1) ∧ Hid (Parsed w4.heap.size wx (.slice la l.length lc) l) ∧ Hid (BR wx r (tn + 1) f) ∧ Hid (Below (w.heap.size + 1 + 1) W0 wx))
  case first =>
    go_region_with (first | (go_at_call 20; (with_reducible refine HC.mono ?_); rintro e w6 ⟨g, cap, rs, rfl, hT6, hb6⟩; have HB6 : Hid (Below (w.heap.size + 1 + 1) W0 w6) := HB5d.out.trans (Joins.below_le hb6 (by omega)); have HPl6 : Hid (Parsed w4.heap.size w6 (.slice la l.length lc) l) := HPl5d.out.kept hb6; have y16 := (HSX.out w6 HB6.out).2.2.2.2.2.2.2.2.2.2; have u1 := hT6.outer hptn; have HR6 : Hid (BR w6 (rs.getD p 0) (tn + 1) f) := (by rw [HFE.out]; exact hT6.br p hptn); obtain ⟨r, hr⟩ : ∃ r, r = rs.getD p 0 := ⟨_, rfl⟩; rw [← hr] at u1 HR6; clear hb6 hT6 hr HC))
    all_goals
      go_wp2
      go_meet
      exact ⟨r, rfl, HPl6, HR6, HB6⟩
  case rest =>
  obtain ⟨r, rfl, HPl, HR, HB⟩ := hcut
  obtain ⟨⟨o0, o1, o2, o3, o4, o5, o6, o7, o8⟩, ⟨y0, y1⟩, _⟩ := HQ.out wc HB.out
  have hsc : W0.heap.size ≤ wc.heap.size := HB.out.size
  have HC := ends22 _ _ l tn htn hLl wc HPl.out
  have eqq : decide (∀ j, j < tn + 1 → decide ((j : Int) ∈ l.map Prod.fst) = f j) = true := by
    simp only [decide_eq_true_eq]
    exact HCN.out.1
  have EQQ := hid eqq
  have HLL : Hid (l.length = cnt f (tn + 1)) := HCN.out.2
  clear eqq HPl5d HB5d
  go_upto_region 14 with (first | (go_at_call 22; (with_reducible refine HC.mono ?_); rintro e w7 ⟨rfl, hR7, hb7⟩; have HB7 : Hid (Below (w.heap.size + 1 + 1) W0 w7) := HB.out.trans (Joins.below_le hb7 (by omega)); have hs7 : W0.heap.size ≤ w7.heap.size := HB7.out.size; have HPl7 : Hid (Parsed w4.heap.size w7 (.slice la l.length lc) l) := HPl.out.kept hb7; have HR7 : Hid (BR w7 r (tn + 1) f) := HR.out.kept (hb7.block _ HR.out.lt); have HC2 := alike21 _ _ (tn + 1) (tn + 1) (tn + 1) _ _ (by omega) w7 hR7 HR7.out; rw [EQQ.out] at HC2; clear hb7 hR7 HC) | (go_at_call 21; (with_reducible refine HC2.mono ?_); rintro e w8 ⟨rfl, hb8⟩; have HB8 : Hid (Below (w.heap.size + 1 + 1) W0 w8) := HB7.out.trans (Joins.below_le hb8 (by omega)); have HPl8 : Hid (Parsed w4.heap.size w8 (.slice la l.length lc) l) := HPl7.out.kept hb8; have HR8 : Hid (BR w8 r (tn + 1) f) := HR7.out.kept (hb8.block _ HR7.out.lt); clear hb8 HC2))
  clear HPl HR HB HPl7 HR7 o0 o1 o2 o3 o4 o5 o6 o7 o8 y0 y1
  obtain ⟨n, hn⟩ : ∃ n, n = tn + 1 := ⟨_, rfl⟩
  rw [← hn] at HR8 HLL ⊢
  have HNN := hid hn
  have hn65 : n ≤ 65 := by omega
  clear hn hptn hptI hptJ
  go_wp2_with fail
  go_loopw [13, 14] (fun c x wq => ∃ (i m : Nat), c = .int .i64 (m : Int) ∧ x = .int .i64 (i : Int) ∧ i ≤ n ∧ m ≤ 65 ∧ Hid (m = cnt f i) ∧ wq = w8) (fun _ x _ => n - (intOf x).toNat)
  case atStart => exact ⟨0, 0, rfl, rfl, by omega, by omega, by exact rfl, rfl⟩
  case round =>
    obtain ⟨i, m, rfl, rfl, hi, hm, HM, rfl⟩ := hrel
    by_cases hlt : i < n
    · have b1 : decide ((i : Int) < (n : Int)) = true := by simp; omega
      have b2 : (i : Int) < (n : Int) := by omega
      have ad1 : IntKind.i64.wrap ((i : Int) + 1) = (i : Int) + 1 := by simp [IntKind.wrap, IntKind.bits, IntKind.signed]; omega
      have ad2 : IntKind.i64.wrap ((m : Int) + 1) = (m : Int) + 1 := by simp [IntKind.wrap, IntKind.bits, IntKind.signed]; omega
      have u1 := HR8.out.cell hlt
      have hstep := cnt_succ f i
      have hle := cnt_le f (i + 1)
      rw [← HM.out] at hstep
      cases hfi : f i with
      | true =>
        rw [hfi] at u1 hstep
        simp only [if_true] at hstep
        have HST := hid hstep.symm
        have hm1 : m + 1 ≤ 65 := by omega
        clear hstep hle hfi
        go_wp2
        exact ⟨⟨i + 1, m + 1, by push_cast; rfl, by push_cast; rfl, by omega, hm1, HST, by first | rfl | trivial⟩, by simp [intOf]; omega⟩
      | false =>
        rw [hfi] at u1 hstep
        simp only [Bool.false_eq_true, if_false, Nat.add_zero] at hstep
        have HST := hid hstep.symm
        clear hstep hle hfi
        go_wp2
        exact ⟨⟨i + 1, m, rfl, by push_cast; rfl, by omega, hm, HST, by first | rfl | trivial⟩, by simp [intOf]; omega⟩
    · have b1 : decide ((i : Int) < (n : Int)) = false := by simp; omega
      obtain rfl : i = n := by omega
      have hlm : l.length = m := by rw [HLL.out, HM.out]
      have HLM := hid hlm
      rw [hlm] at HPl8 ⊢
      have e0 : ((0 : Int) != 0) = false := by decide
      have e1 : ((m : Int) != (m : Int)) = false := by simp
      clear hlm HM HLL
      obtain ⟨⟨o0, o1, o2, o3, o4, o5, o6, o7, o8⟩, ⟨y0, y1⟩, _⟩ := HQ.out wr HB8.out
      have hs8 : W0.heap.size ≤ wr.heap.size := HB8.out.size
      have HC := HC15.out wr HB8.out
      obtain ⟨G2, hG2⟩ : ∃ G2 : Int, G2 = 2 * (G : Int) := ⟨_, rfl⟩
      obtain ⟨K, hK⟩ : ∃ K : Nat, K = 2 * G + 2 := ⟨_, rfl⟩
      have wk1 : IntKind.i64.wrap (2 * (G : Int)) = G2 := by simp [IntKind.wrap, IntKind.bits, IntKind.signed]; omega
      have wk2 : IntKind.i64.wrap (G2 + 2) = (K : Int) := by simp [IntKind.wrap, IntKind.bits, IntKind.signed]; omega
      have hKb : K ≤ 1002 := by omega
      have HK := hid hK
      rw [← hK] at HWI
      clear hK hG2
      go_wp2_with (first | (go_at_call 15; (with_reducible refine HC.mono ?_); rintro e w9 ⟨rfl, hb9⟩; have HB9 : Hid (Below (w.heap.size + 1 + 1) W0 w9) := HB8.out.trans (Joins.below_le hb9 (by omega)); have HPl9 : Hid (Parsed w4.heap.size w9 (.slice la m lc) l) := HPl8.out.kept hb9; clear hb9 HC o0 o1 o2 o3 o4 o5 o6 o7 o8 y0 y1))
      go_loopw [16] (fun x wq => ∃ i : Nat, x = .int .i64 (i : Int) ∧ i ≤ m ∧ Hid (Parsed w4.heap.size wq (.slice la m lc) l) ∧ Hid (Below (w.heap.size + 1 + 1) W0 wq)) (fun x _ => m - (intOf x).toNat)
      case atStart => exact ⟨0, rfl, by omega, HPl9, HB9⟩
      case round =>
        clear HPl9 HB9 HPl8 HB8
        obtain ⟨c, rfl, hc, HP, HBB⟩ := hrel
        by_cases hlc : c < m
        · have c1 : decide ((c : Int) < (m : Int)) = true := by simp; omega
          have c2 : (c : Int) < (m : Int) := by omega
          have ad3 : IntKind.i64.wrap ((c : Int) + 1) = (c : Int) + 1 := by simp [IntKind.wrap, IntKind.bits, IntKind.signed]; omega
          have hcl : c < l.length := by rw [HLM.out]; exact hlc
          have hW := HWI.out l[c] (List.getElem_mem hcl)
          obtain ⟨b, cap, hla⟩ : ∃ b cap, Value.slice la m lc = .slice (some ⟨b, 0, none⟩) m cap := by
            rcases HP.out.ends with ⟨_, h0⟩ | ⟨b, cap, e, _⟩
            · rw [h0] at hcl; simp at hcl
            · rw [HLM.out] at e; exact ⟨b, cap, e⟩
          simp only [Value.slice.injEq] at hla
          obtain ⟨rfl, _, rfl⟩ := hla
          obtain ⟨cb, cc, v1, v2⟩ := HP.out.caps c hcl (by rw [hW.len]; have := HK.out; omega)
          have v0 : wr.cell? ⟨b, c * 2, none⟩ = some (.int .i64 l[c].1) := by
            rcases HP.out.ends with ⟨h0, _⟩ | ⟨b', cap', e, _, _, hcc⟩
            · cases h0
            · simp only [Value.slice.injEq, Option.some.injEq, Addr.mk.injEq] at e
              obtain ⟨⟨rfl, _⟩, _⟩ := e
              exact hcc c hcl
          rw [hW.len] at v1 v2
          have k0 := v2 0 (by have := HK.out; omega)
          have k1 := v2 1 (by have := HK.out; omega)
          rw [hW.zero] at k0
          rw [hW.one] at k1
          have hblk : cb < wr.heap.size := World.block_lt_of_cell? _ _ k0
          have hgrp := hW.grp
          obtain ⟨E, hE⟩ : ∃ E, E = l[c].1 := ⟨_, rfl⟩
          obtain ⟨cp, hcp⟩ : ∃ cp, cp = l[c].2 := ⟨_, rfl⟩
          rw [← hE] at v0 k1 hgrp
          rw [← hcp] at v2 hgrp
          obtain ⟨⟨o0, o1, o2, o3, o4, o5, o6, o7, o8⟩, ⟨y0, y1⟩, _⟩ := HQ.out wr HBB.out
          have HV2 := hid v2
          have HGR := hid hgrp
          have HBL := hid hblk
          have f1 : ((K : Int) != (K : Int)) = false := by simp
          have f2 : ((p : Int) != (p : Int)) = false := by simp
          have f3 : (E != E) = false := by simp
          have i0 : (0 : Int) < (K : Int) := by have := HK.out; omega
          have i1 : (1 : Int) < (K : Int) := by have := HK.out; omega
          have hbb : b < wr.heap.size := World.block_lt_of_cell? _ _ v0
          have HBBB := hid hbb
          obtain ⟨WR, hWR⟩ : ∃ WR, WR = wr := ⟨_, rfl⟩
          subst hWR
          clear v2 hgrp hblk hE hcp hW hcl o0 o1 o2 o3 o4 o5 o6 o7 o8 y0 hbb
          go_wp2_with fail
          go_quiet (fail)
          go_wp2_with fail
          go_loopw [18] (fun x wq => ∃ kk : Nat, x = .int .i64 (kk : Int) ∧ kk ≤ K ∧ Hid (∃ j, kk = 2 * j ∧ 1 ≤ j) ∧ Hid (Below WR.heap.size WR wq)) (fun x _ => K - (intOf x).toNat)
          case atStart => exact ⟨2, rfl, by have := HK.out; omega, by exact ⟨1, rfl, Nat.le_refl _⟩, by exact below_drewN (Below.refl _ _) _⟩
          case round =>
            obtain ⟨kk, rfl, hkk, HJ, BB⟩ := hrel
            by_cases hlk : kk < K
            · obtain ⟨j, hj1, hj2⟩ := HJ.out
              have hk1K : kk + 1 < K := by have := HK.out; omega
              have g1 : decide ((kk : Int) < (K : Int)) = true := by simp; omega
              have g2 : (kk : Int) < (K : Int) := by omega
              obtain ⟨k1', hk1⟩ : ∃ k1 : Nat, k1 = kk + 1 := ⟨_, rfl⟩
              obtain ⟨k2', hk2⟩ : ∃ k2 : Nat, k2 = kk + 2 := ⟨_, rfl⟩
              have ad4 : IntKind.i64.wrap ((kk : Int) + 1) = (k1' : Int) := by simp [IntKind.wrap, IntKind.bits, IntKind.signed]; omega
              have ad5 : IntKind.i64.wrap ((kk : Int) + 2) = (k2' : Int) := by simp [IntKind.wrap, IntKind.bits, IntKind.signed]; omega
              have g3 : (k1' : Int) < (K : Int) := by omega
              have x1 := (BB.out.cell (p := ⟨cb, kk, none⟩) HBL.out).trans (HV2.out kk hlk)
              have x2 := (BB.out.cell (p := ⟨cb, k1', none⟩) HBL.out).trans (HV2.out k1' (by omega))
              have hg := HGR.out j hj2 (by omega)
              rw [← hj1, ← hk1] at hg
              have v0' := (BB.out.cell (p := ⟨b, c * 2, none⟩) HBBB.out).trans v0
              have y1' := (BB.out.cell (p := ⟨w.heap.size + 1, 1, none⟩) (by show w.heap.size + 1 < WR.heap.size; have := HBB.out.size; omega)).trans y1
              have HJ2 : Hid (∃ j, k2' = 2 * j ∧ 1 ≤ j) := ⟨j + 1, by omega, by omega⟩
              have HK2 := hid hk2
              obtain ⟨X, hX⟩ : ∃ X, X = cp.getD kk 0 := ⟨_, rfl⟩
              obtain ⟨Y, hY⟩ : ∃ Y, Y = cp.getD k1' 0 := ⟨_, rfl⟩
              rw [← hX] at x1 hg
              rw [← hY] at x2 hg
              clear hj1 hj2 hX hY hk1 hk2 HJ
              rcases hg with ⟨rfl, rfl⟩ | ⟨q1, q2, q3⟩
              · go_wp2
                exact ⟨⟨k2', rfl, by have := HK2.out; have := HK.out; obtain ⟨j, hj, _⟩ := HJ2.out; omega, HJ2, BB⟩, by have := HK2.out; simp [intOf]; omega⟩
              · have r1 : (X == -1) = false := by simp; omega
                have r2 : decide (X < (p : Int)) = false := by simp; omega
                have r3 : decide (X > Y) = false := by simp; omega
                have r3' : decide (Y < X) = false := by simp; omega
                have r4 : decide (Y > E) = false := by simp; omega
                have r4' : decide (E < Y) = false := by simp; omega
                clear q1 q2 q3
                go_wp2_with fail
                go_quiet (fail)
                go_wp2
                exact ⟨⟨k2', rfl, by have := HK2.out; have := HK.out; obtain ⟨j, hj, _⟩ := HJ2.out; omega, HJ2, by exact below_drewN BB.out _⟩, by have := HK2.out; simp [intOf]; omega⟩
            · have g1 : decide ((kk : Int) < (K : Int)) = false := by simp; omega
              go_wp2
              exact ⟨⟨c + 1, by push_cast; rfl, by omega, by exact HP.out.kept BB.out, by exact HBB.out.trans (Joins.below_le BB.out (by have := HBB.out.size; omega))⟩, by simp [intOf]; omega⟩
        · have c1 : decide ((c : Int) < (m : Int)) = false := by simp; omega
          go_wp2
          go_ret
          exact ⟨rfl, HX.out _ HBB.out⟩
end Go.Proofs.Ytnpocciioedgpaa
