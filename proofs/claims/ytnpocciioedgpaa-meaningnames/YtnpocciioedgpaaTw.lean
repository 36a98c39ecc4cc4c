/- HELPERS: the example's tree in memory: its greatest index, its size, its census, its ways. -/
import Derived.Test.YtnpocciioedgpaaBf
import Derived.Test.YtnpocciioedgpaaSb
import Derived.Test.YtnpocciioedgpaaEv
namespace Go.Proofs.Ytnpocciioedgpaa
open Go.RowKit
set_option linter.unusedVariables false
set_option linter.unusedSimpArgs false
abbrev nE : Nd := ⟨none, 0, 0, 0, none, 0, 0, 0, 0, false, 0, E0⟩
abbrev nC (rb : Nat) : Nd := ⟨some ⟨rb, 0, none⟩, 1, 1, 0, none, 0, 0, 0, 0, false, 0, E0⟩
abbrev nA (sb : Nat) : Nd := ⟨none, 0, 0, 0, some ⟨sb, 0, none⟩, 2, 2, 0, 0, false, 0, E0⟩
abbrev nG (sb : Nat) : Nd := ⟨none, 0, 0, 0, some ⟨sb, 0, none⟩, 1, 1, 0, 0, false, 1, E0⟩
abbrev nR (sb : Nat) : Nd := ⟨none, 0, 0, 0, some ⟨sb, 0, none⟩, 1, 1, 1, -1, false, 0, E0⟩
/-- the example's lists: the class's ranges, what is below the alternatives, the group, the count -/
structure Tre (w : World) (rb s1 s2 s3 : Nat) : Prop where
  r : w.heap[rb]? = some (.cells #[.int .i64 97, .int .i64 97] 70 (0, 0))
  c0 : C9 w s1 0 nE 1
  c1 : C9 w s1 1 (nC rb) 2
  c2 : C9 w s2 0 (nA s1) 5
  c3 : C9 w s3 0 (nG s2) 7
  l1 : s1 < w.heap.size
  l2 : s2 < w.heap.size
  l3 : s3 < w.heap.size
theorem Tre.kept {w w' : World} {rb s1 s2 s3 : Nat} (h : Tre w rb s1 s2 s3) (hs : w.heap.size ≤ w'.heap.size) (hk : ∀ k, k = rb ∨ k = s1 ∨ k = s2 ∨ k = s3 → w'.heap[k]? = w.heap[k]?) : Tre w' rb s1 s2 s3 :=
  ⟨(hk rb (by simp)).trans h.r, h.c0.kept (hk s1 (by simp)), h.c1.kept (hk s1 (by simp)), h.c2.kept (hk s2 (by simp)), h.c3.kept (hk s3 (by simp)), by have := h.l1; omega, by have := h.l2; omega, by have := h.l3; omega⟩
theorem Tre.lr {w : World} {rb s1 s2 s3 : Nat} (h : Tre w rb s1 s2 s3) : rb < w.heap.size := (Array.getElem?_eq_some_iff.1 h.r).1
theorem Tre.below {w w' : World} {rb s1 s2 s3 : Nat} (h : Tre w rb s1 s2 s3) (hb : Below w.heap.size w w') : Tre w' rb s1 s2 s3 :=
  h.kept hb.size fun k hk => hb.block k (by have := h.lr; have := h.l1; have := h.l2; have := h.l3; omega)
theorem Tre.chg {w w' : World} {rb s1 s2 s3 g : Nat} (h : Tre w rb s1 s2 s3) (hb : Chg w w' [g] [g]) (hg : g ≠ rb ∧ g ≠ s1 ∧ g ≠ s2 ∧ g ≠ s3) : Tre w' rb s1 s2 s3 :=
  h.kept hb.size fun k hk => hb.block k (by have := h.lr; have := h.l1; have := h.l2; have := h.l3; omega) (by simp; omega)
def ND1 (rb : Nat) : Nat → Nd := fun i => if i = 0 then nE else nC rb
def KD1 : Nat → Int := fun i => if i = 0 then 1 else 2
theorem kids0 (w : World) (N : Nd) (h : N.s2 = 0) : Kids w N 0 0 (fun _ => nE) (fun _ => 0) := ⟨h, by omega, fun h => by omega, fun i hi => by omega⟩
theorem Tre.kA {w : World} {rb s1 s2 s3 : Nat} (h : Tre w rb s1 s2 s3) : Kids w (nA s1) 2 s1 (ND1 rb) KD1 := ⟨rfl, by omega, fun _ => ⟨rfl, by show 2 ≤ 2; omega, h.l1⟩, fun i hi => by
  match i, hi with
  | 0, _ => exact h.c0
  | 1, _ => exact h.c1⟩
theorem Tre.kG {w : World} {rb s1 s2 s3 : Nat} (h : Tre w rb s1 s2 s3) : Kids w (nG s2) 1 s2 (fun _ => nA s1) (fun _ => 5) := ⟨rfl, by omega, fun _ => ⟨rfl, by show 1 ≤ 1; omega, h.l2⟩, fun i hi => by
  match i, hi with
  | 0, _ => exact h.c2⟩
theorem Tre.kR {w : World} {rb s1 s2 s3 : Nat} (h : Tre w rb s1 s2 s3) : Kids w (nR s3) 1 s3 (fun _ => nG s2) (fun _ => 7) := ⟨rfl, by omega, fun _ => ⟨rfl, by show 1 ≤ 1; omega, h.l3⟩, fun i hi => by
  match i, hi with
  | 0, _ => exact h.c3⟩
/-! the greatest index -/
theorem gE (w : World) : Calls Try.prog 52 #[nE.v 1] w fun e w' => e = .returned (.int .i64 0) ∧ Below w.heap.size w w' := greatest52 nE 1 0 0 (fun _ => nE) (fun _ => 0) (fun _ => 0) (fun _ => 0) w (kids0 w nE rfl) rfl (fun i hi => by omega) (fun i hi => by omega)
theorem gC (rb : Nat) (w : World) : Calls Try.prog 52 #[(nC rb).v 2] w fun e w' => e = .returned (.int .i64 0) ∧ Below w.heap.size w w' := greatest52 (nC rb) 2 0 0 (fun _ => nE) (fun _ => 0) (fun _ => 0) (fun _ => 0) w (kids0 w (nC rb) rfl) rfl (fun i hi => by omega) (fun i hi => by omega)
theorem gA {w : World} {rb s1 s2 s3 : Nat} (h : Tre w rb s1 s2 s3) : Calls Try.prog 52 #[(nA s1).v 5] w fun e w' => e = .returned (.int .i64 0) ∧ Below w.heap.size w w' := greatest52 (nA s1) 5 2 s1 (ND1 rb) KD1 (fun _ => 0) (fun _ => 0) w h.kA rfl (fun i hi => by decide) (fun i hi w' hb => by
  match i, hi with
  | 0, _ => exact gE w'
  | 1, _ => exact gC rb w')
theorem gG {w : World} {rb s1 s2 s3 : Nat} (h : Tre w rb s1 s2 s3) : Calls Try.prog 52 #[(nG s2).v 7] w fun e w' => e = .returned (.int .i64 1) ∧ Below w.heap.size w w' := greatest52 (nG s2) 7 1 s2 (fun _ => nA s1) (fun _ => 5) (fun _ => 0) (fun _ => 1) w h.kG rfl (fun i hi => by decide) (fun i hi w' hb => gA (h.below hb))
theorem gR {w : World} {rb s1 s2 s3 : Nat} (h : Tre w rb s1 s2 s3) : Calls Try.prog 52 #[(nR s3).v 6] w fun e w' => e = .returned (.int .i64 1) ∧ Below w.heap.size w w' := greatest52 (nR s3) 6 1 s3 (fun _ => nG s2) (fun _ => 7) (fun _ => 1) (fun i => if i = 0 then 0 else 1) w h.kR rfl (fun i hi => by match i, hi with | 0, _ => decide) (fun i hi w' hb => gG (h.below hb))
/-! the size -/
theorem zE (w : World) : Calls Try.prog 30 #[nE.v 1] w fun e w' => e = .returned (.int .i64 1) ∧ Below w.heap.size w w' := size30 nE 1 0 0 (fun _ => nE) (fun _ => 0) (fun _ => 0) (fun _ => 0) 1 w (kids0 w nE rfl) rfl (fun i hi => by omega) (fun i hi => by decide) (.inl ⟨by decide, by decide⟩) (fun i hi => by omega)
theorem zC (rb : Nat) (w : World) : Calls Try.prog 30 #[(nC rb).v 2] w fun e w' => e = .returned (.int .i64 1) ∧ Below w.heap.size w w' := size30 (nC rb) 2 0 0 (fun _ => nE) (fun _ => 0) (fun _ => 0) (fun _ => 0) 1 w (kids0 w (nC rb) rfl) rfl (fun i hi => by omega) (fun i hi => by decide) (.inl ⟨by decide, by decide⟩) (fun i hi => by omega)
theorem zA {w : World} {rb s1 s2 s3 : Nat} (h : Tre w rb s1 s2 s3) : Calls Try.prog 30 #[(nA s1).v 5] w fun e w' => e = .returned (.int .i64 3) ∧ Below w.heap.size w w' := size30 (nA s1) 5 2 s1 (ND1 rb) KD1 (fun _ => 1) (fun i => (i : Int)) 3 w h.kA rfl (fun i hi => by push_cast; rfl) (fun i hi => by constructor <;> omega) (.inl ⟨by decide, by decide⟩) (fun i hi w' hb => by
  match i, hi with
  | 0, _ => exact zE w'
  | 1, _ => exact zC rb w')
theorem zG {w : World} {rb s1 s2 s3 : Nat} (h : Tre w rb s1 s2 s3) : Calls Try.prog 30 #[(nG s2).v 7] w fun e w' => e = .returned (.int .i64 4) ∧ Below w.heap.size w w' := size30 (nG s2) 7 1 s2 (fun _ => nA s1) (fun _ => 5) (fun _ => 3) (fun i => 3 * (i : Int)) 4 w h.kG rfl (fun i hi => by push_cast; omega) (fun i hi => by constructor <;> omega) (.inl ⟨by decide, by decide⟩) (fun i hi w' hb => zA (h.below hb))
theorem zR {w : World} {rb s1 s2 s3 : Nat} (h : Tre w rb s1 s2 s3) : Calls Try.prog 30 #[(nR s3).v 6] w fun e w' => e = .returned (.int .i64 5) ∧ Below w.heap.size w w' := size30 (nR s3) 6 1 s3 (fun _ => nG s2) (fun _ => 7) (fun _ => 4) (fun i => 4 * (i : Int)) 5 w h.kR rfl (fun i hi => by push_cast; omega) (fun i hi => by constructor <;> omega) (.inr ⟨rfl, rfl, rfl, by decide⟩) (fun i hi w' hb => zG (h.below hb))
/-! the census -/
theorem Tre.row {w : World} {rb s1 s2 s3 : Nat} (h : Tre w rb s1 s2 s3) : w.ownsRow 0 70 2 (.slice (some ⟨rb, 0, none⟩) 1 1) ([(97, 97)] : Rng).length (fl [(97, 97)]) :=
  ⟨rfl, .inr ⟨rb, 1, #[.int .i64 97, .int .i64 97], rfl, Nat.zero_le _, h.r, Nat.le_refl _, by unfold maxLen; omega, rfl, rfl⟩⟩
/-- a census block -/
abbrev Cs (w : World) (c : Nat) (n : Int) : Prop := w.heap[c]? = some (.cells #[.int .i64 n] 80 (0, 0))
theorem tE (c : Nat) (d : Int) (w : World) (cnt : Int) (hc : Cs w c cnt) (hcb : 0 ≤ cnt ∧ cnt < 200000) (hd : 0 ≤ d ∧ d ≤ 10000) : Calls Try.prog 48 #[pt c, nE.v 1, .int .i64 d] w fun e w' => e = .returned (.bool true) ∧ Chg w w' [c] [c] ∧ Cs w' c (cnt + 1) :=
  takes48 c nE 1 0 0 (fun _ => nE) (fun _ => 0) (fun _ => cnt + 1) cnt d w (kids0 w nE rfl) hc (by exact rfl) hcb hd (fun h => by omega) (fun w' _ => sound_empty w') (fun i hi => by omega)
theorem tC {w : World} {rb s1 s2 s3 : Nat} (h : Tre w rb s1 s2 s3) (c : Nat) (d cnt : Int) (hc : Cs w c cnt) (hcr : c ≠ rb ∧ c ≠ s1 ∧ c ≠ s2 ∧ c ≠ s3) (hcb : 0 ≤ cnt ∧ cnt < 200000) (hd : 0 ≤ d ∧ d ≤ 10000) : Calls Try.prog 48 #[pt c, (nC rb).v 2, .int .i64 d] w fun e w' => e = .returned (.bool true) ∧ Chg w w' [c] [c] ∧ Cs w' c (cnt + 1) :=
  takes48 c (nC rb) 2 0 0 (fun _ => nE) (fun _ => 0) (fun _ => cnt + 1) cnt d w (kids0 w (nC rb) rfl) hc (by exact rfl) hcb hd (fun h => by omega) (fun w' hw => sound_class 0 (some ⟨rb, 0, none⟩) 1 1 [(97, 97)] w' (h.chg hw hcr).row rfl (by decide)) (fun i hi => by omega)
theorem tA {w : World} {rb s1 s2 s3 : Nat} (h : Tre w rb s1 s2 s3) (c : Nat) (hc : Cs w c 2) (hcr : c ≠ rb ∧ c ≠ s1 ∧ c ≠ s2 ∧ c ≠ s3) : Calls Try.prog 48 #[pt c, (nA s1).v 5, .int .i64 3] w fun e w' => e = .returned (.bool true) ∧ Chg w w' [c] [c] ∧ Cs w' c 5 :=
  takes48 c (nA s1) 5 2 s1 (ND1 rb) KD1 (fun i => match i with | 0 => 3 | 1 => 4 | _ => 5) 2 3 w h.kA hc (by exact rfl) ⟨by omega, by omega⟩ ⟨by omega, by omega⟩ (fun _ => hcr.2.1.symm) (fun w' _ => sound_alt _ 2 2 w' (by omega) (by omega)) (fun i hi w' hw hc' => by
    match i, hi with
    | 0, _ => exact tE c 4 w' 3 hc' ⟨by omega, by omega⟩ ⟨by omega, by omega⟩
    | 1, _ => exact tC (h.chg hw hcr) c 4 4 hc' hcr ⟨by omega, by omega⟩ ⟨by omega, by omega⟩)
theorem tG {w : World} {rb s1 s2 s3 : Nat} (h : Tre w rb s1 s2 s3) (c : Nat) (hc : Cs w c 1) (hcr : c ≠ rb ∧ c ≠ s1 ∧ c ≠ s2 ∧ c ≠ s3) : Calls Try.prog 48 #[pt c, (nG s2).v 7, .int .i64 2] w fun e w' => e = .returned (.bool true) ∧ Chg w w' [c] [c] ∧ Cs w' c 5 :=
  takes48 c (nG s2) 7 1 s2 (fun _ => nA s1) (fun _ => 5) (fun i => match i with | 0 => 2 | _ => 5) 1 2 w h.kG hc (by exact rfl) ⟨by omega, by omega⟩ ⟨by omega, by omega⟩ (fun _ => hcr.2.2.1.symm) (fun w' _ => sound_group _ 1 w') (fun i hi w' hw hc' => by
    match i, hi with
    | 0, _ => exact tA (h.chg hw hcr) c hc' hcr)
theorem tR {w : World} {rb s1 s2 s3 : Nat} (h : Tre w rb s1 s2 s3) (c : Nat) (hc : Cs w c 0) (hcr : c ≠ rb ∧ c ≠ s1 ∧ c ≠ s2 ∧ c ≠ s3) : Calls Try.prog 48 #[pt c, (nR s3).v 6, .int .i64 1] w fun e w' => e = .returned (.bool true) ∧ Chg w w' [c] [c] ∧ Cs w' c 5 :=
  takes48 c (nR s3) 6 1 s3 (fun _ => nG s2) (fun _ => 7) (fun i => match i with | 0 => 1 | _ => 5) 0 1 w h.kR hc (by exact rfl) ⟨by omega, by omega⟩ ⟨by omega, by omega⟩ (fun _ => hcr.2.2.2.symm) (fun w' _ => sound_rep _ 1 w') (fun i hi w' hw hc' => by
    match i, hi with
    | 0, _ => exact tG (h.chg hw hcr) c hc' hcr)
theorem sR {w : World} {rb s1 s2 s3 : Nat} (h : Tre w rb s1 s2 s3) : Calls Try.prog 29 #[(nR s3).v 6] w fun e w' => e = .returned (.int .i64 0) ∧ Below w.heap.size w w' :=
  sound29 (nR s3) 6 5 w fun c w' hb hcl hc => tR (h.below hb) c hc (by have := h.lr; have := h.l1; have := h.l2; have := h.l3; omega)
/-! the ways -/
theorem Mk.weaken {g K : Nat} {L : List Nat} {w w' : World} {A : Six} {n' : Int} {v : Value} {W : Way} {F0 F1 F : List Nat} (h : Mk g K L w w' A n' v W F0 F) (hF : ∀ k ∈ F0, k ∈ F1) : Mk g K L w w' A n' v W F1 F := ⟨h.rep, h.ob, h.chg, fun k hk => (h.new k hk).imp_left (hF k)⟩
theorem wA {w : World} {rb s1 s2 s3 g b : Nat} {A : Six} {D : Way} (h : Tre w rb s1 s2 s3) (hg : g ≠ rb ∧ g ≠ s1 ∧ g ≠ s2 ∧ g ≠ s3) (F0 : List Nat) :
    Sub g 4 [b] A 2 5 (nA s1) 5 D (.once 5 (.inOrder [.once 3 D, .once 4 (.runeOf [(97, 97)] D)])) [rb] F0 w := by
  intro w' v F1 hc hO hR hgF hn
  obtain ⟨f, fi, ca, rfl⟩ := hR.form
  have h' := h.chg hc hg
  refine begin_alt g 4 2 s1 2 [b] A (fun i => 2 + (i : Int)) (fun i => if i = 0 then .once 3 D else .once 4 (.runeOf [(97, 97)] D)) ([rb] ++ F1) (ND1 rb) KD1 (nA s1) f fi ca w' hO (by simp; exact ⟨hg.1, hgF⟩) (fun k hk => by simp at hk; rcases hk with rfl | hk; exact h'.lr; exact hR.low k hk) h'.l1 hg.2.1.symm (by omega) (by omega) (fun i hi => h'.kA.cells i hi) ⟨rfl, rfl, rfl⟩ ⟨by show (0 : Int) ≤ 2 + 2; omega, by show (2 : Int) + 2 < 1000000000; omega⟩ ?_
  intro i hi w3 hc3 hO3
  have hR3 : Rep g 4 [b] w3 (.func (.func f) fi ca) D F1 := hR.kept fun k hk => hc3.block k (hR.low k hk) (by simp; intro e; exact hgF (e ▸ hk))
  match i, hi with
  | 0, _ => exact Calls.mono (begin_empty g 4 [b] A 2 nE _ D F1 w3 hO3 hR3 hgF ⟨by omega, by omega⟩) fun e w4 ⟨u, F, he, hM⟩ => ⟨u, F, he, hM.weaken fun k hk => by simp [hk]⟩
  | 1, _ => exact begin_class g 4 0 [b] A 3 (nC rb) [(97, 97)] _ D F1 w3 hO3 hR3 hgF ⟨by omega, by omega⟩ ((h'.chg hc3 hg).row) (fun k hk => by simp [Value.ownBlock] at hk; subst hk; exact hg.1.symm)
theorem wG {w : World} {rb s1 s2 s3 g b : Nat} {A : Six} {D : Way} (h : Tre w rb s1 s2 s3) (hg : g ≠ rb ∧ g ≠ s1 ∧ g ≠ s2 ∧ g ≠ s3) (F0 : List Nat) :
    Sub g 4 [b] A 2 6 (nG s2) 7 D (.once 6 (.noted 2 (.once 5 (.inOrder [.once 3 (.noted 3 D), .once 4 (.runeOf [(97, 97)] (.noted 3 D))])))) [rb] F0 w := by
  intro w' v F1 hc hO hR hgF hn
  have h' := h.chg hc hg
  exact begin_group g 4 1 s2 1 [b] A 2 5 (nG s2) (nA s1) 5 D _ [rb] F1 v w' hO hR hgF (by simp; exact hg.1) (by omega) (by omega) ⟨rfl, rfl, rfl, rfl⟩ (by omega) h'.l2 hg.2.2.1.symm h'.c2 ⟨by omega, by omega⟩ (wA h' hg F1)
end Go.Proofs.Ytnpocciioedgpaa
