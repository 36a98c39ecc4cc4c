/- HELPERS: forms in memory; the small calls that make them. -/
import Derived.Test.YtdidopgenhpakaaSa
import Derived.Test.YtdidopgenhpakaaTk
import Derived.Test.YtdidopgenhpakaaTt
import Derived.Deep.RegionHeld2
import Derived.Lib.MinMax
namespace Go.Proofs.Ytdidopgenhpakaa
open Go.RowKit
set_option linter.unusedVariables false
set_option linter.unusedSimpArgs false
/-- the cells of a form -/
abbrev FV (N : Nv) (ev : Value) (n d : Int) : Array Value := #[.int .i64 N.k, .slice N.r1 N.r2 N.r3, .int .i64 N.a2, .slice N.s1 N.s2 N.s3, .int .i64 N.a4, .int .i64 N.a5, .bool N.a6, .int .i64 N.a7, .string N.a8, ev, .int .i64 n, .int .i64 d]
def FC (w : World) (f : Nat) (N : Nv) (ev : Value) (t : Tn) : Prop := w.heap[f]? = some (.cells (FV N ev ((capN t.nodes : Nat) : Int) ((t.depth : Nat) : Int)) 60 (0, 0))
/-- the node of a row; of a loop or a group -/
abbrev NK (k : Int) : Nv := ⟨k, none, 0, 0, 0, none, 0, 0, 0, 0, false, 0, ⟨#[]⟩⟩
abbrev NO (k mn mx : Int) (lz : Bool) (ix : Int) (nm : ByteArray) : Nv := ⟨k, none, 0, 0, 0, none, 0, 0, mn, mx, lz, ix, nm⟩
/-- the blocks of A, and those that are new -/
def New (A : Nat → Prop) (w w' : World) : Nat → Prop := fun b => A b ∨ w.heap.size ≤ b ∧ b < w'.heap.size
theorem New.old {A : Nat → Prop} {w w' : World} {b : Nat} (h : A b) : New A w w' b := .inl h
theorem New.more {A : Nat → Prop} {w w' v v' : World} {b : Nat} (h : New A v v' b) (h1 : w.heap.size ≤ v.heap.size) (h2 : v'.heap.size ≤ w'.heap.size) : New A w w' b := by
  rcases h with h | h
  · exact .inl h
  · exact .inr ⟨by omega, by omega⟩
theorem New.trans {A : Nat → Prop} {w v v' w' : World} {b : Nat} (h : New (New A w v) v' w' b) (h1 : v.heap.size ≤ w'.heap.size) (h2 : w.heap.size ≤ v'.heap.size) : New A w w' b := by
  rcases h with (h | h) | h
  · exact .inl h
  · exact .inr ⟨by omega, by omega⟩
  · exact .inr ⟨by omega, by omega⟩
theorem New.low {A : Nat → Prop} {w w' : World} (hA : ∀ b, A b → b < w.heap.size) (h1 : w.heap.size ≤ w'.heap.size) : ∀ b, New A w w' b → b < w'.heap.size := fun b h => by
  rcases h with h | h
  · have := hA b h; omega
  · omega
/-- a row of runs -/
def RV (w : World) (A : Nat → Prop) (ad : Option Addr) (fs : Nat → Nat) (l : List (Tn × Nat)) : Prop :=
  0 < l.length → ∃ b o, ad = some ⟨b, o, none⟩ ∧ A b ∧ ∀ i (hi : i < l.length), w.cell? ⟨b, o + i * 2, none⟩ = some (pt (fs i)) ∧ w.cell? ⟨b, o + i * 2 + 1, none⟩ = some (.int .i64 (l[i].2 : Int))
/-- a form lies in memory, in blocks of A -/
inductive FA (w : World) (A : Nat → Prop) : Nat → Tn → Prop
  | leaf {f : Nat} {N : Nv} {R : List (Int × Int)} (hf : A f) (hc : FC w f N (.func (.func 68) #[] #[]) (.mk N.k R N.a2 [] N.a4 N.a5 N.a6 N.a7 N.a8)) (ok : N.ok) (hr : N.r2 = R.length) (hR : RP w A N.r1 R) (hRk : ∀ x ∈ R, I64ok x.1 ∧ I64ok x.2) (h5 : R.length ≤ 5000) :
      FA w A f (.mk N.k R N.a2 [] N.a4 N.a5 N.a6 N.a7 N.a8)
  | over {f b g : Nat} {k mn mx ix : Int} {lz : Bool} {nm : ByteArray} {s : Tn} (hf : A f) (hc : FC w f (NO k mn mx lz ix nm) (.func (.func 67) #[] #[pt b]) (.mk k [] 0 [s] mn mx lz ix nm)) (ok : (NO k mn mx lz ix nm).ok) (hb : Bx w b 55 (pt g)) (hbB : A b) (hs : FA w A g s) :
      FA w A f (.mk k [] 0 [s] mn mx lz ix nm)
  | row {f b1 b2 : Nat} {k : Int} {ad : Option Addr} {c : Nat} {fs : Nat → Nat} {l : List (Tn × Nat)} (hf : A f) (hc : FC w f (NK k) (.func (.func 63) #[] #[pt b1, pt b2]) (rowT k l)) (hk : k = 4 ∨ k = 5) (h1 : Bx w b1 74 (.slice ad l.length c)) (h2 : Bx w b2 3 (.int .i64 k)) (hb1 : A b1) (hb2 : A b2)
      (hv : RV w A ad fs l) (ht : ∀ x ∈ l, 0 < x.2 ∧ x.2 ≤ 1000) (hl : l.length ≤ 200000) (hs : ∀ i (hi : i < l.length), FA w A (fs i) l[i].1) : FA w A f (rowT k l)
  | opt {f b1 b2 b3 g n : Nat} {lz : Bool} {y : Tn} (hf : A f) (hc : FC w f (NO 6 0 1 lz 0 ⟨#[]⟩) (.func (.func 95) #[] #[pt b1, pt b2, pt b3]) (optT y lz (n + 2))) (h1 : Bx w b1 55 (pt g)) (h2 : Bx w b2 3 (.int .i64 ((n + 2 : Nat) : Int))) (h3 : Bx w b3 4 (.bool lz)) (hb1 : A b1) (hb2 : A b2) (hb3 : A b3) (hn : n + 2 ≤ 1000) (hd : y.depth ≤ 1000000000) (hs : FA w A g y) : FA w A f (optT y lz (n + 2))
theorem FC.kept {w w' : World} {f : Nat} {N : Nv} {ev : Value} {t : Tn} (h : FC w f N ev t) (hk : w'.heap[f]? = w.heap[f]?) : FC w' f N ev t := hk.trans h
theorem RV.kept {w w' : World} {A A' : Nat → Prop} {ad : Option Addr} {fs : Nat → Nat} {l : List (Tn × Nat)} (h : RV w A ad fs l) (hk : ∀ b, A b → w'.heap[b]? = w.heap[b]?) (hA : ∀ b, A b → A' b) : RV w' A' ad fs l := fun hp => by
  obtain ⟨b, o, h1, h2, h3⟩ := h hp
  exact ⟨b, o, h1, hA b h2, fun i hi => ⟨(cell_eq (hk b h2) _).trans (h3 i hi).1, (cell_eq (hk b h2) _).trans (h3 i hi).2⟩⟩
theorem FA.kept {w w' : World} {A A' : Nat → Prop} {f : Nat} {t : Tn} (h : FA w A f t) (hk : ∀ b, A b → w'.heap[b]? = w.heap[b]?) (hA : ∀ b, A b → A' b) : FA w' A' f t := by
  induction h with
  | leaf hf hc ok hr hR hRk h5 => exact .leaf (hA _ hf) (hc.kept (hk _ hf)) ok hr (hR.kept hk hA) hRk h5
  | over hf hc ok hb hbB hs ih => exact .over (hA _ hf) (hc.kept (hk _ hf)) ok ((hk _ hbB).trans hb) (hA _ hbB) ih
  | row hf hc hkk h1 h2 hb1 hb2 hv ht hl hs ih => exact .row (hA _ hf) (hc.kept (hk _ hf)) hkk ((hk _ hb1).trans h1) ((hk _ hb2).trans h2) (hA _ hb1) (hA _ hb2) (hv.kept hk hA) ht hl ih
  | opt hf hc h1 h2 h3 hb1 hb2 hb3 hn hd hs ih => exact .opt (hA _ hf) (hc.kept (hk _ hf)) ((hk _ hb1).trans h1) ((hk _ hb2).trans h2) ((hk _ hb3).trans h3) (hA _ hb1) (hA _ hb2) (hA _ hb3) hn hd ih
theorem FA.up {w w' : World} {A A' : Nat → Prop} {f : Nat} {t : Tn} (h : FA w A f t) (hL : ∀ b, A b → b < w.heap.size) (hb : Below w.heap.size w w') (hA : ∀ b, A b → A' b) : FA w' A' f t := h.kept (fun b hA => hb.block b (hL b hA)) hA
/-- whatever form it is: where it lies, its kind, its numbers -/
theorem FA.cells {w : World} {A : Nat → Prop} {f : Nat} {t : Tn} (h : FA w A f t) : A f ∧ ∃ N ev, FC w f N ev t ∧ N.k = t.kind := by
  cases h with
  | leaf hf hc ok hr hR hRk h5 => exact ⟨hf, _, _, hc, rfl⟩
  | over hf hc ok hb hbB hs => exact ⟨hf, _, _, hc, rfl⟩
  | row hf hc hkk h1 h2 hb1 hb2 hv ht hl hs => exact ⟨hf, _, _, hc, rfl⟩
  | opt hf hc h1 h2 h3 hb1 hb2 hb3 hn hd hs => exact ⟨hf, _, _, hc, (optT_kind _ _ _).symm⟩
theorem FC.num {w : World} {f : Nat} {N : Nv} {ev : Value} {t : Tn} (h : FC w f N ev t) : w.cell? ⟨f, 0, none⟩ = some (.int .i64 N.k) ∧ w.cell? ⟨f, 9, none⟩ = some ev ∧ w.cell? ⟨f, 10, none⟩ = some (.int .i64 ((capN t.nodes : Nat) : Int)) ∧ w.cell? ⟨f, 11, none⟩ = some (.int .i64 ((t.depth : Nat) : Int)) :=
  ⟨Joins.cell_of_block h 0, Joins.cell_of_block h 9, Joins.cell_of_block h 10, Joins.cell_of_block h 11⟩
theorem atMost62 (n : Nat) (w : World) (hn : n ≤ 4611686018427387904) : Calls Try.prog 62 #[.int .i64 (n : Int)] w fun e w' => e = .returned (.int .i64 ((capN n : Nat) : Int)) ∧ w' = w := by
  have e : ((capN n : Nat) : Int) = min (n : Int) 200001 := by unfold capN; omega
  rw [e]
  go_enter Try.func62, Try.ntmps62
  go_wp2
  all_goals go_ret
  all_goals exact ⟨rfl, rfl⟩
set_option maxRecDepth 100000 in
set_option maxHeartbeats 4000000 in
theorem leaf48 (A : Nat → Prop) (N : Nv) (R : List (Int × Int)) (w : World) (ok : N.ok) (hr : N.r2 = R.length) (hA : ∀ b, A b → b < w.heap.size) (hR : RP w A N.r1 R) (hRk : ∀ x ∈ R, I64ok x.1 ∧ I64ok x.2) (h5 : R.length ≤ 5000) : Calls Try.prog 48 #[N.v] w fun e w' => ∃ f, e = .returned (pt f) ∧ FA w' (New A w w') f (.mk N.k R N.a2 [] N.a4 N.a5 N.a6 N.a7 N.a8) ∧ Below w.heap.size w w' := by
  have hb := below_two' w (.cells #[.int .i64 N.k, .slice N.r1 N.r2 N.r3, .int .i64 N.a2, .slice N.s1 N.s2 N.s3, .int .i64 N.a4, .int .i64 N.a5, .bool N.a6, .int .i64 N.a7, .string N.a8] 25) (.cells (FV N (.func (.func 68) #[] #[]) 1 1) 60)
  have hn := two_new w (.cells #[.int .i64 N.k, .slice N.r1 N.r2 N.r3, .int .i64 N.a2, .slice N.s1 N.s2 N.s3, .int .i64 N.a4, .int .i64 N.a5, .bool N.a6, .int .i64 N.a7, .string N.a8] 25) (FV N (.func (.func 68) #[] #[]) 1 1) 60
  have HB := hid hb
  have HN := hid hn
  have HOK := hid ok
  have HR := hid hR
  have HRL := hid hr
  have HAA := hid hA
  clear hb hn ok hR hr hA
  go_enter Try.func48, Try.ntmps48
  go_wp2
  all_goals go_ret
  all_goals refine ⟨w.heap.size + 1, rfl, ?_, HB.out⟩
  all_goals exact .leaf (.inr ⟨by omega, by simp⟩) HN.out HOK.out HRL.out (HR.out.kept (fun b hb => HB.out.block b (HAA.out b hb)) (fun b hb => .inl hb)) hRk h5
theorem ok_NO (k mn mx : Int) (lz : Bool) (ix : Int) (nm : ByteArray) (hk : I64ok k) (h1 : I64ok mn) (h2 : I64ok mx) (h3 : I64ok ix) (h4 : nm.size ≤ maxLen) : (NO k mn mx lz ix nm).ok :=
  ⟨hk, by constructor <;> simp, h1, h2, h3, h4, ⟨Nat.le_refl _, Nat.zero_le _⟩, ⟨Nat.le_refl _, Nat.zero_le _⟩⟩
theorem empty61 (A : Nat → Prop) (w : World) : Calls Try.prog 61 #[] w fun e w' => ∃ f, e = .returned (pt f) ∧ FA w' (New A w w') f emptyT ∧ Below w.heap.size w w' := by
  have HC := leaf48 (fun _ => False) (NK 1) [] w (ok_NO 1 0 0 false 0 ⟨#[]⟩ (by decide) (by decide) (by decide) (by decide) (Nat.zero_le _)) rfl (fun b h => h.elim) (fun h => absurd rfl h) (fun x hx => by cases hx) (by simp)
  go_enter Try.func61, Try.ntmps61
  go_wp2_with (first | (go_at_call 48; (with_reducible refine HC.mono ?_); rintro e w1 ⟨f, rfl, hf, hb⟩; have HF := hid hf; have HB := hid hb; clear hf hb HC))
  all_goals go_ret
  all_goals exact ⟨f, rfl, HF.out.kept (fun _ _ => rfl) (fun b hb => .inr (by rcases hb with h | h; exact h.elim; exact h)), HB.out⟩
set_option maxRecDepth 100000 in
set_option maxHeartbeats 4000000 in
theorem loop66 (mn mx : Int) (lz : Bool) (w : World) : Calls Try.prog 66 #[.int .i64 mn, .int .i64 mx, .bool lz] w fun e w' => e = .returned (NO 6 mn mx lz 0 ⟨#[]⟩).v ∧ Below w.heap.size w w' := by
  go_enter Try.func66, Try.ntmps66
  go_wp2
  all_goals refine bodyPost_ret (results_cell_row rfl _ _ w.heap.size 25 _ (0, 0) _ rfl (heap_alloc_new w _) Try.underlying25 rfl (by kernel_rfl)) rfl ⟨rfl, Joins.below_alloc1 w _⟩
theorem below_drew (w : World) : Below w.heap.size w w.drew := ⟨rfl, rfl, rfl, Nat.le_refl _, fun _ _ => rfl⟩
set_option maxRecDepth 100000 in
set_option maxHeartbeats 4000000 in
theorem over47 (A : Nat → Prop) (k mn mx : Int) (lz : Bool) (ix : Int) (nm : ByteArray) (g : Nat) (s : Tn) (w : World) (ok : (NO k mn mx lz ix nm).ok) (hA : ∀ b, A b → b < w.heap.size) (hg : FA w A g s) (hd : s.depth ≤ 4000000000) :
    Calls Try.prog 47 #[(NO k mn mx lz ix nm).v, pt g] w fun e w' => ∃ f, e = .returned (pt f) ∧ FA w' (New A w w') f (.mk k [] 0 [s] mn mx lz ix nm) ∧ Below w.heap.size w w' := by
  obtain ⟨hga, N0, ev, hc, hk0⟩ := hg.cells
  have hgl := hA g hga
  obtain ⟨c0, c9, c10, c11⟩ := hc.num
  have eN : capN (Tn.mk k [] 0 [s] mn mx lz ix nm).nodes = capN (1 + capN s.nodes) := by simp only [Tn.nodes, nodesL, capN]; omega
  have eD : (((Tn.mk k [] 0 [s] mn mx lz ix nm).depth : Nat) : Int) = 1 + (s.depth : Int) := by simp only [Tn.depth, depthL]; omega
  obtain ⟨m, hm⟩ : ∃ m, m = capN s.nodes := ⟨_, rfl⟩
  obtain ⟨d, hdd⟩ : ∃ d, d = s.depth := ⟨_, rfl⟩
  rw [← hm] at c10 eN
  rw [← hdd] at c11 eD hd
  have hm1 : m ≤ 200001 := by rw [hm]; unfold capN; omega
  have HC : ∀ W' : World, Calls Try.prog 62 #[.int .i64 (1 + (m : Int))] W' fun e w' => e = .returned (.int .i64 ((capN (1 + m) : Nat) : Int)) ∧ w' = W' := fun W' => by
    have := atMost62 (1 + m) W' (by omega)
    rwa [show ((1 + m : Nat) : Int) = 1 + (m : Int) by omega] at this
  have e1 : IntKind.i64.wrap (1 + (m : Int)) = 1 + (m : Int) := by simp [IntKind.wrap, IntKind.bits, IntKind.signed]; omega
  have e2 : IntKind.i64.wrap (1 + (d : Int)) = 1 + (d : Int) := by simp [IntKind.wrap, IntKind.bits, IntKind.signed]; omega
  obtain ⟨q, hq⟩ : ∃ q, q = capN (1 + m) := ⟨_, rfl⟩
  rw [← hq] at HC eN
  clear hq
  obtain ⟨W, hW⟩ : ∃ W, W = (w.alloc (.cells #[.int .i64 k, .slice none 0 0, .int .i64 0, .slice none 0 0, .int .i64 mn, .int .i64 mx, .bool lz, .int .i64 ix, .string nm] 25)).alloc (.cells #[pt g] 55) := ⟨_, rfl⟩
  have hbW : Below w.heap.size w W := by rw [hW]; exact below_two' w _ _
  have hB : Bx W (w.heap.size + 1) 55 (pt g) := by rw [hW]; exact two_new w _ _ _
  have hN : W.heap[w.heap.size]? = some (.cells #[.int .i64 k, .slice none 0 0, .int .i64 0, .slice none 0 0, .int .i64 mn, .int .i64 mx, .bool lz, .int .i64 ix, .string nm] 25 (0, 0)) := by rw [hW]; exact (heap_alloc_old _ _ (by simp)).trans (heap_alloc_new w _)
  have hsW : W.heap.size = w.heap.size + 2 := by rw [hW]; simp
  obtain ⟨z, hz⟩ : ∃ z, z = w.heap.size := ⟨_, rfl⟩
  have hS : ∀ w1, Below W.heap.size W w1 → w1.cell? ⟨w.heap.size, 0, none⟩ = some (.int .i64 k) ∧ w1.cell? ⟨w.heap.size, 1, none⟩ = some (.slice none 0 0) ∧ w1.cell? ⟨w.heap.size, 2, none⟩ = some (.int .i64 0) ∧ w1.cell? ⟨w.heap.size, 3, none⟩ = some (.slice none 0 0) ∧ w1.cell? ⟨w.heap.size, 4, none⟩ = some (.int .i64 mn) ∧ w1.cell? ⟨w.heap.size, 5, none⟩ = some (.int .i64 mx) ∧ w1.cell? ⟨w.heap.size, 6, none⟩ = some (.bool lz) ∧ w1.cell? ⟨w.heap.size, 7, none⟩ = some (.int .i64 ix) ∧ w1.cell? ⟨w.heap.size, 8, none⟩ = some (.string nm) ∧
      w1.cell? ⟨w.heap.size + 1, 0, none⟩ = some (pt g) ∧ w1.cell? ⟨g, 10, none⟩ = some (.int .i64 (m : Int)) ∧ w1.cell? ⟨g, 11, none⟩ = some (.int .i64 (d : Int)) := fun w1 h1 => by
    have hN1 := (h1.block w.heap.size (by omega)).trans hN
    have hB1 := (h1.block (w.heap.size + 1) (by omega)).trans hB
    have hg1 : w1.heap[g]? = w.heap[g]? := (h1.block g (by omega)).trans (hbW.block g hgl)
    obtain ⟨q0, q1, q2, q3, q4, q5, q6, q7, q8⟩ := nine' hN1
    exact ⟨q0, q1, q2, q3, q4, q5, q6, q7, q8, bx0 hB1, (cell_eq hg1 _).trans c10, (cell_eq hg1 _).trans c11⟩
  have HD := hid (below_drew W)
  have HSS := hid hS
  have HG := hid hg
  have HBW := hid hbW
  have HBB := hid hB
  have HOK := hid ok
  have HAA := hid hA
  have hzs : W.heap.size = w.heap.size + 2 := hsW
  have HZS := hid hzs
  have HEN := hid eN
  have HED := hid eD
  have HHD := hid hd
  clear hg hbW hB ok hsW hzs hA hS hN c0 c9 c10 c11 hc hk0 hm hdd eN eD hd
  go_enter Try.func47, Try.ntmps47
  go_wp2_with fail
  rw [← hW, ← hz]
  rw [← hz] at HSS
  have HW := hid hW
  have HZ := hid hz
  clear hW hz
  go_region_held2 (fun w1 => w1.cell? ⟨z, 0, none⟩ = some (.int .i64 k) ∧ w1.cell? ⟨z, 1, none⟩ = some (.slice none 0 0) ∧ w1.cell? ⟨z, 2, none⟩ = some (.int .i64 0) ∧ w1.cell? ⟨z, 3, none⟩ = some (.slice none 0 0) ∧ w1.cell? ⟨z, 4, none⟩ = some (.int .i64 mn) ∧ w1.cell? ⟨z, 5, none⟩ = some (.int .i64 mx) ∧ w1.cell? ⟨z, 6, none⟩ = some (.bool lz) ∧ w1.cell? ⟨z, 7, none⟩ = some (.int .i64 ix) ∧ w1.cell? ⟨z, 8, none⟩ = some (.string nm) ∧ w1.cell? ⟨z + 1, 0, none⟩ = some (pt g) ∧ w1.cell? ⟨g, 10, none⟩ = some (.int .i64 (m : Int)) ∧ w1.cell? ⟨g, 11, none⟩ = some (.int .i64 (d : Int)))
    (first | exact HSS.out _ HD.out | exact HSS.out _ (HD.out.alloc (Nat.le_refl _) _))
    (first | (go_at_call 62; (with_reducible refine (HC _).mono ?_); rintro e w1 ⟨rfl, hw1⟩; have hw2 := hw1.symm; clear hw1; subst hw2))
  all_goals
    go_wp2
    go_ret
    have hz := HZ.out
    have hs := HZS.out
    have hnew : Below w.heap.size w (W.alloc (.cells (FV (NO k mn mx lz ix nm) (.func (.func 67) #[] #[pt (z + 1)]) q (1 + d)) 60)).drew := (HBW.out.alloc (by omega) _).trans (Joins.below_le (below_drew _) (by simp; omega))
    have hsz : (W.alloc (.cells (FV (NO k mn mx lz ix nm) (.func (.func 67) #[] #[pt (z + 1)]) q (1 + d)) 60)).drew.heap.size = W.heap.size + 1 := by show (W.alloc _).heap.size = _; simp
    have hnn : (W.alloc (.cells (FV (NO k mn mx lz ix nm) (.func (.func 67) #[] #[pt (z + 1)]) q (1 + d)) 60)).drew.heap[W.heap.size]? = some (.cells (FV (NO k mn mx lz ix nm) (.func (.func 67) #[] #[pt (z + 1)]) q (1 + d)) 60 (0, 0)) := heap_alloc_new W _
    have hold : ∀ b, b < W.heap.size → (W.alloc (.cells (FV (NO k mn mx lz ix nm) (.func (.func 67) #[] #[pt (z + 1)]) q (1 + d)) 60)).drew.heap[b]? = W.heap[b]? := fun b hb => heap_alloc_old W _ hb
    generalize (W.alloc (.cells (FV (NO k mn mx lz ix nm) (.func (.func 67) #[] #[pt (z + 1)]) q (1 + d)) 60)).drew = U at hnew hsz hnn hold ⊢
    refine ⟨W.heap.size, rfl, ?_, hnew⟩
    refine .over (b := z + 1) (g := g) (.inr ⟨by omega, by omega⟩) ?_ HOK.out ((hold _ (by omega)).trans (by rw [hz]; exact HBB.out)) (.inr ⟨by omega, by omega⟩) ?_
    · unfold FC
      rw [HEN.out, HED.out]
      exact hnn
    · exact HG.out.kept (fun b hb => (hold b (by have := HAA.out b hb; omega)).trans (HBW.out.block b (HAA.out b hb))) (fun b hb => .inl hb)
end Go.Proofs.Ytdidopgenhpakaa
