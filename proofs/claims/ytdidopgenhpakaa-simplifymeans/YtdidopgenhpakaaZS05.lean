/- HELPERS: to begin a node, with what is claimed of the ways: alternatives. -/
import Derived.Test.YtdidopgenhpakaaZS04
import Derived.Laws.EntriesVeiled
import Derived.Test.YtdidopgenhpakaaBh
import Derived.Deep.Cut
import Derived.Deep.RegionHeld2
import Derived.Test.YtdidopgenhpakaaTc
/- HELPERS: ways are made: once, noted, of a class, in order. -/
namespace Go.Proofs.Ytdidopgenhpakaa
open Go.RowKit
set_option linter.unusedVariables false
set_option linter.unusedSimpArgs false
/-- the cells of a walk's object, but how many things there are -/
structure Six where
  a0 : Value
  a1 : Value
  a2 : Value
  a4 : Value
  a5 : Value
  a6 : Value
abbrev O7 (w : World) (g : Nat) (A : Six) (n : Int) : Prop := w.heap[g]? = some (.cells #[A.a0, A.a1, A.a2, .int .i64 n, A.a4, A.a5, A.a6] 86 (0, 0))
/-- what is made: a way, its blocks, and how many things there are then -/
structure Mk (g K : Nat) (L : Nat → Prop) (w w' : World) (A : Six) (n' : Int) (v : Value) (W : Way) (F0 F : List Nat) : Prop where
  rep : Rep g K L w' v W F
  ob : O7 w' g A n'
  chg : Chg w w' [g] [g]
  new : ∀ k ∈ F, k ∈ F0 ∨ w.heap.size ≤ k
theorem Rep.form {g K : Nat} {L : Nat → Prop} {w : World} {v : Value} {d : Way} {F : List Nat} (h : Rep g K L w v d F) : ∃ f fi ca, v = .func (.func f) fi ca := by
  cases h <;> exact ⟨_, _, _, rfl⟩
theorem hmf : ∀ (fn : Fn) (first cap : Array Value) (w : World), (Instr.makeFunc fn first cap).run Try.prog w = .ok (.func fn first cap) w := fun _ _ _ _ => rfl
set_option maxRecDepth 100000 in
set_option maxHeartbeats 2000000 in
theorem once54 (g K : Nat) (L : Nat → Prop) (A : Six) (n : Int) (vb : Value) (B : Way) (F0 : List Nat) (w : World) (hO : O7 w g A n) (hR : Rep g K L w vb B F0) (hgF : g ∉ F0) (hn : 0 ≤ n ∧ n < 1000000000) :
    Calls Try.prog 58 #[pt g, vb] w fun e w' => ∃ v F, e = .returned v ∧ Mk g K L w w' A (n + 1) v (.once (n + 1) B) F0 F := by
  obtain ⟨f, fi, ca, rfl⟩ := hR.form
  have hm := hmf
  have g3 : w.cell? ⟨g, 3, none⟩ = some (.int .i64 n) := Joins.cell_of_block hO 3
  have f3 := Joins.unfrozen_of_block hO 3
  have hgl := (Array.getElem?_eq_some_iff.1 hO).1
  have HO := hid hO
  have HR := hid hR
  clear hO hR
  go_enter Try.func58, Try.ntmps58
  go_wp2
  go_ret
  obtain ⟨h1, h2, h3, h4⟩ := three_new (w.setCell ⟨g, 3, none⟩ (.int .i64 (n + 1))) (.cells #[pt g] 65) (.cells #[.func (.func f) fi ca] 84) (.cells #[.int .i64 (n + 1)] 3)
  have hs : (w.setCell ⟨g, 3, none⟩ (.int .i64 (n + 1))).heap.size = w.heap.size := by simp [World.setCell]
  rw [hs] at h1 h2 h3 h4
  have hc : Chg w ((((w.setCell ⟨g, 3, none⟩ (.int .i64 (n + 1))).alloc (.cells #[pt g] 65)).alloc (.cells #[.func (.func f) fi ca] 84)).alloc (.cells #[.int .i64 (n + 1)] 3)) [g] [g] :=
    ((((Chg.refl w [g]).set (a := ⟨g, 3, none⟩) (.int .i64 (n + 1)) (by simp)).alloc _).alloc _).alloc _
  refine ⟨_, _, rfl, .once h3 h1 h2 ⟨by omega, by omega⟩ (HR.out.kept fun k hk => ?_), ?_, hc, ?_⟩
  · exact hc.block k (HR.out.low k hk) (by simp; intro e; exact hgF (e ▸ hk))
  · exact (h4 g hgl).trans (Joins.block_setCell (i := 3) HO.out _)
  · intro k hk
    simp only [List.mem_cons] at hk
    rcases hk with rfl | rfl | rfl | hk
    · right; omega
    · right; omega
    · right; omega
    · exact .inl hk
set_option maxRecDepth 100000 in
set_option maxHeartbeats 2000000 in
theorem noted68 (g K c : Nat) (L : Nat → Prop) (A : Six) (n : Int) (vb : Value) (B : Way) (F0 : List Nat) (w : World) (hO : O7 w g A n) (hR : Rep g K L w vb B F0) (hgF : g ∉ F0) (hc : c < K) :
    Calls Try.prog 86 #[pt g, .int .i64 (c : Int), vb] w fun e w' => ∃ v F, e = .returned v ∧ Mk g K L w w' A n v (.noted c B) F0 F := by
  obtain ⟨f, fi, ca, rfl⟩ := hR.form
  have hm := hmf
  have hgl := (Array.getElem?_eq_some_iff.1 hO).1
  have HO := hid hO
  have HR := hid hR
  clear hO hR
  go_enter Try.func86, Try.ntmps86
  go_wp2
  go_ret
  obtain ⟨h1, h2, h3, h4⟩ := three_new w (.cells #[pt g] 65) (.cells #[.int .i64 (c : Int)] 3) (.cells #[.func (.func f) fi ca] 84)
  have hch : Chg w (((w.alloc (.cells #[pt g] 65)).alloc (.cells #[.int .i64 (c : Int)] 3)).alloc (.cells #[.func (.func f) fi ca] 84)) [g] [g] := (((Chg.refl w [g]).alloc _).alloc _).alloc _
  refine ⟨_, _, rfl, .noted h1 h2 h3 hc (HR.out.kept fun k hk => ?_), (h4 g hgl).trans HO.out, hch, ?_⟩
  · exact hch.block k (HR.out.low k hk) (by simp; intro e; exact hgF (e ▸ hk))
  · intro k hk
    simp only [List.mem_cons] at hk
    rcases hk with rfl | rfl | rfl | hk
    · right; omega
    · right; omega
    · right; omega
    · exact .inl hk
set_option maxRecDepth 100000 in
set_option maxHeartbeats 2000000 in
theorem runeOf64 (g K : Nat) (L : Nat → Prop) (GR : List Nat) (A : Six) (n : Int) (vb rv : Value) (R : Rng) (B : Way) (F0 : List Nat) (w : World) (hO : O7 w g A n) (hR : Rep g K L w vb B F0) (hgF : g ∉ F0) (hr : RowIn w rv R GR) :
    Calls Try.prog 82 #[pt g, rv, vb] w fun e w' => ∃ v F, e = .returned v ∧ Mk g K L w w' A n v (.runeOf R B) (GR ++ F0) F := by
  obtain ⟨f, fi, ca, rfl⟩ := hR.form
  obtain ⟨s1, s2, s3, rfl⟩ : ∃ s1 s2 s3, rv = .slice s1 s2 s3 := by
    obtain ⟨s1, s3, h⟩ := hr.form
    exact ⟨_, _, _, h⟩
  have hm := hmf
  have hgl := (Array.getElem?_eq_some_iff.1 hO).1
  have HO := hid hO
  have HR := hid hR
  have Hr := hid hr
  clear hO hR hr
  go_enter Try.func82, Try.ntmps82
  go_wp2
  go_ret
  obtain ⟨h1, h2, h3, h4⟩ := three_new w (.cells #[pt g] 65) (.cells #[.slice s1 s2 s3] 22) (.cells #[.func (.func f) fi ca] 84)
  have hch : Chg w (((w.alloc (.cells #[pt g] 65)).alloc (.cells #[.slice s1 s2 s3] 22)).alloc (.cells #[.func (.func f) fi ca] 84)) [g] [g] := (((Chg.refl w [g]).alloc _).alloc _).alloc _
  refine ⟨_, _, rfl, .runeOf h1 h2 h3 (Hr.out.kept fun b hb => h4 b (Hr.out.low b hb)) (HR.out.kept fun k hk => ?_), (h4 g hgl).trans HO.out, hch, ?_⟩
  · exact hch.block k (HR.out.low k hk) (by simp; intro e; exact hgF (e ▸ hk))
  · intro k hk
    simp only [List.mem_cons, List.mem_append] at hk ⊢
    rcases hk with rfl | rfl | rfl | hk | hk
    · right; omega
    · right; omega
    · right; omega
    · exact .inl (.inl hk)
    · exact .inl (.inr hk)
set_option maxRecDepth 100000 in
set_option maxHeartbeats 2000000 in
theorem ifHolds65 (g K : Nat) (L : Nat → Prop) (A : Six) (n a : Int) (vb : Value) (B : Way) (F0 : List Nat) (w : World) (hO : O7 w g A n) (hR : Rep g K L w vb B F0) (hgF : g ∉ F0) :
    Calls Try.prog 83 #[pt g, .int .i64 a, vb] w fun e w' => ∃ v F, e = .returned v ∧ Mk g K L w w' A n v (.ifHolds a B) F0 F := by
  obtain ⟨f, fi, ca, rfl⟩ := hR.form
  have hm := hmf
  have hgl := (Array.getElem?_eq_some_iff.1 hO).1
  have HO := hid hO
  have HR := hid hR
  clear hO hR
  go_enter Try.func83, Try.ntmps83
  go_wp2
  go_ret
  obtain ⟨h1, h2, h3, h4⟩ := three_new w (.cells #[pt g] 65) (.cells #[.int .i64 a] 3) (.cells #[.func (.func f) fi ca] 84)
  have hch : Chg w (((w.alloc (.cells #[pt g] 65)).alloc (.cells #[.int .i64 a] 3)).alloc (.cells #[.func (.func f) fi ca] 84)) [g] [g] := (((Chg.refl w [g]).alloc _).alloc _).alloc _
  refine ⟨_, _, rfl, .ifHolds h2 h1 h3 (HR.out.kept fun k hk => ?_), (h4 g hgl).trans HO.out, hch, ?_⟩
  · exact hch.block k (HR.out.low k hk) (by simp; intro e; exact hgF (e ▸ hk))
  · intro k hk
    simp only [List.mem_cons] at hk
    rcases hk with rfl | rfl | rfl | hk
    · right; omega
    · right; omega
    · right; omega
    · exact .inl hk
set_option maxRecDepth 100000 in
set_option maxHeartbeats 2000000 in
theorem inOrder94 (g K N0 m : Nat) (L : Nat → Prop) (sv : Value) (l : List Way) (vs : List Value) (F1 : List Nat) (w : World) (hs : w.ownsRow N0 84 1 sv l.length vs) (hR : Reps g K L w vs l F1) :
    Calls Try.prog 112 #[sv] w fun e w' => ∃ v F, e = .returned v ∧ Rep g K L w' v (.inOrder l) F ∧ Below w.heap.size w w' ∧ (∀ k ∈ F, k ∈ sv.ownBlock.toList ++ F1 ∨ w.heap.size ≤ k) := by
  obtain ⟨s1, s2, s3, rfl⟩ : ∃ s1 s2 s3, sv = .slice s1 s2 s3 := by
    rcases Joins.ownsRow_forms hs with ⟨rfl, h⟩ | ⟨b, cap, rfl⟩
    · exact ⟨none, 0, 0, rfl⟩
    · exact ⟨_, _, _, rfl⟩
  have hm := hmf
  have HS := hid hs
  have HR := hid hR
  clear hs hR
  go_enter Try.func112, Try.ntmps112
  go_wp2
  go_ret
  have hb : Below w.heap.size w (w.alloc (.cells #[.slice s1 s2 s3] 142)) := Joins.below_alloc1 w _
  refine ⟨_, _, rfl, .inOrder (heap_alloc_new w _) (row_kept HS.out fun b hb2 => hb.block b (HS.out.lt b hb2).2) (HR.out.kept fun k hk => hb.block k (HR.out.low k hk)), hb, ?_⟩
  intro k hk
  simp only [List.mem_cons, List.mem_append] at hk ⊢
  rcases hk with rfl | hk | hk
  · right; omega
  · exact .inl (.inl hk)
  · exact .inl (.inr hk)
end Go.Proofs.Ytdidopgenhpakaa
/- HELPERS: to begin a node: nothing, a class. -/
namespace Go.Proofs.Ytdidopgenhpakaa
open Go.RowKit
set_option linter.unusedVariables false
set_option linter.unusedSimpArgs false
/-- the other fields of a node -/
structure Nd where
  r1 : Option Addr
  r2 : Nat
  r3 : Nat
  a2 : Int
  s1 : Option Addr
  s2 : Nat
  s3 : Nat
  a4 : Int
  a5 : Int
  a6 : Bool
  a7 : Int
  a8 : ByteArray
abbrev Nd.v (N : Nd) (k : Int) : Value := .agg #[.int .i64 k, .slice N.r1 N.r2 N.r3, .int .i64 N.a2, .slice N.s1 N.s2 N.s3, .int .i64 N.a4, .int .i64 N.a5, .bool N.a6, .int .i64 N.a7, .string N.a8]
abbrev Nd.o (N : Nd) (k : Int) : Obj := .cells #[.int .i64 k, .slice N.r1 N.r2 N.r3, .int .i64 N.a2, .slice N.s1 N.s2 N.s3, .int .i64 N.a4, .int .i64 N.a5, .bool N.a6, .int .i64 N.a7, .string N.a8] 25
theorem Mk.from {g K : Nat} {L : Nat → Prop} {w w1 w' : World} {A : Six} {n' : Int} {v : Value} {W : Way} {F0 F : List Nat} (hc : Chg w w1 [g] [g]) (h : Mk g K L w1 w' A n' v W F0 F) : Mk g K L w w' A n' v W F0 F :=
  ⟨h.rep, h.ob, hc.trans h.chg, fun k hk => by rcases h.new k hk with h | h; exact .inl h; right; have := hc.size; omega⟩
theorem Mk.away {g K : Nat} {L : Nat → Prop} {w w' : World} {A : Six} {n' : Int} {v : Value} {W : Way} {F0 F : List Nat} (h : Mk g K L w w' A n' v W F0 F) (hg : g ∉ F0) (hl : g < w.heap.size) : g ∉ F := fun hm => by
  rcases h.new g hm with h | h
  · exact hg h
  · omega
theorem Mk.trans {g K : Nat} {L : Nat → Prop} {w w1 w2 : World} {A : Six} {n1 n2 : Int} {v1 v2 : Value} {W1 W2 : Way} {F0 F1 F2 : List Nat} (h : Mk g K L w w1 A n1 v1 W1 F0 F1) (h2 : Mk g K L w1 w2 A n2 v2 W2 F1 F2) : Mk g K L w w2 A n2 v2 W2 F0 F2 :=
  ⟨h2.rep, h2.ob, h.chg.trans h2.chg, fun k hk => by
    rcases h2.new k hk with h3 | h3
    · exact h.new k h3
    · right; have := h.chg.size; omega⟩
set_option maxRecDepth 100000 in
set_option maxHeartbeats 2000000 in
theorem begin_empty (g K : Nat) (L : Nat → Prop) (A : Six) (n : Int) (N : Nd) (vb : Value) (B : Way) (F0 : List Nat) (w : World) (hO : O7 w g A n) (hR : Rep g K L w vb B F0) (hgF : g ∉ F0) (hn : 0 ≤ n ∧ n < 1000000000) :
    Calls Try.prog 57 #[pt g, N.v 1, vb] w fun e w' => ∃ v F, e = .returned v ∧ Mk g K L w w' A (n + 1) v (.once (n + 1) B) F0 F := by
  obtain ⟨f, fi, ca, rfl⟩ := hR.form
  have hgl := (Array.getElem?_eq_some_iff.1 hO).1
  obtain ⟨h1, h2, h3, h4⟩ := three_new w (.cells #[pt g] 65) (N.o 1) (.cells #[.func (.func f) fi ca] 84)
  have hch : Chg w (((w.alloc (.cells #[pt g] 65)).alloc (N.o 1)).alloc (.cells #[.func (.func f) fi ca] 84)) [g] [g] := (((Chg.refl w [g]).alloc _).alloc _).alloc _
  have HC := once54 g K L A n (.func (.func f) fi ca) B F0 _ ((h4 g hgl).trans hO) (hR.kept fun k hk => hch.block k (hR.low k hk) (by simp; intro e; exact hgF (e ▸ hk))) hgF hn
  have HCH := hid hch
  clear hO hR hch h1 h2 h3 h4
  go_enter Try.func57, Try.ntmps57
  go_wp2_with (go_at_call 58; (with_reducible refine HC.mono ?_); rintro e w' ⟨v, F, rfl, M⟩; obtain ⟨f2, fi2, ca2, rfl⟩ := M.rep.form; have HM := hid M; clear M)
  go_ret
  exact ⟨_, F, rfl, HM.out.from HCH.out⟩
set_option maxRecDepth 100000 in
set_option maxHeartbeats 2000000 in
theorem begin_class (g K : Nat) (L : Nat → Prop) (GR : List Nat) (A : Six) (n : Int) (N : Nd) (R : Rng) (vb : Value) (B : Way) (F0 : List Nat) (w : World) (hO : O7 w g A n) (hR : Rep g K L w vb B F0) (hgF : g ∉ F0) (hn : 0 ≤ n ∧ n < 1000000000)
    (hr : RowIn w (.slice N.r1 N.r2 N.r3) R GR) (hgr : g ∉ GR) :
    Calls Try.prog 57 #[pt g, N.v 2, vb] w fun e w' => ∃ v F, e = .returned v ∧ Mk g K L w w' A (n + 1) v (.once (n + 1) (.runeOf R B)) (GR ++ F0) F := by
  obtain ⟨f, fi, ca, rfl⟩ := hR.form
  have hgl := (Array.getElem?_eq_some_iff.1 hO).1
  obtain ⟨h1, h2, h3, h4⟩ := three_new w (.cells #[pt g] 65) (N.o 2) (.cells #[.func (.func f) fi ca] 84)
  have hch : Chg w (((w.alloc (.cells #[pt g] 65)).alloc (N.o 2)).alloc (.cells #[.func (.func f) fi ca] 84)) [g] [g] := (((Chg.refl w [g]).alloc _).alloc _).alloc _
  obtain ⟨W, hW⟩ : ∃ W, W = (((w.alloc (.cells #[pt g] 65)).alloc (N.o 2)).alloc (.cells #[.func (.func f) fi ca] 84)) := ⟨_, rfl⟩
  rw [← hW] at h1 h2 h3 h4 hch
  have HC := runeOf64 g K L GR A n (.func (.func f) fi ca) (.slice N.r1 N.r2 N.r3) R B F0 W.drew ((h4 g hgl).trans hO) ((hR.kept fun k hk => hch.block k (hR.low k hk) (by simp; intro e; exact hgF (e ▸ hk))).kept fun k hk => rfl) hgF ((hr.kept fun b hb => h4 b (hr.low b hb)).kept (w' := W.drew) fun _ _ => rfl)
  have x3 : W.cell? ⟨w.heap.size, 0, none⟩ = some (pt g) := bx0 h1
  have x5 : W.cell? ⟨w.heap.size + 1 + 1, 0, none⟩ = some (.func (.func f) fi ca) := bx0 h3
  have x41 : W.cell? ⟨w.heap.size + 1, 1, none⟩ = some (.slice N.r1 N.r2 N.r3) := Joins.cell_of_block h2 1
  have hsW : W.heap.size = w.heap.size + 1 + 1 + 1 := by rw [hW]; simp
  obtain ⟨z, hz⟩ : ∃ z, z = w.heap.size := ⟨_, rfl⟩
  have HCH := hid hch
  have HW := hid hW
  have H1 := hid h1
  have HS := hid hsW
  have HG := hid hgr
  have HHG := hid hgF
  have HZ := hid hz
  clear hO hR hch h1 h2 h3 h4 hr hgF hgr hsW
  go_enter Try.func57, Try.ntmps57
  go_wp2_with fail
  rw [← hW, ← hz]
  rw [← hz] at x3 x5 x41
  clear hW hz
  have hb1 : ∀ w1, Chg W.drew w1 [g] [g] → w1.cell? ⟨z, 0, none⟩ = some (pt g) ∧ w1.cell? ⟨z + 1, 1, none⟩ = some (.slice N.r1 N.r2 N.r3) ∧ w1.cell? ⟨z + 1 + 1, 0, none⟩ = some (.func (.func f) fi ca) := fun w1 hc1 => by
    have hz := HZ.out
    have hs := HS.out
    have e : ∀ k o, z ≤ k → k < z + 3 → w1.cell? ⟨k, o, none⟩ = W.cell? ⟨k, o, none⟩ := fun k o h1 h2 => cell_heap (hc1.block k (by show k < W.heap.size; omega) (by simp; omega)) o
    exact ⟨(e _ _ (by omega) (by omega)).trans x3, (e _ _ (by omega) (by omega)).trans x41, (e _ _ (by omega) (by omega)).trans x5⟩
  have HB1 := hid hb1
  clear hb1
  go_region_held2 (fun w' => w'.cell? ⟨z, 0, none⟩ = some (pt g) ∧ w'.cell? ⟨z + 1, 1, none⟩ = some (.slice N.r1 N.r2 N.r3) ∧ w'.cell? ⟨z + 1 + 1, 0, none⟩ = some (.func (.func f) fi ca))
    (first | exact ⟨x3, x41, x5⟩ | exact HB1.out _ HM1.out.chg | exact HB1.out _ (HM1.out.chg.trans HM2.out.chg))
    (first | (go_at_call 82; (with_reducible refine HC.mono ?_); rintro e w1 ⟨v1, F1, rfl, M1⟩; obtain ⟨f1, fi1, ca1, rfl⟩ := M1.rep.form; have HC2 := once54 g K L A n _ _ F1 w1 M1.ob M1.rep (M1.away (by simp; exact ⟨HG.out, HHG.out⟩) (by show g < W.heap.size; have := HS.out; omega)) hn; have HM1 := hid M1; clear M1 HC) | (go_at_call 58; (with_reducible refine HC2.mono ?_); rintro e w2 ⟨v2, F2, rfl, M2⟩; obtain ⟨f2, fi2, ca2, rfl⟩ := M2.rep.form; have HM2 := hid M2; clear M2 HC2))
  all_goals
    go_wp2
    go_ret
    refine ⟨_, F2, rfl, Mk.from (HCH.out.trans ?_) (HM1.out.trans HM2.out)⟩
    exact (Chg.refl W [g]).drew
set_option maxRecDepth 100000 in
set_option maxHeartbeats 2000000 in
theorem begin_assert (g K : Nat) (L : Nat → Prop) (A : Six) (n : Int) (N : Nd) (vb : Value) (B : Way) (F0 : List Nat) (w : World) (hO : O7 w g A n) (hR : Rep g K L w vb B F0) (hgF : g ∉ F0) (hn : 0 ≤ n ∧ n < 1000000000) :
    Calls Try.prog 57 #[pt g, N.v 3, vb] w fun e w' => ∃ v F, e = .returned v ∧ Mk g K L w w' A (n + 1) v (.once (n + 1) (.ifHolds N.a2 B)) F0 F := by
  obtain ⟨f, fi, ca, rfl⟩ := hR.form
  have hgl := (Array.getElem?_eq_some_iff.1 hO).1
  obtain ⟨h1, h2, h3, h4⟩ := three_new w (.cells #[pt g] 65) (N.o 3) (.cells #[.func (.func f) fi ca] 84)
  have hch : Chg w (((w.alloc (.cells #[pt g] 65)).alloc (N.o 3)).alloc (.cells #[.func (.func f) fi ca] 84)) [g] [g] := (((Chg.refl w [g]).alloc _).alloc _).alloc _
  obtain ⟨W, hW⟩ : ∃ W, W = (((w.alloc (.cells #[pt g] 65)).alloc (N.o 3)).alloc (.cells #[.func (.func f) fi ca] 84)) := ⟨_, rfl⟩
  rw [← hW] at h1 h2 h3 h4 hch
  have HC := ifHolds65 g K L A n N.a2 (.func (.func f) fi ca) B F0 W.drew ((h4 g hgl).trans hO) ((hR.kept fun k hk => hch.block k (hR.low k hk) (by simp; intro e; exact hgF (e ▸ hk))).kept fun k hk => rfl) hgF
  have x3 : W.cell? ⟨w.heap.size, 0, none⟩ = some (pt g) := bx0 h1
  have x5 : W.cell? ⟨w.heap.size + 1 + 1, 0, none⟩ = some (.func (.func f) fi ca) := bx0 h3
  have x41 : W.cell? ⟨w.heap.size + 1, 2, none⟩ = some (.int .i64 N.a2) := Joins.cell_of_block h2 2
  have hsW : W.heap.size = w.heap.size + 1 + 1 + 1 := by rw [hW]; simp
  obtain ⟨z, hz⟩ : ∃ z, z = w.heap.size := ⟨_, rfl⟩
  have HCH := hid hch
  have HW := hid hW
  have H1 := hid h1
  have HS := hid hsW
  have HHG := hid hgF
  have HZ := hid hz
  clear hO hR hch h1 h2 h3 h4 hgF hsW
  go_enter Try.func57, Try.ntmps57
  go_wp2_with fail
  rw [← hW, ← hz]
  rw [← hz] at x3 x5 x41
  clear hW hz
  have hb1 : ∀ w1, Chg W.drew w1 [g] [g] → w1.cell? ⟨z, 0, none⟩ = some (pt g) ∧ w1.cell? ⟨z + 1, 2, none⟩ = some (.int .i64 N.a2) ∧ w1.cell? ⟨z + 1 + 1, 0, none⟩ = some (.func (.func f) fi ca) := fun w1 hc1 => by
    have hz := HZ.out
    have hs := HS.out
    have e : ∀ k o, z ≤ k → k < z + 3 → w1.cell? ⟨k, o, none⟩ = W.cell? ⟨k, o, none⟩ := fun k o h1 h2 => cell_heap (hc1.block k (by show k < W.heap.size; omega) (by simp; omega)) o
    exact ⟨(e _ _ (by omega) (by omega)).trans x3, (e _ _ (by omega) (by omega)).trans x41, (e _ _ (by omega) (by omega)).trans x5⟩
  have HB1 := hid hb1
  clear hb1
  go_region_held2 (fun w' => w'.cell? ⟨z, 0, none⟩ = some (pt g) ∧ w'.cell? ⟨z + 1, 2, none⟩ = some (.int .i64 N.a2) ∧ w'.cell? ⟨z + 1 + 1, 0, none⟩ = some (.func (.func f) fi ca))
    (first | exact ⟨x3, x41, x5⟩ | exact HB1.out _ HM1.out.chg | exact HB1.out _ (HM1.out.chg.trans HM2.out.chg))
    (first | (go_at_call 83; (with_reducible refine HC.mono ?_); rintro e w1 ⟨v1, F1, rfl, M1⟩; obtain ⟨f1, fi1, ca1, rfl⟩ := M1.rep.form; have HC2 := once54 g K L A n _ _ F1 w1 M1.ob M1.rep (M1.away HHG.out (by show g < W.heap.size; have := HS.out; omega)) hn; have HM1 := hid M1; clear M1 HC) | (go_at_call 58; (with_reducible refine HC2.mono ?_); rintro e w2 ⟨v2, F2, rfl, M2⟩; obtain ⟨f2, fi2, ca2, rfl⟩ := M2.rep.form; have HM2 := hid M2; clear M2 HC2))
  all_goals
    go_wp2
    go_ret
    refine ⟨_, F2, rfl, Mk.from (HCH.out.trans ?_) (HM1.out.trans HM2.out)⟩
    exact (Chg.refl W [g]).drew
end Go.Proofs.Ytdidopgenhpakaa
/- HELPERS: a choice; the first of several. -/
namespace Go.Proofs.Ytdidopgenhpakaa
open Go.RowKit
set_option linter.unusedVariables false
set_option linter.unusedSimpArgs false
theorem info84 : (Try.prog.info? 84).map (fun i => (i.zero, i.size, i.bytes)) = some (some .nilFunc, 1, 8) := by kernel_rfl
set_option maxRecDepth 100000 in
set_option maxHeartbeats 2000000 in
theorem choice97 (g K : Nat) (L : Nat → Prop) (v1 v2 : Value) (W1 W2 : Way) (F1 F2 : List Nat) (w : World) (h1 : Rep g K L w v1 W1 F1) (h2 : Rep g K L w v2 W2 F2) :
    Calls Try.prog 115 #[.bool false, v1, v2] w fun e w' => ∃ v F, e = .returned v ∧ Rep g K L w' v (.inOrder [W1, W2]) F ∧ Below w.heap.size w w' ∧ ∀ k ∈ F, k ∈ F1 ++ F2 ∨ w.heap.size ≤ k := by
  obtain ⟨f1, fi1, ca1, rfl⟩ := h1.form
  obtain ⟨f2, fi2, ca2, rfl⟩ := h2.form
  have hb : Below w.heap.size w (w.alloc (.cells #[.func (.func f1) fi1 ca1, .func (.func f2) fi2 ca2] 84)) := Joins.below_alloc1 w _
  have hrow : (w.alloc (.cells #[.func (.func f1) fi1 ca1, .func (.func f2) fi2 ca2] 84)).ownsRow w.heap.size 84 1 (.slice (some ⟨w.heap.size, 0, none⟩) 2 2) 2 [.func (.func f1) fi1 ca1, .func (.func f2) fi2 ca2] := by
    have := World.ownsRow_lit (base := w.heap.size) (e := 84) (size := 1) w #[.func (.func f1) fi1 ca1, .func (.func f2) fi2 ca2] 2 (Nat.le_refl _) (by unfold maxLen; omega) rfl
    exact this
  have HC := inOrder94 g K w.heap.size 0 L _ [W1, W2] _ (F1 ++ (F2 ++ [])) _ hrow (.cons (h1.kept fun k hk => hb.block k (h1.low k hk)) (.cons (h2.kept fun k hk => hb.block k (h2.low k hk)) .nil))
  have HB := hid hb
  clear h1 h2 hb hrow
  go_enter Try.func115, Try.ntmps115
  go_wp2_with (go_at_call 112; (with_reducible refine HC.mono ?_); rintro e w1 ⟨v, F, rfl, hr, hb1, hn⟩; obtain ⟨f, fi, ca, rfl⟩ := hr.form; have HR := hid hr; have HB1 := hid hb1; have HN := hid hn; clear hr hb1 hn)
  go_ret
  refine ⟨_, F, rfl, HR.out, HB.out.trans (Joins.below_le HB1.out (by simp)), fun k hk => ?_⟩
  rcases HN.out k hk with h | h
  · simp [Value.ownBlock] at h
    rcases h with rfl | h | h
    · right; omega
    · left; simp [h]
    · left; simp [h]
  · right; simp at h; omega
/-- the nine cells of the i-th node of a row -/
def C9 (w : World) (sb o i : Nat) (N : Nd) (k : Int) : Prop := w.cell? ⟨sb, o + i * 9, none⟩ = some (.int .i64 k) ∧ w.cell? ⟨sb, o + i * 9 + 1, none⟩ = some (.slice N.r1 N.r2 N.r3) ∧ w.cell? ⟨sb, o + i * 9 + 2, none⟩ = some (.int .i64 N.a2) ∧ w.cell? ⟨sb, o + i * 9 + 3, none⟩ = some (.slice N.s1 N.s2 N.s3) ∧
  w.cell? ⟨sb, o + i * 9 + 4, none⟩ = some (.int .i64 N.a4) ∧ w.cell? ⟨sb, o + i * 9 + 5, none⟩ = some (.int .i64 N.a5) ∧ w.cell? ⟨sb, o + i * 9 + 6, none⟩ = some (.bool N.a6) ∧ w.cell? ⟨sb, o + i * 9 + 7, none⟩ = some (.int .i64 N.a7) ∧ w.cell? ⟨sb, o + i * 9 + 8, none⟩ = some (.string N.a8)
theorem C9.kept {w w' : World} {sb o i : Nat} {N : Nd} {k : Int} (h : C9 w sb o i N k) (hk : w'.heap[sb]? = w.heap[sb]?) : C9 w' sb o i N k := by
  obtain ⟨h0, h1, h2, h3, h4, h5, h6, h7, h8⟩ := h
  exact ⟨(cell_heap hk _).trans h0, (cell_heap hk _).trans h1, (cell_heap hk _).trans h2, (cell_heap hk _).trans h3, (cell_heap hk _).trans h4, (cell_heap hk _).trans h5, (cell_heap hk _).trans h6, (cell_heap hk _).trans h7, (cell_heap hk _).trans h8⟩
theorem Reps.snoc {g K : Nat} {L : Nat → Prop} {w : World} {vs : List Value} {l : List Way} {F : List Nat} (h : Reps g K L w vs l F) {v : Value} {d : Way} {G : List Nat} (hv : Rep g K L w v d G) : Reps g K L w (vs ++ [v]) (l ++ [d]) (F ++ G) := by
  induction l generalizing vs F with
  | nil => cases h; simpa using Reps.cons hv .nil
  | cons e l ih => cases h with | cons h hs => rw [List.append_assoc]; exact .cons h (ih hs)
theorem one_new (w2 : World) (u : Value) (t : TypeId) : ∀ j y, [u][j]? = some y → (w2.alloc (.cells #[u] t)).cell? ((⟨w2.heap.size, 0, none⟩ : Addr).add j) = some y := by
  intro j y hj
  match j, hj with
  | 0, hj => simp at hj; subst hj; simp [Addr.add]
/-- the row of ways as it grows -/
structure Gr (g K : Nat) (L : Nat → Prop) (w wq : World) (A : Six) (n : Int) (uv : Value) (i : Nat) (l : List Way) (FS : List Nat) (vs : List Value) (FR : List Nat) : Prop where
  row : wq.ownsRow w.heap.size 84 1 uv i vs
  reps : Reps g K L wq vs l FR
  ob : O7 wq g A n
  chg : Chg w wq [g] [g]
  new : ∀ k ∈ FR, k ∈ FS ∨ w.heap.size ≤ k
  out : ∀ k, uv.ownBlock = some k → k ∉ FR
theorem Gr.next {g K : Nat} {L : Nat → Prop} {w wq w2 w3 : World} {A : Six} {n n2 : Int} {uv v v' : Value} {i : Nat} {l : List Way} {d : Way} {FS FR F : List Nat} {vs : List Value} (G : Gr g K L w wq A n uv i l FS vs FR) (o o2 : Obj) (M : Mk g K L (wq.alloc o) w2 A n2 v d FS F)
    (hgl : g < w.heap.size) (hgF : g ∉ FS) (hFl : ∀ k ∈ FS, k < w.heap.size) (ho : w3.ownsRow w.heap.size 84 1 v' (i + 1) (vs ++ [v])) (hm : Moved (w2.alloc o2) w3 uv v') : Gr g K L w w3 A n2 v' (i + 1) (l ++ [d]) FS (vs ++ [v]) (FR ++ F) := by
  have hub : ∀ k, uv.ownBlock = some k → w.heap.size ≤ k ∧ k < wq.heap.size := fun k hk => G.row.lt k hk
  have s1 := G.chg.size
  have s2 := M.chg.size
  simp at s2
  have hgR : g ∉ FR := fun hg => by rcases G.new g hg with h | h; exact hgF h; omega
  have hFR : ∀ k ∈ FR, k < wq.heap.size := G.reps.low
  have hF2 : ∀ k ∈ F, k < w2.heap.size := M.rep.low
  have e12 : ∀ k, k < wq.heap.size → k ≠ g → w2.heap[k]? = wq.heap[k]? := fun k hk hn => (M.chg.block k (by simp; omega) (by simpa using hn)).trans (heap_alloc_old wq o hk)
  have e3 : ∀ k, k < w2.heap.size → uv.ownBlock ≠ some k → w3.heap[k]? = w2.heap[k]? := fun k hk hn => by
    have e : (w2.alloc o2).heap[k]? = w2.heap[k]? := heap_alloc_old w2 o2 hk
    rcases hm with ⟨_, h⟩ | ⟨_, h⟩
    · exact (h.block k (by simp; omega) (fun h => hn h.symm)).trans e
    · exact (h.block k (by simp; omega) (by simp)).trans e
  have hs3 : w2.heap.size ≤ w3.heap.size := by rcases hm with ⟨_, h⟩ | ⟨_, h⟩ <;> (have := h.size; simp at this; omega)
  have hFu : ∀ k ∈ F, uv.ownBlock ≠ some k := fun k hk e => by
    have := hub k e
    rcases M.new k hk with h | h
    · have := hFl k h; omega
    · simp at h; omega
  refine ⟨ho, (G.reps.kept fun k hk => (e3 k (by have := hFR k hk; omega) (fun e => G.out k e hk)).trans (e12 k (hFR k hk) (fun e => hgR (e ▸ hk)))).snoc (M.rep.kept fun k hk => e3 k (hF2 k hk) (hFu k hk)), ?_, ?_, ?_, ?_⟩
  · exact (e3 g (by omega) (fun e => by have := hub g e; omega)).trans M.ob
  · refine ⟨?_, ?_, ?_, by omega, fun k hk hn => ?_, fun k hk => .inl hk⟩
    · rcases hm with ⟨_, h⟩ | ⟨_, h⟩ <;> exact h.os.trans (M.chg.os.trans G.chg.os)
    · rcases hm with ⟨_, h⟩ | ⟨_, h⟩ <;> exact h.tape.trans (M.chg.tape.trans G.chg.tape)
    · rcases hm with ⟨_, h⟩ | ⟨_, h⟩ <;> exact h.output.trans (M.chg.output.trans G.chg.output)
    · exact (e3 k (by omega) (fun e => by have := hub k e; omega)).trans ((e12 k (by omega) (by simpa using hn)).trans (G.chg.block k hk hn))
  · intro k hk
    rcases List.mem_append.1 hk with hk | hk
    · exact G.new k hk
    · rcases M.new k hk with h | h
      · exact .inl h
      · right; simp at h; omega
  · intro k hk hm2
    rcases hm with ⟨h0, _⟩ | ⟨h0, _⟩
    · rw [h0] at hk
      rcases List.mem_append.1 hm2 with h | h
      · exact G.out k hk h
      · exact hFu k h hk
    · rw [h0] at hk
      simp at hk
      rcases List.mem_append.1 hm2 with h | h
      · have := hFR k h; omega
      · have := hF2 k h; omega
end Go.Proofs.Ytdidopgenhpakaa
/- HELPERS: ways are made: what is claimed of them on the way; so many copies. -/
namespace Go.Proofs.Ytdidopgenhpakaa
open Go.RowKit
set_option linter.unusedVariables false
set_option linter.unusedSimpArgs false
set_option maxRecDepth 100000 in
set_option maxHeartbeats 2000000 in
theorem choice97l (g K : Nat) (L : Nat → Prop) (v1 v2 : Value) (W1 W2 : Way) (F1 F2 : List Nat) (w : World) (h1 : Rep g K L w v1 W1 F1) (h2 : Rep g K L w v2 W2 F2) :
    Calls Try.prog 115 #[.bool true, v1, v2] w fun e w' => ∃ v F, e = .returned v ∧ Rep g K L w' v (.inOrder [W2, W1]) F ∧ Below w.heap.size w w' ∧ ∀ k ∈ F, k ∈ F1 ++ F2 ∨ w.heap.size ≤ k := by
  obtain ⟨f1, fi1, ca1, rfl⟩ := h1.form
  obtain ⟨f2, fi2, ca2, rfl⟩ := h2.form
  have hb : Below w.heap.size w (w.alloc (.cells #[.func (.func f2) fi2 ca2, .func (.func f1) fi1 ca1] 84)) := Joins.below_alloc1 w _
  have hrow : (w.alloc (.cells #[.func (.func f2) fi2 ca2, .func (.func f1) fi1 ca1] 84)).ownsRow w.heap.size 84 1 (.slice (some ⟨w.heap.size, 0, none⟩) 2 2) 2 [.func (.func f2) fi2 ca2, .func (.func f1) fi1 ca1] := by
    have := World.ownsRow_lit (base := w.heap.size) (e := 84) (size := 1) w #[.func (.func f2) fi2 ca2, .func (.func f1) fi1 ca1] 2 (Nat.le_refl _) (by unfold maxLen; omega) rfl
    exact this
  have HC := inOrder94 g K w.heap.size 0 L _ [W2, W1] _ (F2 ++ (F1 ++ [])) _ hrow (.cons (h2.kept fun k hk => hb.block k (h2.low k hk)) (.cons (h1.kept fun k hk => hb.block k (h1.low k hk)) .nil))
  have HB := hid hb
  clear h1 h2 hb hrow
  go_enter Try.func115, Try.ntmps115
  go_wp2_with (go_at_call 112; (with_reducible refine HC.mono ?_); rintro e w1 ⟨v, F, rfl, hr, hb1, hn⟩; obtain ⟨f, fi, ca, rfl⟩ := hr.form; have HR := hid hr; have HB1 := hid hb1; have HN := hid hn; clear hr hb1 hn)
  go_ret
  refine ⟨_, F, rfl, HR.out, HB.out.trans (Joins.below_le HB1.out (by simp)), fun k hk => ?_⟩
  rcases HN.out k hk with h | h
  · simp [Value.ownBlock] at h
    rcases h with rfl | h | h
    · right; omega
    · left; simp [h]
    · left; simp [h]
  · right; simp at h; omega
/-- a choice, lazy or not -/
theorem choice_any (g K : Nat) (L : Nat → Prop) (lz : Bool) (v1 v2 : Value) (W1 W2 : Way) (F1 F2 : List Nat) (w : World) (h1 : Rep g K L w v1 W1 F1) (h2 : Rep g K L w v2 W2 F2) :
    Calls Try.prog 115 #[.bool lz, v1, v2] w fun e w' => ∃ v F, e = .returned v ∧ Rep g K L w' v (.inOrder (if lz = true then [W2, W1] else [W1, W2])) F ∧ Below w.heap.size w w' ∧ ∀ k ∈ F, k ∈ F1 ++ F2 ∨ w.heap.size ≤ k := by
  cases lz with
  | false => exact choice97 g K L v1 v2 W1 W2 F1 F2 w h1 h2
  | true => exact choice97l g K L v1 v2 W1 W2 F1 F2 w h1 h2
/-- whatever loop -/
abbrev AL : Nat → Prop := fun _ => True
/-- a claim on how many things there are and a way; the blocks that it reads -/
structure Jd where
  p : Int → Way → List Nat → World → Prop
  stab : ∀ {n W FE w w'}, p n W FE w → w.heap.size ≤ w'.heap.size → (∀ k ∈ FE, w'.heap[k]? = w.heap[k]?) → p n W FE w'
  low : ∀ {n W FE w}, p n W FE w → ∀ k ∈ FE, k < w.heap.size
/-- to begin a node leads from a claim on what is behind it to one on what is made -/
def StepJ (g K : Nat) (A : Six) (N : Nd) (k : Int) (FX F0 : List Nat) (w : World) (J0 J1 : Jd) : Prop :=
  ∀ (w' : World) (v : Value) (n : Int) (B : Way) (F1 FE : List Nat), Chg w w' [g] [g] → O7 w' g A n → Rep g K AL w' v B F1 → g ∉ F1 → g ∉ FE → (∀ k ∈ F1, k ∈ F0 ∨ w.heap.size ≤ k) → (∀ k ∈ FE, k ∈ F0 ∨ w.heap.size ≤ k) → J0.p n B FE w' →
    Calls Try.prog 57 #[pt g, N.v k, v] w' fun e w'' => ∃ u F FE' n1 W, e = .returned u ∧ Mk g K AL w' w'' A n1 u W (FX ++ F1) F ∧ J1.p n1 W FE' w'' ∧ ∀ k ∈ FE', k ∈ FE ∨ k ∈ FX ++ F1 ∨ w'.heap.size ≤ k
theorem StepJ.widen {g K : Nat} {A : Six} {N : Nd} {k : Int} {FX F0 F0' : List Nat} {w w1 : World} {J0 J1 : Jd} (h : StepJ g K A N k FX F0 w J0 J1) (hc : Chg w w1 [g] [g]) (hF : ∀ k ∈ F0', k ∈ F0 ∨ w.heap.size ≤ k) : StepJ g K A N k FX F0' w1 J0 J1 :=
  fun w' v n B F1 FE h1 h2 h3 h4 h5 h6 h7 h8 => h w' v n B F1 FE (hc.trans h1) h2 h3 h4 h5
    (fun k hk => by
      rcases h6 k hk with h | h
      · exact hF k h
      · right; exact Nat.le_trans hc.size h)
    (fun k hk => by
      rcases h7 k hk with h | h
      · exact hF k h
      · right; exact Nat.le_trans hc.size h) h8
theorem StepJ.next {g K : Nat} {A : Six} {N : Nd} {k : Int} {FX F0 : List Nat} {w w1 : World} {J0 J1 : Jd} (h : StepJ g K A N k FX F0 w J0 J1) (hc : Chg w w1 [g] [g]) : StepJ g K A N k FX F0 w1 J0 J1 := h.widen hc fun k hk => .inl hk
/-- what is made, with what is claimed of it -/
structure Mj (g K : Nat) (J : Jd) (w w' : World) (A : Six) (n : Int) (v : Value) (W : Way) (F0 F FE : List Nat) : Prop where
  m : Mk g K AL w w' A n v W F0 F
  j : J.p n W FE w'
  newE : ∀ k ∈ FE, k ∈ F0 ∨ w.heap.size ≤ k
theorem Mj.awayE {g K : Nat} {J : Jd} {w w' : World} {A : Six} {n : Int} {v : Value} {W : Way} {F0 F FE : List Nat} (h : Mj g K J w w' A n v W F0 F FE) (hg : g ∉ F0) (hl : g < w.heap.size) : g ∉ FE := fun hm => by
  rcases h.newE g hm with h | h
  · exact hg h
  · omega
theorem Jd.alloc (J : Jd) {n : Int} {W : Way} {FE : List Nat} {w : World} (h : J.p n W FE w) (o : Obj) : J.p n W FE (w.alloc o) := J.stab h (by simp) fun k hk => heap_alloc_old w o (J.low h k hk)
theorem Jd.drew (J : Jd) {n : Int} {W : Way} {FE : List Nat} {w : World} (h : J.p n W FE w) : J.p n W FE w.drew := J.stab h (Nat.le_refl _) fun k hk => rfl
theorem Jd.chg (J : Jd) {n : Int} {W : Way} {FE : List Nat} {w w' : World} {g : Nat} (h : J.p n W FE w) (hc : Chg w w' [g] [g]) (hg : g ∉ FE) : J.p n W FE w' := J.stab h hc.size fun k hk => hc.block k (J.low h k hk) (by simp; intro e; exact hg (e ▸ hk))
theorem Jd.below (J : Jd) {n : Int} {W : Way} {FE : List Nat} {w w' : World} (h : J.p n W FE w) (hc : Below w.heap.size w w') : J.p n W FE w' := J.stab h hc.size fun k hk => hc.block k (J.low h k hk)
set_option maxRecDepth 100000 in
set_option maxHeartbeats 4000000 in
theorem timesJ98 (g K c : Nat) (A : Six) (N : Nd) (k n : Int) (B : Way) (J : Nat → Jd) (FX F0 FE : List Nat) (vb : Value) (w : World) (hO : O7 w g A n) (hR : Rep g K AL w vb B F0) (hJ0 : (J 0).p n B FE w) (hgF : g ∉ F0) (hgX : g ∉ FX) (hgE : g ∉ FE) (hc : c ≤ 1000000)
    (HB : Hid (∀ i, i < c → StepJ g K A N k FX (FX ++ (F0 ++ FE)) w (J i) (J (i + 1)))) :
    Calls Try.prog 116 #[pt g, .int .i64 (c : Int), N.v k, vb] w fun e w' => ∃ v F FE' n' W, e = .returned v ∧ Mj g K (J c) w w' A n' v W (FX ++ (F0 ++ FE)) F FE' := by
  obtain ⟨f, fi, ca, rfl⟩ := hR.form
  have hgl := (Array.getElem?_eq_some_iff.1 hO).1
  have hch : Chg w (w.alloc (N.o k)) [g] [g] := (Chg.refl w [g]).alloc _
  have hM0 : Mj g K (J 0) w (w.alloc (N.o k)) A n (.func (.func f) fi ca) B (FX ++ (F0 ++ FE)) F0 FE := ⟨⟨hR.kept fun j hj => heap_alloc_old w _ (hR.low j hj), (heap_alloc_old w _ hgl).trans hO, hch, fun j hj => .inl (by simp [hj])⟩, (J 0).alloc hJ0 _, fun j hj => .inl (by simp [hj])⟩
  have hz : (w.alloc (N.o k)).heap[w.heap.size]? = some (.cells #[.int .i64 k, .slice N.r1 N.r2 N.r3, .int .i64 N.a2, .slice N.s1 N.s2 N.s3, .int .i64 N.a4, .int .i64 N.a5, .bool N.a6, .int .i64 N.a7, .string N.a8] 25 (0, 0)) := heap_alloc_new w _
  have hgA : g ∉ FX ++ (F0 ++ FE) := by simp; exact ⟨hgX, hgF, hgE⟩
  have HM0 := hid hM0
  have HZ := hid hz
  have HGA := hid hgA
  clear hO hR hch hM0 hz hgX hgF hgE hgA hJ0
  go_enter Try.func116, Try.ntmps116
  go_wp2_with fail
  go_loopw [3, 10] (fun u x wq => ∃ (i : Nat) (f' : FuncId) (fi' ca' : Array Value), u = .func (.func f') fi' ca' ∧ x = .int .i64 (i : Int) ∧ i ≤ c ∧ Hid (∃ F FE' n' W, Mj g K (J i) w wq A n' (.func (.func f') fi' ca') W (FX ++ (F0 ++ FE)) F FE') ∧ Hid (wq.heap[w.heap.size]? = some (.cells #[.int .i64 k, .slice N.r1 N.r2 N.r3, .int .i64 N.a2, .slice N.s1 N.s2 N.s3, .int .i64 N.a4, .int .i64 N.a5, .bool N.a6, .int .i64 N.a7, .string N.a8] 25 (0, 0)))) (fun _ x _ => c - (intOf x).toNat)
  case atStart => exact ⟨0, f, fi, ca, rfl, rfl, by omega, by exact ⟨F0, FE, n, B, HM0.out⟩, HZ.out⟩
  case round =>
    obtain ⟨i, f', fi', ca', rfl, rfl, hi, HI, HN⟩ := hrel
    by_cases hil : i < c
    · have b1 : decide ((i : Int) < (c : Int)) = true := by simp; omega
      have b2 : (i : Int) < (c : Int) := by omega
      obtain ⟨F, FE1, n1, W1, M⟩ := HI.out
      obtain ⟨o0, o1, o2, o3, o4, o5, o6, o7, o8⟩ := nine' HN.out
      have HC := HB.out i hil wr _ n1 W1 F FE1 M.m.chg M.m.ob M.m.rep (M.m.away HGA.out hgl) (M.awayE HGA.out hgl) M.m.new M.newE M.j
      have ad1 : IntKind.i64.wrap ((i : Int) + 1) = (i : Int) + 1 := by simp [IntKind.wrap, IntKind.bits, IntKind.signed]; omega
      have HM := hid M
      clear M HI
      go_wp2_with (first | (go_at_call 57; (with_reducible refine HC.mono ?_); rintro e w2 ⟨u, F2, FE2, n2, W2, rfl, M2, j2, hE2⟩; obtain ⟨f2, fi2, ca2, rfl⟩ := M2.rep.form; have HM2 := hid M2; have HJ2 := hid j2; have HE2 := hid hE2; clear M2 HC j2 hE2))
      refine ⟨⟨i + 1, f2, fi2, ca2, rfl, by push_cast; rfl, by omega, ?_, ?_⟩, by simp [intOf]; omega⟩
      · have sz := HM.out.m.chg.size
        refine ⟨F2, FE2, n2, W2, ⟨HM2.out.rep, HM2.out.ob, HM.out.m.chg.trans HM2.out.chg, fun j hj => ?_⟩, HJ2.out, fun j hj => ?_⟩
        · rcases HM2.out.new j hj with h | h
          · rcases List.mem_append.1 h with h | h
            · left; simp [h]
            · exact HM.out.m.new j h
          · right; omega
        · rcases HE2.out j hj with h | h | h
          · exact HM.out.newE j h
          · rcases List.mem_append.1 h with h | h
            · left; simp [h]
            · exact HM.out.m.new j h
          · right; omega
      · exact (HM2.out.chg.block w.heap.size (Array.getElem?_eq_some_iff.1 HN.out).1 (by simp; omega)).trans HN.out
    · have b1 : decide ((i : Int) < (c : Int)) = false := by simp; omega
      obtain rfl : i = c := by omega
      go_wp2
      go_ret
      obtain ⟨F, FE1, n1, W1, M⟩ := HI.out
      exact ⟨_, F, FE1, n1, W1, rfl, M⟩
end Go.Proofs.Ytdidopgenhpakaa
/- HELPERS: to begin a node, with what is claimed of the ways: a group, alternatives. -/
namespace Go.Proofs.Ytdidopgenhpakaa
open Go.RowKit
set_option linter.unusedVariables false
set_option linter.unusedSimpArgs false
set_option maxRecDepth 100000 in
set_option maxHeartbeats 4000000 in
theorem groupJ (g K i sb o s3 : Nat) (A : Six) (n : Int) (N M : Nd) (km : Int) (B : Way) (J1 J2 : Jd) (FX F0 FE : List Nat) (vb : Value) (w : World) (hO : O7 w g A n) (hR : Rep g K AL w vb B F0) (hj : J1.p n (.noted (2 * i + 1) B) FE w) (hgF : g ∉ F0) (hgX : g ∉ FX) (hgE : g ∉ FE) (hi : 2 * i + 1 < K) (hi2 : i ≤ 1000)
    (hN : N.s1 = some ⟨sb, o, none⟩ ∧ N.s2 = 1 ∧ N.s3 = s3 ∧ N.a7 = (i : Int)) (hs3 : 1 ≤ s3) (hsb : sb < w.heap.size) (hsg : sb ≠ g) (hc : C9 w sb o 0 M km) (hn1 : ∀ n W FE w, J2.p n W FE w → 0 ≤ n ∧ n < 1000000000) (HB : StepJ g K A M km FX (F0 ++ FE) w J1 J2) :
    Calls Try.prog 57 #[pt g, N.v 7, vb] w fun e w' => ∃ v F FE' n1 W1, e = .returned v ∧ Mk g K AL w w' A (n1 + 1) v (.once (n1 + 1) (.noted (2 * i) W1)) (FX ++ (F0 ++ FE)) F ∧ J2.p n1 W1 FE' w' ∧ ∀ k ∈ FE', k ∈ FX ++ (F0 ++ FE) ∨ w.heap.size ≤ k := by
  obtain ⟨f, fi, ca, rfl⟩ := hR.form
  have hgl := (Array.getElem?_eq_some_iff.1 hO).1
  obtain ⟨h1, h2, h3, h4⟩ := three_new w (.cells #[pt g] 65) (N.o 7) (.cells #[.func (.func f) fi ca] 84)
  have hch : Chg w (((w.alloc (.cells #[pt g] 65)).alloc (N.o 7)).alloc (.cells #[.func (.func f) fi ca] 84)) [g] [g] := (((Chg.refl w [g]).alloc _).alloc _).alloc _
  obtain ⟨W, hW⟩ : ∃ W, W = (((w.alloc (.cells #[pt g] 65)).alloc (N.o 7)).alloc (.cells #[.func (.func f) fi ca] 84)) := ⟨_, rfl⟩
  rw [← hW] at h1 h2 h3 h4 hch
  have hsW : W.heap.size = w.heap.size + 1 + 1 + 1 := by rw [hW]; simp
  have hRW : Rep g K AL W.drew (.func (.func f) fi ca) B F0 := (hR.kept fun k hk => hch.block k (hR.low k hk) (by simp; intro e; exact hgF (e ▸ hk))).kept fun k hk => rfl
  have HC := noted68 g K (2 * i + 1) AL A n (.func (.func f) fi ca) B F0 W.drew ((h4 g hgl).trans hO) hRW hgF hi
  obtain ⟨q0, q1, q2, q3, q4, q5, q6, q7, q8⟩ := hc.kept (h4 sb hsb)
  simp only [Nat.zero_mul, Nat.add_zero] at q0 q1 q2 q3 q4 q5 q6 q7 q8
  have x3 : W.cell? ⟨w.heap.size, 0, none⟩ = some (pt g) := bx0 h1
  have x5 : W.cell? ⟨w.heap.size + 1 + 1, 0, none⟩ = some (.func (.func f) fi ca) := bx0 h3
  have x43 : W.cell? ⟨w.heap.size + 1, 3, none⟩ = some (.slice (some ⟨sb, o, none⟩) 1 s3) := by have h := Joins.cell_of_block h2 3; simpa [hN.1, hN.2.1, hN.2.2.1] using h
  have x47 : W.cell? ⟨w.heap.size + 1, 7, none⟩ = some (.int .i64 (i : Int)) := by have h := Joins.cell_of_block h2 7; simpa [hN.2.2.2] using h
  have m1 : IntKind.i64.wrap (2 * (i : Int)) = 2 * (i : Int) := by simp [IntKind.wrap, IntKind.bits, IntKind.signed]; omega
  have m2 : IntKind.i64.wrap (2 * (i : Int) + 1) = 2 * (i : Int) + 1 := by simp [IntKind.wrap, IntKind.bits, IntKind.signed]; omega
  rw [show ((2 * i + 1 : Nat) : Int) = 2 * (i : Int) + 1 by omega] at HC
  obtain ⟨z, hz⟩ : ∃ z, z = w.heap.size := ⟨_, rfl⟩
  have hS : ∀ w1, Chg W w1 [g] [g] → w1.cell? ⟨w.heap.size, 0, none⟩ = some (pt g) ∧ w1.cell? ⟨w.heap.size + 1, 3, none⟩ = some (.slice (some ⟨sb, o, none⟩) 1 s3) ∧ w1.cell? ⟨w.heap.size + 1, 7, none⟩ = some (.int .i64 (i : Int)) ∧ w1.cell? ⟨w.heap.size + 1 + 1, 0, none⟩ = some (.func (.func f) fi ca) ∧
      w1.cell? ⟨sb, o, none⟩ = some (.int .i64 km) ∧ w1.cell? ⟨sb, o + 1, none⟩ = some (.slice M.r1 M.r2 M.r3) ∧ w1.cell? ⟨sb, o + 2, none⟩ = some (.int .i64 M.a2) ∧ w1.cell? ⟨sb, o + 3, none⟩ = some (.slice M.s1 M.s2 M.s3) ∧ w1.cell? ⟨sb, o + 4, none⟩ = some (.int .i64 M.a4) ∧ w1.cell? ⟨sb, o + 5, none⟩ = some (.int .i64 M.a5) ∧ w1.cell? ⟨sb, o + 6, none⟩ = some (.bool M.a6) ∧ w1.cell? ⟨sb, o + 7, none⟩ = some (.int .i64 M.a7) ∧ w1.cell? ⟨sb, o + 8, none⟩ = some (.string M.a8) := fun w1 hc1 => by
    have e : ∀ k o, k < W.heap.size → k ≠ g → w1.cell? ⟨k, o, none⟩ = W.cell? ⟨k, o, none⟩ := fun k o h1 h2 => cell_heap (hc1.block k h1 (by simpa using h2)) o
    exact ⟨(e _ _ (by omega) (by omega)).trans x3, (e _ _ (by omega) (by omega)).trans x43, (e _ _ (by omega) (by omega)).trans x47, (e _ _ (by omega) (by omega)).trans x5, (e _ _ (by omega) hsg).trans q0, (e _ _ (by omega) hsg).trans q1, (e _ _ (by omega) hsg).trans q2, (e _ _ (by omega) hsg).trans q3, (e _ _ (by omega) hsg).trans q4, (e _ _ (by omega) hsg).trans q5, (e _ _ (by omega) hsg).trans q6, (e _ _ (by omega) hsg).trans q7, (e _ _ (by omega) hsg).trans q8⟩
  have hd : Chg W W.drew [g] [g] := (Chg.refl W [g]).drew
  have HD := hid hd
  have HSS := hid hS
  have HCH := hid hch
  have HS := hid hsW
  have HHG := hid hgF
  have HHX := hid hgX
  have HBB := hid HB
  have HJ := hid hj
  have HHE := hid hgE
  have hgW : g < W.heap.size := by omega
  clear hO hch h1 h2 h3 h4 hgF hsW HB hN hc hR hRW hS hd q0 q1 q2 q3 q4 q5 q6 q7 q8 x3 x5 x43 x47 hgX hj hgE
  go_enter Try.func57, Try.ntmps57
  go_wp2_with fail
  rw [← hW, ← hz]
  rw [← hz] at HSS HS
  have HW := hid hW
  have HZ := hid hz
  clear hW hz
  go_region_held2 (fun w1 => w1.cell? ⟨z, 0, none⟩ = some (pt g) ∧ w1.cell? ⟨z + 1, 3, none⟩ = some (.slice (some ⟨sb, o, none⟩) 1 s3) ∧ w1.cell? ⟨z + 1, 7, none⟩ = some (.int .i64 (i : Int)) ∧ w1.cell? ⟨z + 1 + 1, 0, none⟩ = some (.func (.func f) fi ca) ∧
      w1.cell? ⟨sb, o, none⟩ = some (.int .i64 km) ∧ w1.cell? ⟨sb, o + 1, none⟩ = some (.slice M.r1 M.r2 M.r3) ∧ w1.cell? ⟨sb, o + 2, none⟩ = some (.int .i64 M.a2) ∧ w1.cell? ⟨sb, o + 3, none⟩ = some (.slice M.s1 M.s2 M.s3) ∧ w1.cell? ⟨sb, o + 4, none⟩ = some (.int .i64 M.a4) ∧ w1.cell? ⟨sb, o + 5, none⟩ = some (.int .i64 M.a5) ∧ w1.cell? ⟨sb, o + 6, none⟩ = some (.bool M.a6) ∧ w1.cell? ⟨sb, o + 7, none⟩ = some (.int .i64 M.a7) ∧ w1.cell? ⟨sb, o + 8, none⟩ = some (.string M.a8))
    (first | exact HSS.out _ HD.out | exact HSS.out _ (HD.out.trans HM1.out.chg) | exact HSS.out _ (HD.out.trans (HM1.out.chg.trans HM2.out.chg)))
    (first | (go_at_call 86; (with_reducible refine HC.mono ?_); rintro e w1 ⟨v1, F1, rfl, M1⟩; obtain ⟨f1, fi1, ca1, rfl⟩ := M1.rep.form; have HC2 := HBB.out w1 _ n _ F1 FE (HCH.out.trans (HD.out.trans M1.chg)) M1.ob M1.rep (M1.away HHG.out hgW) HHE.out (fun k hk => by rcases M1.new k hk with h | h; (left; simp [h]); (right; have h : W.heap.size ≤ k := h; have := HS.out; have := HZ.out; omega)) (fun k hk => .inl (by simp [hk])) (J1.chg HJ.out (HCH.out.trans (HD.out.trans M1.chg)) HHE.out); have HM1 := hid M1; clear M1 HC) | (go_at_call 57; (with_reducible refine HC2.mono ?_); rintro e w2 ⟨v2, F2, FE2, n1, W1, rfl, M2, j2, hE2⟩; obtain ⟨f2, fi2, ca2, rfl⟩ := M2.rep.form; have HM2 := hid M2; have HJ2 := hid j2; have HE2 := hid hE2; clear M2 HC2 j2 hE2))
  all_goals
    have hg2 : g ∉ F2 := HM2.out.away (by simp; exact ⟨HHX.out, HM1.out.away HHG.out hgW⟩) (by have := HM1.out.chg.size; have h : W.heap.size ≤ w1.heap.size := this; omega)
    have HC3 := noted68 g K (2 * i) AL A n1 _ _ F2 w2.drew HM2.out.ob (HM2.out.rep.kept fun k hk => rfl) hg2 (by omega)
    rw [show ((2 * i : Nat) : Int) = 2 * (i : Int) by omega] at HC3
    have hd2 : Chg w2 w2.drew [g] [g] := (Chg.refl w2 [g]).drew
    have HD2 := hid hd2
    have HG2 := hid hg2
    clear hd2 hg2
    go_wp2_with fail
    go_region_held2 (fun w1 => w1.cell? ⟨z, 0, none⟩ = some (pt g) ∧ w1.cell? ⟨z + 1, 7, none⟩ = some (.int .i64 (i : Int)))
      (first | exact ⟨(HSS.out _ (HD.out.trans (HM1.out.chg.trans (HM2.out.chg.trans HD2.out)))).1, (HSS.out _ (HD.out.trans (HM1.out.chg.trans (HM2.out.chg.trans HD2.out)))).2.2.1⟩ | exact ⟨(HSS.out _ (HD.out.trans (HM1.out.chg.trans (HM2.out.chg.trans (HD2.out.trans HM3.out.chg))))).1, (HSS.out _ (HD.out.trans (HM1.out.chg.trans (HM2.out.chg.trans (HD2.out.trans HM3.out.chg))))).2.2.1⟩ | exact ⟨(HSS.out _ (HD.out.trans (HM1.out.chg.trans (HM2.out.chg.trans (HD2.out.trans (HM3.out.chg.trans HM4.out.chg)))))).1, (HSS.out _ (HD.out.trans (HM1.out.chg.trans (HM2.out.chg.trans (HD2.out.trans (HM3.out.chg.trans HM4.out.chg)))))).2.2.1⟩)
      (first | (go_at_call 86; (with_reducible refine HC3.mono ?_); rintro e w3 ⟨v3, F3, rfl, M3⟩; obtain ⟨f3, fi3, ca3, rfl⟩ := M3.rep.form; have HC4 := once54 g K AL A n1 _ _ F3 w3 M3.ob M3.rep (M3.away HG2.out (by have h : W.heap.size ≤ w1.heap.size := HM1.out.chg.size; have := HM2.out.chg.size; show g < w2.heap.size; omega)) (hn1 _ _ _ _ HJ2.out); have HM3 := hid M3; clear M3 HC3) | (go_at_call 58; (with_reducible refine HC4.mono ?_); rintro e w4 ⟨v4, F4, rfl, M4⟩; obtain ⟨f4, fi4, ca4, rfl⟩ := M4.rep.form; have HM4 := hid M4; clear M4 HC4))
    all_goals
      go_wp2
      go_ret
      have hz := HZ.out
      have hs := HS.out
      have sz1 : W.heap.size ≤ w1.heap.size := HM1.out.chg.size
      have sz2 := HM2.out.chg.size
      have f1 : ∀ k ∈ F1, k ∈ FX ++ (F0 ++ FE) ∨ w.heap.size ≤ k := fun k hk => by
        rcases HM1.out.new k hk with h | h
        · left; simp [h]
        · right; have h : W.heap.size ≤ k := h; omega
      have f2 : ∀ k ∈ FX ++ F1, k ∈ FX ++ (F0 ++ FE) ∨ w.heap.size ≤ k := fun k hk => by
        rcases List.mem_append.1 hk with h | h
        · left; simp [h]
        · exact f1 k h
      have fE : ∀ k ∈ FE2, k ∈ FX ++ (F0 ++ FE) ∨ w.heap.size ≤ k := fun k hk => by
        rcases HE2.out k hk with h | h | h
        · left; simp [h]
        · exact f2 k h
        · right; omega
      have hgE2 : g ∉ FE2 := fun hm => by
        rcases HE2.out g hm with h | h | h
        · exact HHE.out h
        · rcases List.mem_append.1 h with h | h
          · exact HHX.out h
          · exact HM1.out.away HHG.out hgW h
        · omega
      have hc24 : Chg w2 w4 [g] [g] := HD2.out.trans (HM3.out.chg.trans HM4.out.chg)
      refine ⟨_, F4, FE2, n1, W1, rfl, ⟨HM4.out.rep, HM4.out.ob, HCH.out.trans (HD.out.trans (HM1.out.chg.trans (HM2.out.chg.trans hc24))), fun k hk => ?_⟩, J2.chg HJ2.out hc24 hgE2, fE⟩
      rcases (HM3.out.trans HM4.out).new k hk with h | h
      · rcases HM2.out.new k h with h | h
        · exact f2 k h
        · right; omega
      · right; have h : w2.heap.size ≤ k := h; omega
/-- a claim on how many things there are and a row of ways -/
structure Jl where
  p : Int → List Way → List Nat → World → Prop
  stab : ∀ {n W FE w w'}, p n W FE w → w.heap.size ≤ w'.heap.size → (∀ k ∈ FE, w'.heap[k]? = w.heap[k]?) → p n W FE w'
  low : ∀ {n W FE w}, p n W FE w → ∀ k ∈ FE, k < w.heap.size
theorem Jl.alloc (J : Jl) {n : Int} {W : List Way} {FE : List Nat} {w : World} (h : J.p n W FE w) (o : Obj) : J.p n W FE (w.alloc o) := J.stab h (by simp) fun k hk => heap_alloc_old w o (J.low h k hk)
theorem Jl.below (J : Jl) {n : Int} {W : List Way} {FE : List Nat} {w w' : World} (h : J.p n W FE w) (hc : Below w.heap.size w w') : J.p n W FE w' := J.stab h hc.size fun k hk => hc.block k (J.low h k hk)
theorem Jl.chg (J : Jl) {n : Int} {W : List Way} {FE : List Nat} {w w' : World} {g : Nat} (h : J.p n W FE w) (hc : Chg w w' [g] [g]) (hg : g ∉ FE) : J.p n W FE w' := J.stab h hc.size fun k hk => hc.block k (J.low h k hk) (by simp; intro e; exact hg (e ▸ hk))
/-- to begin the next alternative -/
def StepL (g K : Nat) (A : Six) (N : Nd) (k : Int) (f : FuncId) (fi ca : Array Value) (FS : List Nat) (w : World) (J0 J1 : Jl) : Prop :=
  ∀ (w' : World) (n : Int) (l : List Way) (FE : List Nat), Chg w w' [g] [g] → O7 w' g A n → J0.p n l FE w' → g ∉ FE → (∀ k ∈ FE, k ∈ FS ∨ w.heap.size ≤ k) →
    Calls Try.prog 57 #[pt g, N.v k, .func (.func f) fi ca] w' fun e w'' => ∃ v F FE' n1 W, e = .returned v ∧ Mk g K AL w' w'' A n1 v W FS F ∧ J1.p n1 (l ++ [W]) FE' w'' ∧ ∀ k ∈ FE', k ∈ FE ∨ k ∈ FS ∨ w'.heap.size ≤ k
theorem Gr.len {g K : Nat} {L : Nat → Prop} {w wq : World} {A : Six} {n : Int} {uv : Value} {i : Nat} {l : List Way} {FS : List Nat} {vs : List Value} {FR : List Nat} (h : Gr g K L w wq A n uv i l FS vs FR) : i = l.length := by
  rw [← h.reps.len]
  have := h.row.1
  omega
/-- the row of ways as it grows, with what is claimed of them -/
structure GrJ (g K : Nat) (J : Jl) (w wq : World) (A : Six) (n : Int) (uv : Value) (i : Nat) (l : List Way) (FS : List Nat) (vs : List Value) (FR FE : List Nat) : Prop where
  gr : Gr g K AL w wq A n uv i l FS vs FR
  j : J.p n l FE wq
  newE : ∀ k ∈ FE, k ∈ FS ∨ w.heap.size ≤ k
  outE : ∀ k, uv.ownBlock = some k → k ∉ FE
theorem GrJ.awayE {g K : Nat} {J : Jl} {w wq : World} {A : Six} {n : Int} {uv : Value} {i : Nat} {l : List Way} {FS : List Nat} {vs : List Value} {FR FE : List Nat} (h : GrJ g K J w wq A n uv i l FS vs FR FE) (hg : g ∉ FS) (hl : g < w.heap.size) : g ∉ FE := fun hm => by
  rcases h.newE g hm with h | h
  · exact hg h
  · omega
theorem GrJ.next {g K : Nat} {J J1 : Jl} {w wq w2 w3 : World} {A : Six} {n n2 : Int} {uv v v' : Value} {i : Nat} {l : List Way} {d : Way} {FS FR F FE FE2 : List Nat} {vs : List Value} (G : GrJ g K J w wq A n uv i l FS vs FR FE) (o o2 : Obj) (M : Mk g K AL (wq.alloc o) w2 A n2 v d FS F)
    (j2 : J1.p n2 (l ++ [d]) FE2 w2) (hE2 : ∀ k ∈ FE2, k ∈ FE ∨ k ∈ FS ∨ (wq.alloc o).heap.size ≤ k)
    (hgl : g < w.heap.size) (hgF : g ∉ FS) (hFl : ∀ k ∈ FS, k < w.heap.size) (ho : w3.ownsRow w.heap.size 84 1 v' (i + 1) (vs ++ [v])) (hm : Moved (w2.alloc o2) w3 uv v') : GrJ g K J1 w w3 A n2 v' (i + 1) (l ++ [d]) FS (vs ++ [v]) (FR ++ F) FE2 := by
  have hub : ∀ k, uv.ownBlock = some k → w.heap.size ≤ k ∧ k < wq.heap.size := fun k hk => G.gr.row.lt k hk
  have s1 := G.gr.chg.size
  have s2 := M.chg.size
  simp at s2
  have hu : ∀ k ∈ FE2, uv.ownBlock ≠ some k := fun k hk e => by
    have := hub k e
    rcases hE2 k hk with h | h | h
    · exact G.outE k e h
    · have := hFl k h; omega
    · simp at h; omega
  have hlow := J1.low j2
  have e3 : ∀ k ∈ FE2, w3.heap[k]? = w2.heap[k]? := fun k hk => by
    have e : (w2.alloc o2).heap[k]? = w2.heap[k]? := heap_alloc_old w2 o2 (hlow k hk)
    rcases hm with ⟨_, h⟩ | ⟨_, h⟩
    · exact (h.block k (by have := hlow k hk; simp; omega) (fun h => hu k hk h.symm)).trans e
    · exact (h.block k (by have := hlow k hk; simp; omega) (by simp)).trans e
  have hs3 : w2.heap.size ≤ w3.heap.size := by rcases hm with ⟨_, h⟩ | ⟨_, h⟩ <;> (have := h.size; simp at this; omega)
  refine ⟨G.gr.next o o2 M hgl hgF hFl ho hm, J1.stab j2 hs3 e3, fun k hk => ?_, fun k hk hmm => ?_⟩
  · rcases hE2 k hk with h | h | h
    · exact G.newE k h
    · exact .inl h
    · right; simp at h; omega
  · rcases hm with ⟨h0, _⟩ | ⟨h0, _⟩
    · rw [h0] at hk
      exact hu k hmm hk
    · rw [h0] at hk
      simp at hk
      have := hlow k hmm
      omega
set_option maxRecDepth 100000 in
set_option maxHeartbeats 4000000 in
theorem firstOfJ67 (g K m sb o s3 : Nat) (A : Six) (J : Nat → Jl) (n0 : Int) (FE0 : List Nat) (FS : List Nat) (ND : Nat → Nd) (KD : Nat → Int) (f : FuncId) (fi ca : Array Value) (w : World) (hO : O7 w g A n0) (hj0 : (J 0).p n0 [] FE0 w) (hgF : g ∉ FS) (hEF : ∀ k ∈ FE0, k ∈ FS)
    (hFl : ∀ k ∈ FS, k < w.heap.size) (hsb : sb < w.heap.size) (hsg : sb ≠ g) (hm : m ≤ 1000000) (hcap : m ≤ s3) (hcells : Hid (∀ i, i < m → C9 w sb o i (ND i) (KD i)))
    (HB : Hid (∀ i, i < m → StepL g K A (ND i) (KD i) f fi ca FS w (J i) (J (i + 1)))) :
    Calls Try.prog 85 #[pt g, .slice (some ⟨sb, o, none⟩) m s3, .func (.func f) fi ca] w fun e w' => ∃ v F FE n l, e = .returned v ∧ Mk g K AL w w' A n v (.inOrder l) FS F ∧ (J m).p n l FE w' ∧ ∀ k ∈ FE, k ∈ FS ∨ w.heap.size ≤ k := by
  have HO := hid hO
  have HGF := hid hgF
  have HJ0 := hid hj0
  have HEF := hid hEF
  have HFL := hid hFl
  have hgl := (Array.getElem?_eq_some_iff.1 hO).1
  obtain ⟨i0, hi0, hz0, hz1, hz2⟩ := info_parts info84
  clear hO hgF hFl hj0 hEF
  go_enter Try.func85, Try.ntmps85
  go_wp2_with fail
  go_loopw [7, 12] (fun u x wq => ∃ (i : Nat) (u1 : Option Addr) (u3 : Nat), u = .slice u1 i u3 ∧ x = .int .i64 (i : Int) ∧ i ≤ m ∧ Hid (∃ vs FR FE n l, GrJ g K (J i) w wq A n (.slice u1 i u3) i l FS vs FR FE)) (fun _ x _ => m - (intOf x).toNat)
  case atStart => exact ⟨0, none, 0, rfl, rfl, by omega, by exact ⟨[], [], FE0, n0, [], ⟨World.ownsRow_nil _ _ _ _, .nil, HO.out, Chg.refl w [g], (fun k hk => by cases hk), (fun k hk hm => by cases hm)⟩, HJ0.out, (fun k hk => .inl (HEF.out k hk)), (fun k hk hm => by cases hk)⟩⟩
  case round =>
    obtain ⟨i, u1, u3, rfl, rfl, hi, HI⟩ := hrel
    by_cases hil : i < m
    · have b1 : decide ((i : Int) < (m : Int)) = true := by simp; omega
      have b2 : (i : Int) < (m : Int) := by omega
      obtain ⟨vs, FR, FE, n, l, GJ⟩ := HI.out
      have G := GJ.gr
      obtain ⟨n0, n1, n2, n3, n4, n5, n6, n7, n8⟩ := (hcells.out i hil).kept (G.chg.block sb hsb (by simpa using hsg))
      have HC := HB.out i hil (wr.alloc ((ND i).o (KD i))) n l FE (G.chg.alloc _) ((heap_alloc_old wr _ (by have := G.chg.size; omega)).trans G.ob) ((J i).alloc GJ.j _) (GJ.awayE HGF.out hgl) GJ.newE
      obtain ⟨N, hN⟩ : ∃ N, N = ND i := ⟨_, rfl⟩
      obtain ⟨k, hk⟩ : ∃ k, k = KD i := ⟨_, rfl⟩
      rw [← hN] at HC n1 n2 n3 n4 n5 n6 n7 n8
      rw [← hk] at HC n0
      have HG := hid G
      have HGJ := hid GJ
      have ad1 : IntKind.i64.wrap ((i : Int) + 1) = (i : Int) + 1 := by simp [IntKind.wrap, IntKind.bits, IntKind.signed]; omega
      clear G GJ hN hk HI
      go_wp2_with (first | (go_at_call 57; (with_reducible refine HC.mono ?_); rintro e w2 ⟨v, F, FE2, n2, W2, rfl, M, j2, hE2⟩; obtain ⟨f2, fi2, ca2, rfl⟩ := M.rep.form; have HJ2 := hid j2; have HE2 := hid hE2; clear j2 hE2; have hrow2 : w2.ownsRow w.heap.size 84 1 (.slice u1 i u3) i vs := row_kept HG.out.row (fun b hb => (M.chg.block b (by have := (HG.out.row.lt b hb).2; simp; omega) (by have := (HG.out.row.lt b hb).1; simp; omega)).trans (heap_alloc_old wr _ (HG.out.row.lt b hb).2)); have HR2 := hid hrow2; have hs2 : w.heap.size ≤ w2.heap.size := (by have := M.chg.size; have := HG.out.chg.size; simp at *; omega); have HM := hid M; clear M hrow2 HC) | (at_builtin; refine wpList_append_move rfl (.tmp 16) (.tmp 21) 142 rfl w.heap.size 84 i0 .nilFunc 8 Try.underlying142 hi0 hz0 hz1 hz2 rfl (.slice u1 i u3) i vs rfl (HR2.out.alloc _) ⟨w2.heap.size, 0, none⟩ 1 1 [.func (.func f2) fi2 ca2] rfl rfl (by decide) (one_new w2 _ 84) (by intro u hu; simp at hu; subst hu; rfl) (by unfold maxLen; omega) (by omega) (by simp; omega) ?_; intro v' w3 ho3 hm3; obtain ⟨vb, vc, rfl⟩ := Joins.ownsRow_form ho3.out (by omega)))
      refine ⟨⟨i + 1, _, _, rfl, by push_cast; rfl, by omega, ?_⟩, ?_⟩
      · exact ⟨_, _, _, _, _, HGJ.out.next _ _ HM.out HJ2.out HE2.out hgl HGF.out HFL.out ho3.out hm3.out⟩
      · simp [intOf]
        omega
    · have b1 : decide ((i : Int) < (m : Int)) = false := by simp; omega
      obtain rfl : i = m := by omega
      obtain ⟨vs, FR, FE, n, l, GJ⟩ := HI.out
      have G := GJ.gr
      have HC := inOrder94 g K w.heap.size 0 AL _ _ _ _ wr (by have := G.row; rw [← G.len]; exact this) G.reps
      have HGJ := hid GJ
      have HG := hid G
      clear G GJ HI
      go_wp2_with (go_at_call 112; (with_reducible refine HC.mono ?_); rintro e w1 ⟨v, F, rfl, hr, hb1, hn⟩; obtain ⟨f1, fi1, ca1, rfl⟩ := hr.form; have HR := hid hr; have HB1 := hid hb1; have HN := hid hn; clear hr hb1 hn)
      go_ret
      refine ⟨_, F, FE, n, l, rfl, ⟨HR.out, (HB1.out.block g (by have := HG.out.chg.size; omega)).trans HG.out.ob, HG.out.chg.trans (Chg.of_below HB1.out), fun k hk => ?_⟩, (J i).below HGJ.out.j HB1.out, HGJ.out.newE⟩
      rcases HN.out k hk with h | h
      · rcases List.mem_append.1 h with h | h
        · right
          exact (HG.out.row.lt k (by simpa using h)).1
        · exact HG.out.new k h
      · right; have := HG.out.chg.size; omega
end Go.Proofs.Ytdidopgenhpakaa
namespace Go.Proofs.Ytdidopgenhpakaa
open Go.RowKit
set_option linter.unusedVariables false
set_option linter.unusedSimpArgs false
set_option maxRecDepth 100000 in
set_option maxHeartbeats 2000000 in
theorem altJ (g K m sb o s3 : Nat) (A : Six) (J : Nat → Jl) (n0 : Int) (FE0 : List Nat) (FS : List Nat) (ND : Nat → Nd) (KD : Nat → Int) (N : Nd) (f : FuncId) (fi ca : Array Value) (w : World) (hO : O7 w g A n0) (hj0 : (J 0).p n0 [] FE0 w) (hgF : g ∉ FS) (hEF : ∀ k ∈ FE0, k ∈ FS)
    (hFl : ∀ k ∈ FS, k < w.heap.size) (hsb : sb < w.heap.size) (hsg : sb ≠ g) (hm : m ≤ 1000000) (hcap : m ≤ s3) (hcells : ∀ i, i < m → C9 w sb o i (ND i) (KD i)) (hN : N.s1 = some ⟨sb, o, none⟩ ∧ N.s2 = m ∧ N.s3 = s3) (hn : ∀ n l FE w, (J m).p n l FE w → 0 ≤ n ∧ n < 1000000000)
    (HB : ∀ i, i < m → StepL g K A (ND i) (KD i) f fi ca FS w (J i) (J (i + 1))) :
    Calls Try.prog 57 #[pt g, N.v 5, .func (.func f) fi ca] w fun e w' => ∃ v F FE n l, e = .returned v ∧ Mk g K AL w w' A (n + 1) v (.once (n + 1) (.inOrder l)) FS F ∧ (J m).p n l FE w' ∧ ∀ k ∈ FE, k ∈ FS ∨ w.heap.size ≤ k := by
  have hgl := (Array.getElem?_eq_some_iff.1 hO).1
  obtain ⟨h1, h2, h3, h4⟩ := three_new w (.cells #[pt g] 65) (N.o 5) (.cells #[.func (.func f) fi ca] 84)
  have hch : Chg w (((w.alloc (.cells #[pt g] 65)).alloc (N.o 5)).alloc (.cells #[.func (.func f) fi ca] 84)) [g] [g] := (((Chg.refl w [g]).alloc _).alloc _).alloc _
  obtain ⟨W, hW⟩ : ∃ W, W = (((w.alloc (.cells #[pt g] 65)).alloc (N.o 5)).alloc (.cells #[.func (.func f) fi ca] 84)) := ⟨_, rfl⟩
  rw [← hW] at h1 h2 h3 h4 hch
  have hsW : W.heap.size = w.heap.size + 1 + 1 + 1 := by rw [hW]; simp
  have HC := firstOfJ67 g K m sb o s3 A J n0 FE0 FS ND KD f fi ca W.drew ((h4 g hgl).trans hO) ((J 0).stab hj0 (by have := hch.size; exact this) (fun k hk => h4 k (hFl k (hEF k hk)))) hgF hEF (fun k hk => by have := hFl k hk; show k < W.heap.size; omega) (by show sb < W.heap.size; omega) hsg hm hcap (fun i hi => (hcells i hi).kept (h4 sb hsb)) (fun i hi w' n l FE hc ho hj he hn => HB i hi w' n l FE (hch.trans ((show Chg W W.drew [g] [g] from (Chg.refl W [g]).drew).trans hc)) ho hj he (fun k hk => (hn k hk).imp_right (fun h => by have h : W.heap.size ≤ k := h; omega)))
  have x3 : W.cell? ⟨w.heap.size, 0, none⟩ = some (pt g) := bx0 h1
  have x5 : W.cell? ⟨w.heap.size + 1 + 1, 0, none⟩ = some (.func (.func f) fi ca) := bx0 h3
  have x43 : W.cell? ⟨w.heap.size + 1, 3, none⟩ = some (.slice (some ⟨sb, o, none⟩) m s3) := by rw [← hN.1, ← hN.2.1, ← hN.2.2]; exact Joins.cell_of_block h2 3
  obtain ⟨z, hz⟩ : ∃ z, z = w.heap.size := ⟨_, rfl⟩
  have HCH := hid hch
  have HW := hid hW
  have HS := hid hsW
  have HHG := hid hgF
  have HZ := hid hz
  have HNN := hid hN
  clear hO hch h1 h2 h3 h4 hgF hsW HB hcells hFl hN hj0 hEF
  go_enter Try.func57, Try.ntmps57
  go_wp2_with fail
  rw [← hW, ← hz]
  rw [← hz] at x3 x5 x43
  clear hW hz
  have hb1 : ∀ w1, Chg W.drew w1 [g] [g] → w1.cell? ⟨z, 0, none⟩ = some (pt g) ∧ w1.cell? ⟨z + 1, 3, none⟩ = some (.slice (some ⟨sb, o, none⟩) m s3) ∧ w1.cell? ⟨z + 1 + 1, 0, none⟩ = some (.func (.func f) fi ca) := fun w1 hc1 => by
    have hz := HZ.out
    have hs := HS.out
    have e : ∀ k o, z ≤ k → k < z + 3 → w1.cell? ⟨k, o, none⟩ = W.cell? ⟨k, o, none⟩ := fun k o h1 h2 => cell_heap (hc1.block k (by show k < W.heap.size; omega) (by simp; omega)) o
    exact ⟨(e _ _ (by omega) (by omega)).trans x3, (e _ _ (by omega) (by omega)).trans x43, (e _ _ (by omega) (by omega)).trans x5⟩
  have HB1 := hid hb1
  clear hb1
  go_region_held2 (fun w' => w'.cell? ⟨z, 0, none⟩ = some (pt g) ∧ w'.cell? ⟨z + 1, 3, none⟩ = some (.slice (some ⟨sb, o, none⟩) m s3) ∧ w'.cell? ⟨z + 1 + 1, 0, none⟩ = some (.func (.func f) fi ca))
    (first | exact ⟨x3, x43, x5⟩ | exact HB1.out _ HM1.out.chg | exact HB1.out _ (HM1.out.chg.trans HM2.out.chg))
    (first | (go_at_call 85; (with_reducible refine HC.mono ?_); rintro e w1 ⟨v1, F1, FE1, n1, l1, rfl, M1, j1, hE1⟩; obtain ⟨f1, fi1, ca1, rfl⟩ := M1.rep.form; have HC2 := once54 g K AL A n1 _ _ F1 w1 M1.ob M1.rep (M1.away HHG.out (by show g < W.heap.size; have := HS.out; omega)) (hn _ _ _ _ j1); have HM1 := hid M1; have HJ1 := hid j1; have HE1 := hid hE1; clear M1 HC j1 hE1) | (go_at_call 58; (with_reducible refine HC2.mono ?_); rintro e w2 ⟨v2, F2, rfl, M2⟩; obtain ⟨f2, fi2, ca2, rfl⟩ := M2.rep.form; have HM2 := hid M2; clear M2 HC2))
  all_goals
    go_wp2
    go_ret
    have hgE : g ∉ FE1 := fun hm => by
      rcases HE1.out g hm with h | h
      · exact HHG.out h
      · have h : W.heap.size ≤ g := h; have := HS.out; omega
    refine ⟨_, F2, FE1, n1, l1, rfl, Mk.from (HCH.out.trans ?_) (HM1.out.trans HM2.out), (J m).chg HJ1.out HM2.out.chg hgE, fun k hk => (HE1.out k hk).imp_right (fun h => by have h : W.heap.size ≤ k := h; have := HS.out; have := HZ.out; omega)⟩
    exact (Chg.refl W [g]).drew
end Go.Proofs.Ytdidopgenhpakaa
