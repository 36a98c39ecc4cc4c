/- HELPERS: Turned. -/
import Derived.Test.YteanndophopplaaDoorGB
import Derived.Test.YteanndophopplaaDoorCp
import Derived.Test.YteanndophopplaaDoorLb
import Derived.Test.YteanndophopplaaDoorUa
import Derived.Test.YteanndophopplaaDoorTh
import Derived.Test.YteanndophopplaaDoorTe
import Derived.Test.YteanndophopplaaDoorTa
import Derived.Deep.SlicePairs
import Derived.RowKit
import Derived.Test.YteanndophopplaaDoorOb
import Derived.Test.YteanndophopplaaDoorProg
import Derived.WalkKit
import Derived.ProofKit
import Derived.BigQuiet
import Derived.WalkSmall
import Derived.Deep.QuietTactic
import Derived.Deep.RegionWith
import Derived.Lib.SmallJoins
import Derived.Lib.MinMax
import Derived.Maps.AppendAt
import Derived.Laws.AppendOwnNone
import Derived.Test.YteanndophopplaaDoorRi
import Derived.Lib.Small
import Derived.Deep.Cut
import Derived.Deep.CutRange
import Derived.Test.YteanndophopplaaDoorBh
import Derived.Laws.EntriesVeiled
import Derived.OrdersHeld
import Derived.StillTail
import Derived.Tactics
import Derived.Below
import Derived.Test.YteanndophopplaaDoorCc
import Derived.Test.YteanndophopplaaDoorCb
import Derived.Deep.RegionHeld3
import Derived.Deep.MidRow
import Derived.Deep.OwnRows
import Derived.Laws.Rows
import Derived.WalkLawsBesides
import Derived.Deep.RegionLaw
import Derived.Laws.CopyOwn
import Derived.Lib.LazyBuf
import Derived.Deep.Onto
import Derived.Test.YteanndophopplaaDoorGA
import Derived.Test.YteanndophopplaaDoorOg
/- HELPERS: a region that draws its order: what only reads first, then a choice between two operations. -/
namespace Go.Proofs.YteanndophopplaaDoor
open Go Go.RowKit
set_option linter.unusedVariables false
section
variable {P : Program} {ops : Array Oper} {Q : Exit → Act → World → Prop} {md : Region.Mode} {S : World → Prop} {L : Nat}
/-- one operation, then what is left -/
def stepX (P : Program) (md : Region.Mode) (ops : Array Oper) (Q : Exit → Act → World → Prop) (S : World → Prop) (L f : Nat) (listed : Array Bool) (i : Nat) (o : Oper) (a : Act) (w : World) : Prop :=
  ∀ K : Act → World → Prop, Hid (∀ a' w', (i ≠ L → S w') → wpAnyX P md ops Q S L f (listed.setIfInBounds i true) a' w' → K a' w') → if Region.wanted o (yielded ops a.tmps) = true then Oper.wp P o a w K Q else K (a.put o.dst undef) w
theorem stepX_op {f i : Nat} {o : Oper} {listed : Array Bool} {a : Act} {w : World} (h0 : ops[i]? = some o) (h : stepX P md ops Q S L f listed i o a w) :
    wpOp P ops Q i (fun a' w' => (i ≠ L → S w') ∧ wpAnyX P md ops Q S L f (listed.setIfInBounds i true) a' w') a w := by
  have h1 := h (fun a' w' => (i ≠ L → S w') ∧ wpAnyX P md ops Q S L f (listed.setIfInBounds i true) a' w') (fun a' w' h1 h2 => ⟨h1, h2⟩)
  unfold wpOp
  simp only [h0]
  split
  · rename_i hw; rw [if_pos hw] at h1; exact .inl h1
  · rename_i hw; rw [if_neg hw] at h1; exact h1
theorem wpAnyX_alt {f i j : Nat} {o o' : Oper} {listed : Array Bool} {a : Act} {w : World} (hr : Region.ready md ops listed = [i, j]) (hi : ops[i]? = some o) (hj : ops[j]? = some o')
    (h1 : stepX P md ops Q S L f listed i o a w) (h2 : stepX P md ops Q S L f listed j o' a w) : wpAnyX P md ops Q S L (f + 1) listed a w := by
  refine ⟨fun h => absurd (hr.symm.trans h) (by simp), fun k hk => ?_⟩
  rw [hr] at hk
  rcases List.mem_cons.1 hk with rfl | hk
  · exact stepX_op hi h1
  · obtain rfl : k = j := by simpa using hk
    exact stepX_op hj h2
theorem wp_region_lexT {id : Nat} {a : Act} {w : World} (ks : List Nat) (g L : Nat) (S : World → Prop) (hm : P.follows .mixedOrders = true) (hsel : Region.noSelect ops = true) (hn : ks.length + g = ops.size) (hB : lexK .any ops L ks (Array.replicate ops.size false) = true)
    (hS : S w.drew)
    (h : wpLex P ops Q S (fun a' => wpAnyX P .any ops Q S L g (marksK ks (Array.replicate ops.size false)) a' w.drew) (opsAt ops ks) a) : (Code.region id ops true).wp P Q a w := by
  have H := wpAnyX_lexK (md := .any) (L := L) (Q := Q) (g := g) (P := P) (w := w.drew) hsel hS ks (Array.replicate ops.size false) a hB h
  rw [hn] at H
  exact wp_region_any hm (by simpa using wpAny_of_X _ _ _ _ H)
end
end Go.Proofs.YteanndophopplaaDoor
/- HELPERS: a program that is lent: one mark behind each list. -/
namespace Go.Proofs.YteanndophopplaaDoor
open Go.RowKit
set_option linter.unusedVariables false
set_option linter.unusedSimpArgs false
abbrev MK1 : List (Int × Int) := [(-77, 0)]
/-- an instruction whose ranges, with two marks behind them, lie in a block by themselves, apart from a row -/
structure LO (w : World) (base : Nat) (z : Value) (N : Iv) (I : In) : Prop where
  op : N.op = I.op
  x : N.x = I.x
  y : N.y = I.y
  a : N.a = I.a
  len : N.r2 = I.R.length
  sm : N.r2 * 16 ≤ 140737488351232
  rr : w.ownsRow base 51 2 (.slice N.r1 (I.R.length + 1) N.r3) (I.R.length + 1) (O2 (I.R ++ MK1))
  ne : ∀ b, N.rv.ownBlock = some b → z.ownBlock ≠ some b
/-- a program that is lent -/
structure PL (w : World) (base : Nat) (ad : Option Addr) (n c : Nat) (l : List In) (MS : List Iv) : Prop where
  len : n = l.length
  lms : MS.length = n
  row : w.ownsRow base 49 5 (.slice ad (n + 1) c) (n + 1) ((MS ++ [mkI (-77)]).flatMap Iv.cs)
  lo : ∀ j (hj : j < l.length), LO w base (.slice ad (n + 1) c) (MS.getD j default) l[j]
  pw : ∀ j j' b, j < n → j' < n → j ≠ j' → (MS.getD j default).rv.ownBlock = some b → (MS.getD j' default).rv.ownBlock ≠ some b
theorem RowAt.kept {w w' : World} {N : Nat} {v : Value} {L : List (Int × Int)} (h : RowAt N w v L) (hk : ∀ b, b < N → w'.heap[b]? = w.heap[b]?) : RowAt N w' v L := by
  obtain ⟨ad, cap, e, h1⟩ := h
  refine ⟨ad, cap, e, h1.imp id ?_⟩
  rintro ⟨b, off, e1, h2, h3, h4⟩
  exact ⟨b, off, e1, h2, fun k hk' => (cell_eq (hk b h2) _).trans (h3 k hk'), fun k hk' => (cell_eq (hk b h2) _).trans (h4 k hk')⟩
theorem make49 (c : Nat) (hc : c * 16 ≤ 140737488355328) (w : World) : (Instr.makeSlice 47 (.int .i64 0) (.int .i64 (c : Int))).run Tryd.prog w = .ok (.slice (some ⟨w.heap.size, 0, none⟩) 0 c) (w.alloc (.cells (madeCells (Value.agg #[.int .i64 0, .int .i64 0]).cells (c * 2)) 51)) := by
  obtain ⟨i0, hi0, hz0, hz1, hz2⟩ := info_parts info49
  have h := run_make (P := Tryd.prog) w 47 51 i0 (.agg #[.int .i64 0, .int .i64 0]) Tryd.underlying47 hi0 hz0 .i64 .i64 0 c (by omega) (by omega) (by rw [hz2]; omega) (by omega)
  simp only [Int.toNat_natCast, hz1, Int.toNat_zero] at h
  exact h
theorem made_own49 (c : Nat) (hc : c ≤ maxLen) (base : Nat) (w : World) (hb : base ≤ w.heap.size) : (w.alloc (.cells (madeCells (Value.agg #[.int .i64 0, .int .i64 0]).cells (c * 2)) 51)).ownsRow base 51 2 (.slice (some ⟨w.heap.size, 0, none⟩) 0 c) 0 [] :=
  ⟨rfl, .inr ⟨w.heap.size, c, _, rfl, hb, heap_alloc_new w _, Nat.zero_le _, hc, size_madeCells _ _, by simp⟩⟩
theorem make51 (c : Nat) (hc : c * 56 ≤ 140737488355328) (w : World) : (Instr.makeSlice 22 (.int .i64 0) (.int .i64 (c : Int))).run Tryd.prog w = .ok (.slice (some ⟨w.heap.size, 0, none⟩) 0 c) (w.alloc (.cells (madeCells Z5.cells (c * 5)) 49)) := by
  obtain ⟨i0, hi0, hz0, hz1, hz2⟩ := info_parts info51
  have h := run_make (P := Tryd.prog) w 22 49 i0 Z5 Tryd.underlying22 hi0 hz0 .i64 .i64 0 c (by omega) (by omega) (by rw [hz2]; omega) (by omega)
  simp only [Int.toNat_natCast, hz1, Int.toNat_zero] at h
  exact h
theorem made_own51 (c : Nat) (hc : c ≤ maxLen) (base : Nat) (w : World) (hb : base ≤ w.heap.size) : (w.alloc (.cells (madeCells Z5.cells (c * 5)) 49)).ownsRow base 49 5 (.slice (some ⟨w.heap.size, 0, none⟩) 0 c) 0 [] :=
  ⟨rfl, .inr ⟨w.heap.size, c, _, rfl, hb, heap_alloc_new w _, Nat.zero_le _, hc, size_madeCells _ _, by simp⟩⟩
theorem own_blk {w : World} {base e size n : Nat} {v : Value} {xs : List Value} (h : w.ownsRow base e size v n xs) (hn : 0 < n) : ∃ g c, v = .slice (some ⟨g, 0, none⟩) n c ∧ base ≤ g ∧ g < w.heap.size ∧ n ≤ c ∧ c ≤ maxLen := by
  obtain ⟨a, c', e1, h1, h2⟩ := row_shape h
  rcases h.2 with ⟨_, e⟩ | ⟨g, cap, cur, e, _⟩
  · subst e1
    have h0 := h.1
    first
      | (exfalso; omega)
      | (simp_all; omega)
  · rw [e1] at e
    simp only [Value.slice.injEq] at e
    obtain ⟨rfl, -, rfl⟩ := e
    subst e1
    have := h.lt g rfl
    exact ⟨g, c', rfl, this.1, this.2, h1, h2⟩
theorem lit_cells2 {w : World} {b t : Nat} {x y : Value} {fr : Nat × Nat} (h : w.heap[b]? = some (.cells #[x, y] t fr)) : ∀ j u, [x, y][j]? = some u → w.cell? ((⟨b, 0, none⟩ : Addr).add j) = some u := fun j u hj => by
  rw [Addr.add_mid, Nat.zero_add, Joins.cell_of_block h]
  simpa using hj
theorem lent_done {wr V1 w5 : World} {p r2 g1 c3 : Nat} {op xx yy aa : Int} {r1 : Option Addr} {r2' r3 : Nat} {Z : List Value} (hV : Below wr.heap.size wr V1) (hQ : V1.heap[p]? = some (.cells #[.int .i64 op, .int .i64 xx, .int .i64 yy, .int .i64 aa, .slice r1 r2' r3] 49 (0, 0))) (hp : p = wr.heap.size) (hpl : p < V1.heap.size)
    (ho5 : w5.ownsRow V1.heap.size 51 2 (.slice (some ⟨g1, 0, none⟩) (r2 + 1) c3) (r2 + 1) Z) (hb5 : Below V1.heap.size V1 w5) :
    w5.heap[p]? = some (.cells #[.int .i64 op, .int .i64 xx, .int .i64 yy, .int .i64 aa, .slice r1 r2' r3] 49 (0, 0)) ∧ w5.frozen? ⟨p, 4, none⟩ = false ∧ w5.cell? ⟨p, 4, none⟩ = some (.slice r1 r2' r3) ∧
    ((w5.setCell ⟨p, 4, none⟩ (.slice (some ⟨g1, 0, none⟩) r2 c3)).heap[p]? = some (.cells #[.int .i64 op, .int .i64 xx, .int .i64 yy, .int .i64 aa, .slice (some ⟨g1, 0, none⟩) r2 c3] 49 (0, 0)) ∧
     (w5.setCell ⟨p, 4, none⟩ (.slice (some ⟨g1, 0, none⟩) r2 c3)).ownsRow V1.heap.size 51 2 (.slice (some ⟨g1, 0, none⟩) (r2 + 1) c3) (r2 + 1) Z ∧
     Below wr.heap.size wr (w5.setCell ⟨p, 4, none⟩ (.slice (some ⟨g1, 0, none⟩) r2 c3)) ∧ V1.heap.size ≤ (w5.setCell ⟨p, 4, none⟩ (.slice (some ⟨g1, 0, none⟩) r2 c3)).heap.size) := by
  have q5 := (hb5.block p hpl).trans hQ
  have hg := ho5.lt g1 rfl
  have hs := hV.size
  refine ⟨q5, Joins.unfrozen_of_block q5 4, by simpa using Joins.cell_of_block q5 4, Joins.block_setCell (i := 4) q5 _, own_setCell ho5 (fun e => by cases e; omega), ?_, by simpa [World.setCell] using hb5.size⟩
  exact (hV.trans (Joins.below_le hb5 hs)).setCell (p := ⟨p, 4, none⟩) (by simp [hp]) _
set_option maxRecDepth 100000 in
set_option maxHeartbeats 16000000 in
theorem lent10 {w : World} {ad : Option Addr} {n c : Nat} {l : List In} {s k : Int} (h : PI w w.heap.size ad n l) (hn : n * 56 ≤ 140737488351232) :
    Calls Tryd.prog 10 #[pv ad n c s k] w fun e w' => ∃ ad' c' MS, e = .returned (pv ad' n c' s k) ∧ PL w' w.heap.size ad' n c' l MS ∧ Below w.heap.size w w' := by
  have HL := hid h.len
  obtain ⟨i5, hi5, hz50, hz51, hz52⟩ := info_parts info49
  obtain ⟨i2, hi2, hz20, hz21, hz22⟩ := info_parts info51
  go_enter Tryd.func10, Tryd.ntmps10
  go_upto_region 1 with fail
  obtain ⟨W, hW⟩ : ∃ W, W = (w.alloc (.cells #[.slice ad n c, .int .i64 s, .int .i64 k] 24)).alloc (.cells #[.slice none 0 0, .int .i64 0, .int .i64 0] 24) := ⟨_, rfl⟩
  rw [← hW]
  have hX : W.heap[w.heap.size]? = some (.cells #[.slice ad n c, .int .i64 s, .int .i64 k] 24 (0, 0)) := by rw [hW]; exact (heap_alloc_old _ _ (by simp)).trans (heap_alloc_new w _)
  have hY : W.heap[w.heap.size + 1]? = some (.cells #[.slice none 0 0, .int .i64 0, .int .i64 0] 24 (0, 0)) := by rw [hW]; exact two_new w _ _ _
  have hb : Below w.heap.size w W := by rw [hW]; exact below_two' w _ _
  have HP := hid (h.kept hb hb.size)
  have l1 : w.heap.size < W.heap.size := (Array.getElem?_eq_some_iff.1 hX).1
  have l2 : w.heap.size + 1 < W.heap.size := (Array.getElem?_eq_some_iff.1 hY).1
  obtain ⟨y, hy⟩ : ∃ y, y = w.heap.size + 1 := ⟨_, rfl⟩
  rw [← hy] at hY l2 ⊢
  obtain ⟨x, hx⟩ : ∃ x, x = w.heap.size := ⟨_, rfl⟩
  rw [← hx] at hX hb l1 ⊢
  have hxy : x < y := by omega
  have HX := hid hX
  have HY := hid hY
  have HB := hid hb
  have HXE := hid hx
  obtain ⟨p0, p1, p2⟩ := three_cells hX
  clear hX hY hb hW hx hy h
  have hmk := make51 (n + 1) (by omega) W
  rw [show ((n + 1 : Nat) : Int) = (n : Int) + 1 by push_cast; rfl] at hmk
  have ad3 : IntKind.i64.wrap ((n : Int) + 1) = (n : Int) + 1 := by simp [IntKind.wrap, IntKind.bits, IntKind.signed]; omega
  have hown0 := made_own51 (n + 1) (by unfold maxLen; omega) W.heap.size W (Nat.le_refl _)
  have hbV0 := Joins.below_alloc1 W (.cells (madeCells Z5.cells ((n + 1) * 5)) 49)
  obtain ⟨V0, hV0⟩ : ∃ V, V = W.alloc (.cells (madeCells Z5.cells ((n + 1) * 5)) 49) := ⟨_, rfl⟩
  rw [← hV0] at hmk hown0 hbV0
  have HOWN0 := hid hown0
  have HBV0 := hid hbV0
  clear hV0 hown0 hbV0
  go_wp2_with fail
  clear p0 p1 p2 hmk ad3
  go_loopw [3, 4] (fun u y wq => ∃ (i : Nat) (z1 : Option Addr) (z3 : Nat), u = .slice z1 i z3 ∧ y = .int .i64 (i : Int) ∧ i ≤ n ∧ Hid (∃ MS : List Iv, MS.length = i ∧ wq.ownsRow W.heap.size 49 5 (.slice z1 i z3) i (MS.flatMap Iv.cs) ∧ (∀ j (hj : j < l.length), j < i → LO wq W.heap.size (.slice z1 i z3) (MS.getD j default) l[j]) ∧ (∀ j j' b, j < i → j' < i → j ≠ j' → (MS.getD j default).rv.ownBlock = some b → (MS.getD j' default).rv.ownBlock ≠ some b)) ∧ Hid (Below W.heap.size W wq)) (fun _ y _ => n - (intOf y).toNat)
  case atStart => exact ⟨0, _, _, rfl, rfl, by omega, ⟨[], rfl, HOWN0.out, fun j hj h0 => by omega, fun j j' b h0 => by omega⟩, HBV0.out⟩
  case round =>
    obtain ⟨i, z1, z3, rfl, rfl, hi, HST, BK⟩ := hrel
    have hWw : W.heap.size ≤ wr.heap.size := BK.out.size
    have l1w : x < wr.heap.size := by omega
    obtain ⟨p0, p1, p2⟩ := three_cells ((BK.out.block x l1).trans HX.out)
    by_cases hil : i < n
    · have b1 : decide ((i : Int) < (n : Int)) = true := by simp; omega
      have b2 : (i : Int) < (n : Int) := by omega
      have ad1 : IntKind.i64.wrap ((i : Int) + 1) = (i : Int) + 1 := by simp [IntKind.wrap, IntKind.bits, IntKind.signed]; omega
      have hlt : i < l.length := by have := HL.out; omega
      obtain ⟨g, o, ND, e, hg, hcs⟩ := HP.out.mem (by omega)
      subst e
      have lg : g < wr.heap.size := by omega
      obtain ⟨m0, m1, m2, m3, m4⟩ := (hcs i hlt).1.kept (BK.out.block g hg)
      have hI := (hcs i hlt).2.kept BK.out BK.out.size
      obtain ⟨M, hM⟩ : ∃ M, M = ND i := ⟨_, rfl⟩
      rw [← hM] at m0 m1 m2 m3 m4 hI
      clear hM hcs
      obtain ⟨op, xx, yy, aa, r1, r2, r3⟩ := M
      dsimp only at m0 m1 m2 m3 m4
      have hsm : r2 * 16 ≤ 140737488351232 := hI.sm
      have hlen : r2 = l[i].R.length := hI.len
      have HI := hid hI
      have HLEN := hid hlen
      clear hI hlen
      go_upto_region 6 with fail
      obtain ⟨V1, hV1⟩ : ∃ V, V = wr.alloc (.cells #[.int .i64 op, .int .i64 xx, .int .i64 yy, .int .i64 aa, .slice r1 r2 r3] 49) := ⟨_, rfl⟩
      rw [← hV1]
      have HBV1 : Hid (Below wr.heap.size wr V1) := by rw [hV1]; exact Joins.below_alloc1 wr _
      have hQ1 : V1.heap[wr.heap.size]? = some (.cells #[.int .i64 op, .int .i64 xx, .int .i64 yy, .int .i64 aa, .slice r1 r2 r3] 49 (0, 0)) := by rw [hV1]; exact heap_alloc_new wr _
      have hpl : wr.heap.size < V1.heap.size := (Array.getElem?_eq_some_iff.1 hQ1).1
      obtain ⟨p, hp⟩ : ∃ p, p = wr.heap.size := ⟨_, rfl⟩
      rw [← hp] at hQ1 hpl ⊢
      have HQ1 := hid hQ1
      have HPE := hid hp
      have HIV := hid (HI.out.kept HBV1.out HBV1.out.size)
      have HSRC : Hid (∀ V : World, (∀ b, b < V1.heap.size → V.heap[b]? = V1.heap[b]?) → 0 < r2 → ∃ b f, r1 = some ⟨b, f, none⟩ ∧ ∀ j u, (O2 l[i].R)[j]? = some u → V.cell? ⟨b, f + j, none⟩ = some u) := fun V hV hp => (HIV.out.row.kept hV).src hp HLEN.out
      have HO2 : Hid ((O2 l[i].R).length = r2 * 2) := (O2_len _).trans (by rw [HLEN.out])
      have hmk := fun W => make49 (r2 + 1) (by omega) W
      rw [show ((r2 + 1 : Nat) : Int) = (r2 : Int) + 1 by push_cast; rfl] at hmk
      have hmo := fun base W hb => made_own49 (r2 + 1) (by unfold maxLen; omega) base W hb
      have ad2 : IntKind.i64.wrap ((r2 : Int) + 1) = (r2 : Int) + 1 := by simp [IntKind.wrap, IntKind.bits, IntKind.signed]; omega
      have HMO := hid hmo
      clear hmo
      generalize hmc : madeCells (Value.agg #[.int .i64 0, .int .i64 0]).cells ((r2 + 1) * 2) = mc at *
      clear hmc hV1 hQ1 hp p0 p1 p2 m0 m1 m2 m3 m4 HI
      go_cut [] from 11 to 42 (fun wx => ∃ g1 c3, r2 + 1 ≤ c3 ∧ Hid (wx.heap[p]? = some (.cells #[.int .i64 op, .int .i64 xx, .int .i64 yy, .int .i64 aa, .slice (some ⟨g1, 0, none⟩) r2 c3] 49 (0, 0))) ∧ Hid (wx.ownsRow V1.heap.size 51 2 (.slice (some ⟨g1, 0, none⟩) (r2 + 1) c3) (r2 + 1) (O2 (l[i].R ++ MK1))) ∧ Hid (Below wr.heap.size wr wx) ∧ Hid (V1.heap.size ≤ wx.heap.size))
      case first =>
        obtain ⟨d0, d1, d2, d3, d4⟩ := five HQ1.out
        have HA : Hid ((V1.drew.alloc (.cells mc 51)).ownsRow V1.heap.size 51 2 (.slice (some ⟨V1.heap.size, 0, none⟩) 0 (r2 + 1)) 0 []) := HMO.out V1.heap.size V1.drew (Nat.le_refl _)
        have HBo : Hid (((V1.drew.alloc (.cells #[.int .i64 (-77), .int .i64 0] 51)).alloc (.cells mc 51)).ownsRow V1.heap.size 51 2 (.slice (some ⟨V1.heap.size + 1, 0, none⟩) 0 (r2 + 1)) 0 []) := by
          have := HMO.out V1.heap.size (V1.drew.alloc (.cells #[.int .i64 (-77), .int .i64 0] 51)) (by simp)
          have e : (V1.drew.alloc (.cells #[.int .i64 (-77), .int .i64 0] 51)).heap.size = V1.heap.size + 1 := by simp
          rw [e] at this
          exact this
        have HCo : Hid (((V1.drew.alloc (.cells mc 51)).alloc (.cells #[.int .i64 (-77), .int .i64 0] 51)).ownsRow V1.heap.size 51 2 (.slice (some ⟨V1.heap.size, 0, none⟩) 0 (r2 + 1)) 0 []) := HA.out.alloc _
        have HS1 := hid (HSRC.out (V1.drew.alloc (.cells mc 51)) (fun b hb => heap_alloc_old _ _ (by (try simp) <;> omega)))
        have HS2 := hid (HSRC.out ((V1.drew.alloc (.cells #[.int .i64 (-77), .int .i64 0] 51)).alloc (.cells mc 51)) (fun b hb => (heap_alloc_old _ _ (by (try simp) <;> omega)).trans (heap_alloc_old _ _ (by (try simp) <;> omega))))
        have HS3 := hid (HSRC.out ((V1.drew.alloc (.cells mc 51)).alloc (.cells #[.int .i64 (-77), .int .i64 0] 51)) (fun b hb => (heap_alloc_old _ _ (by (try simp) <;> omega)).trans (heap_alloc_old _ _ (by (try simp) <;> omega))))
        have HLB : Hid (((V1.drew.alloc (.cells #[.int .i64 (-77), .int .i64 0] 51)).alloc (.cells mc 51)).heap[V1.heap.size]? = some (.cells #[.int .i64 (-77), .int .i64 0] 51 (0, 0))) := (heap_alloc_old _ _ (by simp)).trans (heap_alloc_new V1.drew _)
        have HLC : Hid (((V1.drew.alloc (.cells mc 51)).alloc (.cells #[.int .i64 (-77), .int .i64 0] 51)).heap[V1.heap.size + 1]? = some (.cells #[.int .i64 (-77), .int .i64 0] 51 (0, 0))) := two_new V1.drew _ _ _
        have dd : ∀ V : World, V.heap[p]? = V1.heap[p]? → V.cell? ⟨p, 4, none⟩ = some (.slice r1 r2 r3) := fun V h => (cell_eq h 4).trans d4
        have HDD := hid dd
        clear dd d0 d1 d2 d3
        go_upto_region 6 with fail
        refine wp_region_lexT [0, 1, 2, 3, 5, 6, 8, 11, 12, 13] 7 16 (fun V => V.cell? ⟨p, 4, none⟩ = some (.slice r1 r2 r3)) (by kernel_rfl) (by kernel_rfl) rfl (by kernel_rfl) (by exact d4) ?_
        simp only [opsAt, List.getElem?_toArray, List.getElem?_cons_zero, List.getElem?_cons_succ]
        clear d4
        iterate 10
          refine lex_cons ?_ rfl (fun V hV => ?_) (fun _ _ _ h => h) ?_
          rotate_left
          · go_simp <;> with_reducible rfl
          simp only [Act.put, List.setIfInBounds_toArray, List.set_cons_zero, List.set_cons_succ]
        refine lex_nil (wpAnyX_alt (i := 4) (j := 9) (by kernel_rfl) rfl rfl (fun K1 hK1 => ?_) (fun K1 hK1 => ?_))
        · go_simp
          refine hK1.out _ _ (fun _ => HDD.out _ (heap_alloc_old V1.drew _ hpl)) ?_
          refine wpAnyX_alt (i := 7) (j := 9) (by kernel_rfl) rfl rfl (fun K2 hK2 => ?_) (fun K2 hK2 => ?_)
          · refine step_append_any rfl (.tmp 27) (.tmp 29) 47 rfl V1.heap.size 51 i5 (.agg #[.int .i64 0, .int .i64 0]) 2 16 Tryd.underlying47 hi5 hz50 hz51 hz52 rfl (by decide) ⟨V1.heap.size, 0, none⟩ 0 (r2 + 1) [] (by simp [Act.eval, Act.put]) (by exact HA.out) r1 r2 r3 (O2 l[i].R) (by simp [Act.eval, Act.put]) HO2.out (by exact HS1.out) (O2_one _) (by unfold maxLen; omega) (by omega) (by (try simp) <;> omega) ?_
            intro v3 w3 ho3 hf3; obtain ⟨p1, p3, e3, _⟩ := row_shape ho3; rw [Nat.zero_add] at e3; subst e3; have hz3 : V1.heap.size + 1 ≤ w3.heap.size := (by have := hf3.size; simp at this; omega)
            have hb3 : Below V1.heap.size V1 w3 := ⟨hf3.os, hf3.tape, hf3.output, by omega, fun b hb => (hf3.block b (by (try simp) <;> omega) (fun h => by simp [Value.ownBlock] at h; omega)).trans (by first | exact heap_alloc_old _ _ (by (try simp) <;> omega) | exact (heap_alloc_old _ _ (by (try simp) <;> omega)).trans (heap_alloc_old _ _ (by (try simp) <;> omega)))⟩
            refine hK2.out _ _ (fun _ => HDD.out _ (hb3.block p hpl)) (wpAnyX_of_tailK [9, 10, 14, 15, 16] _ _ _ (by kernel_rfl) ?_)
            simp only [opsNo, List.getElem?_toArray, List.getElem?_cons_zero, List.getElem?_cons_succ]
            refine tailK_cons fun K3 hK3 => ?_
            go_simp
            refine hK3.out _ _ (fun _ => HDD.out _ ((heap_alloc_old w3 _ (by omega)).trans (hb3.block p hpl))) (tailK_cons fun K4 hK4 => ?_)
            refine step_append_moveN rfl (.tmp 30) (.tmp 32) 47 rfl V1.heap.size 51 i5 (.agg #[.int .i64 0, .int .i64 0]) 2 16 Tryd.underlying47 hi5 hz50 hz51 hz52 rfl (by decide) (.slice p1 r2 p3) r2 (O2 l[i].R) (by simp [Act.eval, Act.put]) (by have t := ho3.alloc (.cells #[.int .i64 (-77), .int .i64 0] 51); rw [Nat.zero_add] at t; exact t) ⟨w3.heap.size, 0, none⟩ 1 1 [.int .i64 (-77), .int .i64 0] (by simp [Act.eval, Act.put]) rfl (by decide) (by exact lit_cells2 (heap_alloc_new w3 _)) (by simp [Value.oneCell']) (by unfold maxLen; omega) (by omega) (by (try simp) <;> omega) ?_
            intro v5 w5 ho5 hm5
            have hb5 : Below V1.heap.size V1 w5 := ⟨hm5.frm.os.trans hb3.os, hm5.frm.tape.trans hb3.tape, hm5.frm.output.trans hb3.output, by have := hm5.frm.size; (try simp at this); omega, fun b hb => (hm5.frm.block b (by (try simp) <;> omega) (fun h => by have := (ho3.lt b h).1; omega)).trans (by first | exact (heap_alloc_old _ _ (by omega)).trans (hb3.block b hb) | exact hb3.block b hb)⟩
            obtain ⟨g1, c3, rfl, hg1, hg2, hc3, hc4⟩ := own_blk ho5 (by omega)
            have u1 : (0 : Int) ≤ (r2 : Int) := by omega
            have u2 : (r2 : Int) ≤ (c3 : Int) := by omega
            have u3 : ¬ c3 < r2 := by omega
            obtain ⟨q5, f4, k4, hend⟩ := lent_done HBV1.out HQ1.out HPE.out hpl ho5 hb5
            refine hK4.out _ _ (fun _ => k4) (tailK_cons fun K5 hK5 => ?_)
            simp only [Act.put, List.setIfInBounds_toArray, List.set_cons_zero, List.set_cons_succ]
            go_simp
            refine hK5.out _ _ (fun _ => k4) (tailK_cons fun K7 hK7 => ?_)
            go_simp
            refine hK7.out _ _ (fun _ => k4) (tailK_cons fun K6 hK6 => ?_)
            go_simp
            refine hK6.out _ _ (fun h => absurd rfl h) (tailK_nil ?_)
            go_wp2_with fail
            go_meet
            exact ⟨g1, c3, hc3, hend.1, by show World.ownsRow _ _ _ _ _ _ _; rw [show O2 (l[i].R ++ MK1) = O2 l[i].R ++ [.int .i64 (-77), .int .i64 0] by simp [O2, MK1]]; exact hend.2.1, hend.2.2.1, hend.2.2.2⟩
          · go_simp
            refine hK2.out _ _ (fun _ => HDD.out _ ((heap_alloc_old _ _ (by simp; omega)).trans (heap_alloc_old V1.drew _ hpl))) (wpAnyX_of_tailK [7, 10, 14, 15, 16] _ _ _ (by kernel_rfl) ?_)
            simp only [opsNo, List.getElem?_toArray, List.getElem?_cons_zero, List.getElem?_cons_succ]
            refine tailK_cons fun K3 hK3 => ?_
            refine step_append_any rfl (.tmp 27) (.tmp 29) 47 rfl V1.heap.size 51 i5 (.agg #[.int .i64 0, .int .i64 0]) 2 16 Tryd.underlying47 hi5 hz50 hz51 hz52 rfl (by decide) ⟨V1.heap.size, 0, none⟩ 0 (r2 + 1) [] (by simp [Act.eval, Act.put]) (by exact HCo.out) r1 r2 r3 (O2 l[i].R) (by simp [Act.eval, Act.put]) HO2.out (by exact HS3.out) (O2_one _) (by unfold maxLen; omega) (by omega) (by (try simp) <;> omega) ?_
            intro v3 w3 ho3 hf3; obtain ⟨p1, p3, e3, _⟩ := row_shape ho3; rw [Nat.zero_add] at e3; subst e3; have hz3 : V1.heap.size + 1 ≤ w3.heap.size := (by have := hf3.size; simp at this; omega)
            have hb3 : Below V1.heap.size V1 w3 := ⟨hf3.os, hf3.tape, hf3.output, by omega, fun b hb => (hf3.block b (by (try simp) <;> omega) (fun h => by simp [Value.ownBlock] at h; omega)).trans (by first | exact heap_alloc_old _ _ (by (try simp) <;> omega) | exact (heap_alloc_old _ _ (by (try simp) <;> omega)).trans (heap_alloc_old _ _ (by (try simp) <;> omega)))⟩
            have HL3 : Hid (w3.heap[V1.heap.size + 1]? = some (.cells #[.int .i64 (-77), .int .i64 0] 51 (0, 0))) := (hf3.block _ (by simp) (fun h => by simp [Value.ownBlock] at h)).trans HLC.out
            refine hK3.out _ _ (fun _ => HDD.out _ (hb3.block p hpl)) (tailK_cons fun K4 hK4 => ?_)
            refine step_append_moveN rfl (.tmp 30) (.tmp 32) 47 rfl V1.heap.size 51 i5 (.agg #[.int .i64 0, .int .i64 0]) 2 16 Tryd.underlying47 hi5 hz50 hz51 hz52 rfl (by decide) (.slice p1 r2 p3) r2 (O2 l[i].R) (by simp [Act.eval, Act.put]) (by have t := ho3; rw [Nat.zero_add] at t; exact t) ⟨V1.heap.size + 1, 0, none⟩ 1 1 [.int .i64 (-77), .int .i64 0] (by simp [Act.eval, Act.put]) rfl (by decide) (by exact lit_cells2 HL3.out) (by simp [Value.oneCell']) (by unfold maxLen; omega) (by omega) (by (try simp) <;> omega) ?_
            intro v5 w5 ho5 hm5
            have hb5 : Below V1.heap.size V1 w5 := ⟨hm5.frm.os.trans hb3.os, hm5.frm.tape.trans hb3.tape, hm5.frm.output.trans hb3.output, by have := hm5.frm.size; (try simp at this); omega, fun b hb => (hm5.frm.block b (by (try simp) <;> omega) (fun h => by have := (ho3.lt b h).1; omega)).trans (by first | exact (heap_alloc_old _ _ (by omega)).trans (hb3.block b hb) | exact hb3.block b hb)⟩
            obtain ⟨g1, c3, rfl, hg1, hg2, hc3, hc4⟩ := own_blk ho5 (by omega)
            have u1 : (0 : Int) ≤ (r2 : Int) := by omega
            have u2 : (r2 : Int) ≤ (c3 : Int) := by omega
            have u3 : ¬ c3 < r2 := by omega
            obtain ⟨q5, f4, k4, hend⟩ := lent_done HBV1.out HQ1.out HPE.out hpl ho5 hb5
            refine hK4.out _ _ (fun _ => k4) (tailK_cons fun K5 hK5 => ?_)
            simp only [Act.put, List.setIfInBounds_toArray, List.set_cons_zero, List.set_cons_succ]
            go_simp
            refine hK5.out _ _ (fun _ => k4) (tailK_cons fun K7 hK7 => ?_)
            go_simp
            refine hK7.out _ _ (fun _ => k4) (tailK_cons fun K6 hK6 => ?_)
            go_simp
            refine hK6.out _ _ (fun h => absurd rfl h) (tailK_nil ?_)
            go_wp2_with fail
            go_meet
            exact ⟨g1, c3, hc3, hend.1, by show World.ownsRow _ _ _ _ _ _ _; rw [show O2 (l[i].R ++ MK1) = O2 l[i].R ++ [.int .i64 (-77), .int .i64 0] by simp [O2, MK1]]; exact hend.2.1, hend.2.2.1, hend.2.2.2⟩
        · go_simp
          refine hK1.out _ _ (fun _ => HDD.out _ (heap_alloc_old V1.drew _ hpl)) (wpAnyX_of_tailK [4, 7, 10, 14, 15, 16] _ _ _ (by kernel_rfl) ?_)
          simp only [opsNo, List.getElem?_toArray, List.getElem?_cons_zero, List.getElem?_cons_succ]
          refine tailK_cons fun K2 hK2 => ?_
          go_simp
          refine hK2.out _ _ (fun _ => HDD.out _ ((heap_alloc_old _ _ (by simp; omega)).trans (heap_alloc_old V1.drew _ hpl))) (tailK_cons fun K3 hK3 => ?_)
          refine step_append_any rfl (.tmp 27) (.tmp 29) 47 rfl V1.heap.size 51 i5 (.agg #[.int .i64 0, .int .i64 0]) 2 16 Tryd.underlying47 hi5 hz50 hz51 hz52 rfl (by decide) ⟨V1.heap.size + 1, 0, none⟩ 0 (r2 + 1) [] (by simp [Act.eval, Act.put]) (by exact HBo.out) r1 r2 r3 (O2 l[i].R) (by simp [Act.eval, Act.put]) HO2.out (by exact HS2.out) (O2_one _) (by unfold maxLen; omega) (by omega) (by (try simp) <;> omega) ?_
          intro v3 w3 ho3 hf3; obtain ⟨p1, p3, e3, _⟩ := row_shape ho3; rw [Nat.zero_add] at e3; subst e3; have hz3 : V1.heap.size + 1 ≤ w3.heap.size := (by have := hf3.size; simp at this; omega)
          have hb3 : Below V1.heap.size V1 w3 := ⟨hf3.os, hf3.tape, hf3.output, by omega, fun b hb => (hf3.block b (by (try simp) <;> omega) (fun h => by simp [Value.ownBlock] at h; omega)).trans (by first | exact heap_alloc_old _ _ (by (try simp) <;> omega) | exact (heap_alloc_old _ _ (by (try simp) <;> omega)).trans (heap_alloc_old _ _ (by (try simp) <;> omega)))⟩
          have HL3 : Hid (w3.heap[V1.heap.size]? = some (.cells #[.int .i64 (-77), .int .i64 0] 51 (0, 0))) := (hf3.block _ (by simp; omega) (fun h => by simp [Value.ownBlock] at h)).trans HLB.out
          refine hK3.out _ _ (fun _ => HDD.out _ (hb3.block p hpl)) (tailK_cons fun K4 hK4 => ?_)
          refine step_append_moveN rfl (.tmp 30) (.tmp 32) 47 rfl V1.heap.size 51 i5 (.agg #[.int .i64 0, .int .i64 0]) 2 16 Tryd.underlying47 hi5 hz50 hz51 hz52 rfl (by decide) (.slice p1 r2 p3) r2 (O2 l[i].R) (by simp [Act.eval, Act.put]) (by have t := ho3; rw [Nat.zero_add] at t; exact t) ⟨V1.heap.size, 0, none⟩ 1 1 [.int .i64 (-77), .int .i64 0] (by simp [Act.eval, Act.put]) rfl (by decide) (by exact lit_cells2 HL3.out) (by simp [Value.oneCell']) (by unfold maxLen; omega) (by omega) (by (try simp) <;> omega) ?_
          intro v5 w5 ho5 hm5
          have hb5 : Below V1.heap.size V1 w5 := ⟨hm5.frm.os.trans hb3.os, hm5.frm.tape.trans hb3.tape, hm5.frm.output.trans hb3.output, by have := hm5.frm.size; (try simp at this); omega, fun b hb => (hm5.frm.block b (by (try simp) <;> omega) (fun h => by have := (ho3.lt b h).1; omega)).trans (by first | exact (heap_alloc_old _ _ (by omega)).trans (hb3.block b hb) | exact hb3.block b hb)⟩
          obtain ⟨g1, c3, rfl, hg1, hg2, hc3, hc4⟩ := own_blk ho5 (by omega)
          have u1 : (0 : Int) ≤ (r2 : Int) := by omega
          have u2 : (r2 : Int) ≤ (c3 : Int) := by omega
          have u3 : ¬ c3 < r2 := by omega
          obtain ⟨q5, f4, k4, hend⟩ := lent_done HBV1.out HQ1.out HPE.out hpl ho5 hb5
          refine hK4.out _ _ (fun _ => k4) (tailK_cons fun K5 hK5 => ?_)
          simp only [Act.put, List.setIfInBounds_toArray, List.set_cons_zero, List.set_cons_succ]
          go_simp
          refine hK5.out _ _ (fun _ => k4) (tailK_cons fun K7 hK7 => ?_)
          go_simp
          refine hK7.out _ _ (fun _ => k4) (tailK_cons fun K6 hK6 => ?_)
          go_simp
          refine hK6.out _ _ (fun h => absurd rfl h) (tailK_nil ?_)
          go_wp2_with fail
          go_meet
          exact ⟨g1, c3, hc3, hend.1, by show World.ownsRow _ _ _ _ _ _ _; rw [show O2 (l[i].R ++ MK1) = O2 l[i].R ++ [.int .i64 (-77), .int .i64 0] by simp [O2, MK1]]; exact hend.2.1, hend.2.2.1, hend.2.2.2⟩
      case rest =>
        obtain ⟨g1, c3, hc31, HQ5, HR5, HBW5, HZ5⟩ := hcut
        obtain ⟨V5, rfl⟩ : ∃ V5, V5 = wc := ⟨_, rfl⟩
        clear hmk ad2
        have hQ5 := HQ5.out
        have hgl : V1.heap.size ≤ g1 ∧ g1 < V5.heap.size := HR5.out.lt g1 rfl
        have HK5 : Hid (∀ b, b < wr.heap.size → V5.heap[b]? = wr.heap[b]?) := fun b hb => HBW5.out.block b hb
        have HB5 : Hid (Below W.heap.size W V5) := BK.out.trans (Joins.below_le HBW5.out BK.out.size)
        have hz5 := HZ5.out
        obtain ⟨e0, e1, e2, e3, e4⟩ := five hQ5
        obtain ⟨MS, hS0, hS1, hS2, hS3⟩ := HST.out
        have HO6 : Hid ((V5.alloc (.cells #[.int .i64 op, .int .i64 xx, .int .i64 yy, .int .i64 aa, .slice (some ⟨g1, 0, none⟩) r2 c3] 49)).ownsRow W.heap.size 49 5 (.slice z1 i z3) i (MS.flatMap Iv.cs)) := (row_kept hS1 (fun b hb => HK5.out b (hS1.lt b hb).2)).alloc _
        have HL6 : Hid ((V5.alloc (.cells #[.int .i64 op, .int .i64 xx, .int .i64 yy, .int .i64 aa, .slice (some ⟨g1, 0, none⟩) r2 c3] 49)).ownsRow 0 49 5 (.slice (some ⟨V5.heap.size, 0, none⟩) 1 1) 1 (Iv.cs ⟨op, xx, yy, aa, some ⟨g1, 0, none⟩, r2, c3⟩)) := World.ownsRow_lit (base := 0) (e := 49) (size := 5) V5 #[.int .i64 op, .int .i64 xx, .int .i64 yy, .int .i64 aa, .slice (some ⟨g1, 0, none⟩) r2 c3] 1 (Nat.zero_le _) (by unfold maxLen; omega) rfl
        have HS0 := hid hS0
        have HS1 := hid hS1
        have HS2 := hid hS2
        have HS3 := hid hS3
        have hpw : p = wr.heap.size := HPE.out
        have HPW : Hid (wr.heap.size < V5.heap.size) := by show _ < _; omega
        have hz45 : V1.heap.size ≤ V5.heap.size := by omega
        have hg5 : V1.heap.size ≤ g1 ∧ g1 < V5.heap.size := by omega
        have hp1 : wr.heap.size < V1.heap.size := by omega
        clear hQ5 HST hS0 hS1 hS2 hS3 hpw hgl
        go_wp2_with (first | (at_builtin; refine wpList_append_row rfl (.tmp 39) (.tmp 41) 22 rfl W.heap.size 49 i2 Z5 5 56 Tryd.underlying22 hi2 hz20 hz21 hz22 rfl (by decide) (.slice z1 i z3) i (MS.flatMap Iv.cs) rfl HO6.out (.slice (some ⟨V5.heap.size, 0, none⟩) 1 1) 1 0 (Iv.cs ⟨op, xx, yy, aa, some ⟨g1, 0, none⟩, r2, c3⟩) rfl HL6.out (by intro h; omega) (one5 _) (by unfold maxLen; omega) (by omega) (by have := HPW.out; (try simp) <;> omega) ?_; intro v7 w7 ho7 hf7 hn7; obtain ⟨y1, y3, rfl, hy3⟩ := row_shape ho7.out; have HY3 := hid hy3; clear hy3 hn7))
        have hW7 : V5.heap.size + 1 ≤ w7.heap.size := by have := hf7.out.size; simpa using this
        have hz1 : ∀ b, (Value.slice z1 i z3).ownBlock = some b → b < wr.heap.size := fun b hb => (HS1.out.lt b hb).2
        have hkeep : ∀ b, b < V5.heap.size → (Value.slice z1 i z3).ownBlock ≠ some b → w7.heap[b]? = V5.heap[b]? := fun b hb hne => (hf7.out.block b (by simp; omega) hne).trans (heap_alloc_old _ _ hb)
        have hy1 : ∀ b, (Value.slice y1 (i + 1) y3).ownBlock = some b → (Value.slice z1 i z3).ownBlock = some b ∨ V5.heap.size ≤ b := fun b hb => (hf7.out.own b hb).imp id (fun h => by simp at h; omega)
        have hrvl : ∀ j (hj : j < l.length), j < i → ∀ b, (MS.getD j default).rv.ownBlock = some b → b < wr.heap.size := fun j hj hji b hb => ((HS2.out j hj hji).rr.lt b ((ob_len _ _ _ _ _).trans hb)).2
        refine ⟨⟨i + 1, y1, y3, rfl, by push_cast; rfl, by omega, ⟨MS ++ [⟨op, xx, yy, aa, some ⟨g1, 0, none⟩, r2, c3⟩], by simp [HS0.out], ?_, fun j hj hji => ?_, fun j j' b hj hj' hne h1 h2 => ?_⟩, ?_⟩, by simp [intOf]; omega⟩
        · rw [List.flatMap_append]
          simpa using ho7.out
        · rw [snoc_getD MS _ j i HS0.out hji]
          by_cases e : j = i
          · subst e
            rw [if_pos rfl]
            have hcz : (Value.slice z1 j z3).ownBlock ≠ some g1 := fun h => by have := hz1 g1 h; omega
            refine ⟨HIV.out.op, HIV.out.x, HIV.out.y, HIV.out.a, HLEN.out, hsm, ?_, fun b hb h => ?_⟩
            · have := row_kept (HR5.out) (w' := w7) (fun b hb => by cases hb; exact hkeep g1 hg5.2 hcz)
              have h2 := this.mono (base' := W.heap.size) (by omega)
              rw [← HLEN.out]
              exact h2
            · cases hb
              rcases hy1 g1 h with h1 | h1
              · exact hcz h1
              · omega
          · rw [if_neg e]
            have hO := HS2.out j hj (by omega)
            refine ⟨hO.op, hO.x, hO.y, hO.a, hO.len, hO.sm, row_kept hO.rr (fun b hb => (hkeep b (by have := (hO.rr.lt b hb).2; have := HPW.out; omega) (hO.ne b ((ob_len _ _ _ _ _).trans hb))).trans (HK5.out b (hO.rr.lt b hb).2)), fun b hb h => ?_⟩
            rcases hy1 b h with h1 | h1
            · exact hO.ne b hb h1
            · have := hrvl j hj (by omega) b hb; have := HPW.out; omega
        · rw [snoc_getD MS _ j i HS0.out hj] at h1
          rw [snoc_getD MS _ j' i HS0.out hj'] at h2
          have hL := HL.out
          by_cases e : j = i
          · by_cases e' : j' = i
            · omega
            · rw [if_pos e] at h1
              rw [if_neg e'] at h2
              cases h1
              have := hrvl j' (by omega) (by omega) g1 h2
              omega
          · rw [if_neg e] at h1
            by_cases e' : j' = i
            · rw [if_pos e'] at h2
              cases h2
              have := hrvl j (by omega) (by omega) g1 h1
              omega
            · rw [if_neg e'] at h2
              exact HS3.out j j' b (by omega) (by omega) hne h1 h2
        · refine ⟨hf7.out.os.trans HB5.out.os, hf7.out.tape.trans HB5.out.tape, hf7.out.output.trans HB5.out.output, by have := HB5.out.size; omega, fun b hb => (hkeep b (by have := HB5.out.size; omega) (fun h => by have := (HS1.out.lt b h).1; omega)).trans (HB5.out.block b hb)⟩
    · have b1 : decide ((i : Int) < (n : Int)) = false := by simp; omega
      obtain rfl : i = n := by omega
      obtain ⟨MS, hS0, hS1, hS2, hS3⟩ := HST.out
      have HO6 : Hid ((wr.alloc (.cells #[.int .i64 (-77), .int .i64 0, .int .i64 0, .int .i64 0, .slice none 0 0] 49)).ownsRow W.heap.size 49 5 (.slice z1 i z3) i (MS.flatMap Iv.cs)) := hS1.alloc _
      have HL6 : Hid ((wr.alloc (.cells #[.int .i64 (-77), .int .i64 0, .int .i64 0, .int .i64 0, .slice none 0 0] 49)).ownsRow 0 49 5 (.slice (some ⟨wr.heap.size, 0, none⟩) 1 1) 1 (Iv.cs (mkI (-77)))) := World.ownsRow_lit (base := 0) (e := 49) (size := 5) wr #[.int .i64 (-77), .int .i64 0, .int .i64 0, .int .i64 0, .slice none 0 0] 1 (Nat.zero_le _) (by unfold maxLen; omega) rfl
      have HS0 := hid hS0
      have HS1 := hid hS1
      have HS2 := hid hS2
      have HS3 := hid hS3
      clear hS0 hS1 hS2 hS3 HST
      go_upto_region 9 with (at_builtin; refine wpList_append_row rfl (.tmp 43) (.tmp 45) 22 rfl W.heap.size 49 i2 Z5 5 56 Tryd.underlying22 hi2 hz20 hz21 hz22 rfl (by decide) (.slice z1 i z3) i (MS.flatMap Iv.cs) rfl HO6.out (.slice (some ⟨wr.heap.size, 0, none⟩) 1 1) 1 0 (Iv.cs (mkI (-77))) rfl HL6.out (by intro h; omega) (one5 _) (by unfold maxLen; omega) (by omega) (by (try simp) <;> omega) ?_; intro v7 w7 ho7 hf7 hn7; obtain ⟨y1, y3, rfl, hy3⟩ := row_shape ho7.out; have HY3 := hid hy3; clear hy3 hn7)
      obtain ⟨gz, hgz⟩ : ∃ gz, y1 = some ⟨gz, 0, none⟩ := by
        rcases ho7.out.2 with ⟨_, e⟩ | ⟨g, cap, cur, e, _⟩
        · omega
        · simp only [Value.slice.injEq] at e; exact ⟨g, e.1⟩
      subst hgz
      have hw7 : wr.heap.size + 1 ≤ w7.heap.size := by have := hf7.out.size; simpa using this
      have hKx : ∀ b, b < W.heap.size → w7.heap[b]? = W.heap[b]? := fun b hb => (hf7.out.block b (by simp; omega) (fun h => by have := (HS1.out.lt b h).1; omega)).trans ((heap_alloc_old _ _ (by omega)).trans (BK.out.block b hb))
      have hQx := (hKx x l1).trans HX.out
      have hQy := (hKx y l2).trans HY.out
      have f0 := Joins.unfrozen_of_block hQx 0
      have g0 := Joins.unfrozen_of_block hQy 0
      have g1 := Joins.unfrozen_of_block hQy 1
      have g2 := Joins.unfrozen_of_block hQy 2
      have lx7 : x < w7.heap.size := by omega
      have ly7 : y < w7.heap.size := by omega
      clear p0 p1 p2
      obtain ⟨p0, p1, p2⟩ := three_cells hQx
      obtain ⟨s0, s1, s2⟩ := three_cells hQy
      have hyc := HY3.out
      have c54 : IntKind.i64.wrap (((i + 1 : Nat) : Int) - 1) = (i : Int) := by simp [IntKind.wrap, IntKind.bits, IntKind.signed]; omega
      have c55 : IntKind.i64.wrap ((i : Int) + 1 - 1) = (i : Int) := by simp [IntKind.wrap, IntKind.bits, IntKind.signed]; omega
      have u1 : (0 : Int) ≤ (i : Int) := by omega
      have u2 : (i : Int) ≤ (y3 : Int) := by omega
      have HQX := hid hQx
      have HQY := hid hQy
      have HKX := hid hKx
      clear hQx hQy hKx
      go_wp2_with fail
      obtain ⟨E, hE⟩ : ∃ E, E = (((w7.setCell ⟨x, 0, none⟩ (.slice (some ⟨gz, 0, none⟩) i y3)).setCell ⟨y, 0, none⟩ (.slice (some ⟨gz, 0, none⟩) i y3)).setCell ⟨y, 1, none⟩ (.int .i64 s)).setCell ⟨y, 2, none⟩ (.int .i64 k) := ⟨_, rfl⟩
      rw [← hE]
      have hQ0 : (w7.setCell ⟨x, 0, none⟩ (.slice (some ⟨gz, 0, none⟩) i y3)).heap[y]? = some (.cells #[.slice none 0 0, .int .i64 0, .int .i64 0] 24 (0, 0)) := (Below.heap_setCell _ _ _ _ (fun e => by simp only at e; omega)).trans HQY.out
      have hQE : E.heap[y]? = some (.cells #[.slice (some ⟨gz, 0, none⟩) i y3, .int .i64 s, .int .i64 k] 24 (0, 0)) := by
        rw [hE]
        exact Joins.block_setCell (i := 2) (Joins.block_setCell (i := 1) (Joins.block_setCell (i := 0) hQ0 _) _) _
      have hK : ∀ b, b ≠ x → b ≠ y → E.heap[b]? = w7.heap[b]? := fun b h1 h2 => by
        rw [hE]
        exact (Below.heap_setCell _ _ _ _ h2).trans ((Below.heap_setCell _ _ _ _ h2).trans ((Below.heap_setCell _ _ _ _ h2).trans (Below.heap_setCell _ _ _ _ h1)))
      have hEs : E.heap.size = w7.heap.size := by rw [hE]; simp [World.setCell]
      have hbE : Below x w E := by
        refine ⟨?_, ?_, ?_, by have := HB.out.size; omega, fun b hb => (hK b (by omega) (by omega)).trans ((HKX.out b (by omega)).trans (HB.out.block b hb))⟩
        · rw [hE]; exact hf7.out.os.trans (BK.out.os.trans HB.out.os)
        · rw [hE]; exact hf7.out.tape.trans (BK.out.tape.trans HB.out.tape)
        · rw [hE]; exact hf7.out.output.trans (BK.out.output.trans HB.out.output)
      refine bodyPost_ret (results_cell_row rfl _ _ y 24 _ (0, 0) _ rfl hQE Tryd.underlying24 rfl (by kernel_rfl)) rfl ?_
      have hxW : x ≤ W.heap.size := by omega
      refine ⟨some ⟨gz, 0, none⟩, y3, MS, rfl, ?_, by rw [← HXE.out]; exact hbE⟩
      rw [← HXE.out]
      refine ⟨HL.out, HS0.out, ?_, fun j hj => ?_, HS3.out⟩
      · have h1 := row_kept ho7.out (w' := E) (fun b' hb' => hK b' (by have := (ho7.out.lt b' hb').1; omega) (by have := (ho7.out.lt b' hb').1; omega))
        have h2 := h1.mono (base' := x) hxW
        rw [List.flatMap_append]
        simpa using h2
      · have hO := HS2.out j hj (by have := HL.out; omega)
        have hkj : ∀ b, (Value.slice (MS.getD j default).r1 (l[j].R.length + 1) (MS.getD j default).r3).ownBlock = some b → E.heap[b]? = wr.heap[b]? := fun b hb => by
          have hlt := hO.rr.lt b hb
          exact (hK b (by omega) (by omega)).trans ((hf7.out.block b (by simp; omega) (hO.ne b ((ob_len _ _ _ _ _).trans hb))).trans (heap_alloc_old _ _ hlt.2))
        refine ⟨hO.op, hO.x, hO.y, hO.a, hO.len, hO.sm, (row_kept hO.rr hkj).mono (base' := x) hxW, fun b hb h => ?_⟩
        rcases hf7.out.own b h with h1 | h1
        · exact hO.ne b hb h1
        · have := (hO.rr.lt b ((ob_len _ _ _ _ _).trans hb)).2
          simp at h1
          omega
end Go.Proofs.YteanndophopplaaDoor
/- HELPERS: the marks behind the lists of a program that was lent stand. -/
namespace Go.Proofs.YteanndophopplaaDoor
open Go.RowKit
set_option linter.unusedVariables false
set_option linter.unusedSimpArgs false
theorem O2_marks (R : List (Int × Int)) : (O2 (R ++ MK1))[R.length * 2]? = some (.int .i64 (-77)) := by
  have h0 := (O2_at (R ++ MK1) R.length (by simp)).1
  simp at h0
  simpa using h0
theorem insts_marks (MS : List Iv) : ((MS ++ [mkI (-77)]).flatMap Iv.cs)[MS.length * 5]? = some (.int .i64 (-77)) := by
  have h0 := flat5 (MS ++ [mkI (-77)]) MS.length 0 (by simp) (by omega)
  rw [Nat.add_zero] at h0
  rw [h0]
  simp
/-- what is read of the i-th instruction of a lent program -/
theorem PL.at5 {w : World} {base n c gz : Nat} {l : List In} {MS : List Iv} (h : PL w base (some ⟨gz, 0, none⟩) n c l MS) (i : Nat) (hi : i < n) : I5 w gz 0 i (MS.getD i default) := by
  have hjl : i < MS.length := by have := h.lms; omega
  have hg : MS.getD i default = MS[i] := by simp [List.getD_eq_getElem?_getD, List.getElem?_eq_getElem hjl]
  have f : ∀ q, q < 5 → w.cell? ⟨gz, i * 5 + q, none⟩ = (Iv.cs MS[i])[q]? := fun q hq => by
    rw [h.row.cellAt (i * 5 + q) (by omega), flat5 (MS ++ [mkI (-77)]) i q (by simp; omega) hq, List.getElem_append_left hjl]
  have f0 := f 0 (by omega)
  rw [Nat.add_zero] at f0
  rw [hg]
  unfold I5
  rw [Nat.zero_add]
  exact ⟨f0, f 1 (by omega), f 2 (by omega), f 3 (by omega), f 4 (by omega)⟩
theorem PL.blk {w : World} {base n c : Nat} {ad : Option Addr} {l : List In} {MS : List Iv} (h : PL w base ad n c l MS) : ∃ gz, ad = some ⟨gz, 0, none⟩ ∧ n + 1 ≤ c ∧ c ≤ maxLen := by
  obtain ⟨a, c', e, h1, h2⟩ := row_shape h.row
  simp only [Value.slice.injEq] at e
  obtain ⟨_, _, rfl⟩ := e
  rcases h.row.2 with ⟨_, e⟩ | ⟨g, cap, cur, e, _⟩
  · omega
  · simp only [Value.slice.injEq] at e; exact ⟨g, e.1, h1, h2⟩
theorem LO.blk {w : World} {base : Nat} {z : Value} {N : Iv} {I : In} (h : LO w base z N I) : ∃ g, N.r1 = some ⟨g, 0, none⟩ ∧ I.R.length + 1 ≤ N.r3 ∧ N.r3 ≤ maxLen := by
  obtain ⟨a, c', e, h1, h2⟩ := row_shape h.rr
  simp only [Value.slice.injEq] at e
  obtain ⟨_, _, rfl⟩ := e
  rcases h.rr.2 with ⟨_, e⟩ | ⟨g, cap, cur, e, _⟩
  · omega
  · simp only [Value.slice.injEq] at e; exact ⟨g, e.1, h1, h2⟩
theorem PL.below {w w' : World} {base n c : Nat} {ad : Option Addr} {l : List In} {MS : List Iv} (h : PL w base ad n c l MS) (hb : Below w.heap.size w w') : PL w' base ad n c l MS :=
  ⟨h.len, h.lms, row_kept h.row (fun b hb' => hb.block b (h.row.lt b hb').2), fun j hj => by
    have hO := h.lo j hj
    exact ⟨hO.op, hO.x, hO.y, hO.a, hO.len, hO.sm, row_kept hO.rr (fun b hb' => hb.block b (hO.rr.lt b hb').2), hO.ne⟩, h.pw⟩
/-- a lent program can be read -/
theorem PL.pi {w : World} {base n c : Nat} {ad : Option Addr} {l : List In} {MS : List Iv} (h : PL w base ad n c l MS) : PI w w.heap.size ad n l := by
  obtain ⟨gz, rfl, _, _⟩ := h.blk
  refine ⟨h.len, fun hp => ⟨gz, 0, fun j => MS.getD j default, rfl, (h.row.lt gz rfl).2, fun i hi => ⟨h.at5 i (by have := h.len; omega), ?_⟩⟩⟩
  have hO := h.lo i hi
  refine ⟨hO.op, hO.x, hO.y, hO.a, hO.len, hO.sm, ?_⟩
  obtain ⟨g, e, _, _⟩ := hO.blk
  have hrr := hO.rr
  rw [e] at hrr
  refine ⟨_, _, by rw [hO.len], ?_⟩
  right
  refine ⟨g, 0, e, (hrr.lt g rfl).2, fun k hk => ?_, fun k hk => ?_⟩
  · rw [Nat.zero_add, hrr.cellAt (k * 2) (by omega), (O2_at (l[i].R ++ MK1) k (by simp; omega)).1, List.getElem_append_left hk]
    simp [List.getD_eq_getElem?_getD, List.getElem?_eq_getElem hk]
  · rw [Nat.zero_add, hrr.cellAt (k * 2 + 1) (by omega), (O2_at (l[i].R ++ MK1) k (by simp; omega)).2, List.getElem_append_left hk]
    simp [List.getD_eq_getElem?_getD, List.getElem?_eq_getElem hk]
set_option maxRecDepth 100000 in
set_option maxHeartbeats 8000000 in
theorem kept13 {w : World} {ad : Option Addr} {n c : Nat} {l : List In} {MS : List Iv} {s k : Int} {base : Nat} (h : PL w base ad n c l MS) (hn : n * 56 ≤ 140737488351232) :
    Calls Tryd.prog 13 #[pv ad n c s k] w fun e w' => e = .returned (.bool true) ∧ Below w.heap.size w w' := by
  obtain ⟨gz, rfl, hc1, hc2⟩ := h.blk
  have hb := Joins.below_alloc1 w (.cells #[.slice (some ⟨gz, 0, none⟩) n c, .int .i64 s, .int .i64 k] 24)
  obtain ⟨U, hU⟩ : ∃ U, U = w.alloc (.cells #[.slice (some ⟨gz, 0, none⟩) n c, .int .i64 s, .int .i64 k] 24) := ⟨_, rfl⟩
  rw [← hU] at hb
  have hX : U.heap[w.heap.size]? = some (.cells #[.slice (some ⟨gz, 0, none⟩) n c, .int .i64 s, .int .i64 k] 24 (0, 0)) := by rw [hU]; exact heap_alloc_new w _
  have hP := h.below hb
  have hm := insts_marks MS
  rw [h.lms] at hm
  have m0 : U.cell? ⟨gz, n * 5, none⟩ = some (.int .i64 (-77)) := (hP.row.cellAt (n * 5) (by omega)).trans hm
  have HP := hid hP
  have HB := hid hb
  have HL := hid h.len
  have ad3 : IntKind.i64.wrap ((n : Int) + 1) = (n : Int) + 1 := by simp [IntKind.wrap, IntKind.bits, IntKind.signed]; omega
  have hsz : w.heap.size < U.heap.size := (Array.getElem?_eq_some_iff.1 hX).1
  obtain ⟨b, hbe⟩ : ∃ b, b = w.heap.size := ⟨_, rfl⟩
  have u1 : (0 : Int) ≤ (n : Int) + 1 := by omega
  have u2 : (n : Int) + 1 ≤ (c : Int) := by omega
  have u3 : (n : Int) < (n : Int) + 1 := by omega
  clear h hb hP hm
  go_enter Tryd.func13, Tryd.ntmps13
  go_upto_region 1 with fail
  rw [← hU, ← hbe]
  rw [← hbe] at hX hsz HB
  have HX := hid hX
  have HBE := hid hbe
  obtain ⟨p0, p1, p2⟩ := three_cells hX
  clear hU hbe hX
  go_wp2_with fail
  clear p0 p1 p2 m0 ad3 u1 u2 u3
  go_loopw [4] (fun y wq => ∃ i : Nat, y = .int .i64 (i : Int) ∧ i ≤ n ∧ Hid (Below U.heap.size U wq)) (fun y _ => n - (intOf y).toNat)
  case atStart => exact ⟨0, rfl, by omega, Below.refl _ _⟩
  case round =>
    obtain ⟨i, rfl, hi, BK⟩ := hrel
    obtain ⟨p0, p1, p2⟩ := three_cells ((BK.out.block b hsz).trans HX.out)
    by_cases hil : i < n
    · have b1 : decide ((i : Int) < (n : Int)) = true := by simp; omega
      have b2 : (i : Int) < (n : Int) := by omega
      have ad1 : IntKind.i64.wrap ((i : Int) + 1) = (i : Int) + 1 := by simp [IntKind.wrap, IntKind.bits, IntKind.signed]; omega
      have hlt : i < l.length := by have := HL.out; omega
      have hPq := HP.out.below BK.out
      have hI5 := hPq.at5 i hil
      have hO := hPq.lo i hlt
      obtain ⟨N, hN⟩ : ∃ N, N = MS.getD i default := ⟨_, rfl⟩
      rw [← hN] at hI5 hO
      obtain ⟨g, e, h1, h2⟩ := hO.blk
      obtain ⟨op, xx, yy, aa, r1, r2, r3⟩ := N
      dsimp only at e h1 h2
      subst e
      have hlen : r2 = l[i].R.length := hO.len
      have hsm : r2 * 16 ≤ 140737488351232 := hO.sm
      have hrr := hO.rr
      dsimp only at hrr
      have hmm := O2_marks l[i].R
      rw [← hlen] at hrr hmm h1
      have q0 : wr.cell? ⟨g, r2 * 2, none⟩ = some (.int .i64 (-77)) := (hrr.cellAt (r2 * 2) (by omega)).trans hmm
      unfold I5 at hI5
      simp only [Nat.zero_add] at hI5
      obtain ⟨n0, n1, n2, n3, n4⟩ := hI5
      have a1 : IntKind.i64.wrap ((r2 : Int) + 1) = (r2 : Int) + 1 := by simp [IntKind.wrap, IntKind.bits, IntKind.signed]; omega
      have u1 : (0 : Int) ≤ (r2 : Int) + 1 := by omega
      have u2 : (r2 : Int) + 1 ≤ (r3 : Int) := by omega
      have u3 : (r2 : Int) < (r2 : Int) + 1 := by omega
      clear hN hO hPq hrr hmm hlen
      go_wp2
      exact ⟨⟨i + 1, by push_cast; rfl, by omega, BK.out⟩, by simp [intOf]; omega⟩
    · have b1 : decide ((i : Int) < (n : Int)) = false := by simp; omega
      go_wp2
      all_goals go_ret
      all_goals refine ⟨rfl, ?_⟩
      rw [← HBE.out]
      exact HB.out.trans (Joins.below_le BK.out (by omega))
end Go.Proofs.YteanndophopplaaDoor
/- HELPERS: a program that was lent, with other things in the same lists. -/
namespace Go.Proofs.YteanndophopplaaDoor
open Go.RowKit
set_option linter.unusedVariables false
set_option linter.unusedSimpArgs false
abbrev J6 : In := ⟨6, 0, 0, 0, []⟩
def JO (w : World) (base : Nat) (z : Value) (N : Iv) (I : In) : Prop := LO w base z N I ∨ (N = I6 ∧ I = J6)
theorem LO.kept {w w' : World} {base : Nat} {z : Value} {N : Iv} {I : In} (h : LO w base z N I) (hk : ∀ b, N.rv.ownBlock = some b → w'.heap[b]? = w.heap[b]?) : LO w' base z N I :=
  ⟨h.op, h.x, h.y, h.a, h.len, h.sm, row_kept h.rr (fun b hb => hk b ((ob_len _ _ _ _ _).trans hb)), h.ne⟩
structure TV (w : World) (base : Nat) (ad : Option Addr) (n c : Nat) (l : List In) (MS : List Iv) : Prop where
  len : n = l.length
  lms : MS.length = n
  row : w.ownsRow base 49 5 (.slice ad (n + 1) c) (n + 1) ((MS ++ [mkI (-77)]).flatMap Iv.cs)
  lo : ∀ j (hj : j < l.length), JO w base (.slice ad (n + 1) c) (MS.getD j default) l[j]
  pw : ∀ j j' b, j < n → j' < n → j ≠ j' → (MS.getD j default).rv.ownBlock = some b → (MS.getD j' default).rv.ownBlock ≠ some b
theorem PL.tv {w : World} {base n c : Nat} {ad : Option Addr} {l : List In} {MS : List Iv} (h : PL w base ad n c l MS) : TV w base ad n c l MS := ⟨h.len, h.lms, h.row, fun j hj => .inl (h.lo j hj), h.pw⟩
theorem TV.below {w w' : World} {base n c : Nat} {ad : Option Addr} {l : List In} {MS : List Iv} (h : TV w base ad n c l MS) (hb : Below w.heap.size w w') : TV w' base ad n c l MS :=
  ⟨h.len, h.lms, row_kept h.row (fun b hb' => hb.block b (h.row.lt b hb').2), fun j hj => (h.lo j hj).imp (fun hO => hO.kept (fun b hb' => hb.block b (hO.rr.lt b ((ob_len _ _ _ _ _).trans hb')).2)) id, h.pw⟩
theorem TV.at5 {w : World} {base n c gz : Nat} {l : List In} {MS : List Iv} (h : TV w base (some ⟨gz, 0, none⟩) n c l MS) (i : Nat) (hi : i < n) : I5 w gz 0 i (MS.getD i default) := by
  have hjl : i < MS.length := by have := h.lms; omega
  have hg : MS.getD i default = MS[i] := by simp [List.getD_eq_getElem?_getD, List.getElem?_eq_getElem hjl]
  have f : ∀ q, q < 5 → w.cell? ⟨gz, i * 5 + q, none⟩ = (Iv.cs MS[i])[q]? := fun q hq => by
    rw [h.row.cellAt (i * 5 + q) (by omega), flat5 (MS ++ [mkI (-77)]) i q (by simp; omega) hq, List.getElem_append_left hjl]
  have f0 := f 0 (by omega)
  rw [Nat.add_zero] at f0
  rw [hg]
  unfold I5
  rw [Nat.zero_add]
  exact ⟨f0, f 1 (by omega), f 2 (by omega), f 3 (by omega), f 4 (by omega)⟩
theorem LO.im {w : World} {base : Nat} {z : Value} {N : Iv} {I : In} (hO : LO w base z N I) : IM w w.heap.size N I := by
  refine ⟨hO.op, hO.x, hO.y, hO.a, hO.len, hO.sm, ?_⟩
  obtain ⟨g, e, _, _⟩ := hO.blk
  have hrr := hO.rr
  rw [e] at hrr
  refine ⟨_, _, by rw [hO.len], ?_⟩
  right
  refine ⟨g, 0, e, (hrr.lt g rfl).2, fun k hk => ?_, fun k hk => ?_⟩
  · rw [Nat.zero_add, hrr.cellAt (k * 2) (by omega), (O2_at (I.R ++ MK1) k (by simp; omega)).1, List.getElem_append_left hk]
    simp [List.getD_eq_getElem?_getD, List.getElem?_eq_getElem hk]
  · rw [Nat.zero_add, hrr.cellAt (k * 2 + 1) (by omega), (O2_at (I.R ++ MK1) k (by simp; omega)).2, List.getElem_append_left hk]
    simp [List.getD_eq_getElem?_getD, List.getElem?_eq_getElem hk]
theorem TV.pi {w : World} {base n c gz : Nat} {l : List In} {MS : List Iv} (h : TV w base (some ⟨gz, 0, none⟩) n c l MS) : PI w w.heap.size (some ⟨gz, 0, none⟩) n l := by
  refine ⟨h.len, fun hp => ⟨gz, 0, fun j => MS.getD j default, rfl, (h.row.lt gz rfl).2, fun i hi => ⟨h.at5 i (by have := h.len; omega), ?_⟩⟩⟩
  rcases h.lo i hi with hO | ⟨e1, e2⟩
  · exact hO.im
  · show IM w w.heap.size (MS.getD i default) l[i]
    rw [e1, e2]
    exact ⟨rfl, rfl, rfl, rfl, rfl, by decide, ⟨none, 0, rfl, .inl rfl⟩⟩
theorem O2_set : ∀ (L : List (Int × Int)) (i : Nat) (x y : Int), ((O2 L).set (i * 2) (.int .i64 x)).set (i * 2 + 1) (.int .i64 y) = O2 (L.set i (x, y)) := by
  intro L
  induction L with
  | nil => intro i x y; simp [O2]
  | cons a L ih =>
    intro i x y
    cases i with
    | zero => simp [O2]
    | succ i =>
      have h := ih i x y
      have e : O2 (a :: L) = .int .i64 a.1 :: .int .i64 a.2 :: O2 L := by simp [O2]
      have e2 : O2 ((a :: L).set (i + 1) (x, y)) = .int .i64 a.1 :: .int .i64 a.2 :: O2 (L.set i (x, y)) := by simp [O2]
      rw [e, e2, ← h, show (i + 1) * 2 = i * 2 + 1 + 1 by omega]
      simp
/-- one pair of an instruction's ranges is written -/
theorem TV.setR {w : World} {base n c gz g r3 : Nat} {l : List In} {MS : List Iv} {op x y a : Int} {r2 : Nat} (h : TV w base (some ⟨gz, 0, none⟩) n c l MS) (i : Nat) (hi : i < n) (hN : MS.getD i default = ⟨op, x, y, a, some ⟨g, 0, none⟩, r2, r3⟩) (k : Nat) (hk : k < r2) (p q : Int) :
    ∃ l', TV ((w.setCell ⟨g, k * 2, none⟩ (.int .i64 p)).setCell ⟨g, k * 2 + 1, none⟩ (.int .i64 q)) base (some ⟨gz, 0, none⟩) n c l' MS := by
  have hl := h.len
  have hil : i < l.length := by omega
  rcases h.lo i hil with hO | ⟨e1, _⟩
  rotate_left
  · rw [hN] at e1
    cases e1
  rw [hN] at hO
  have hne : gz ≠ g := fun e => hO.ne g rfl (by rw [e]; rfl)
  have hkeep : ∀ b, b ≠ g → ((w.setCell ⟨g, k * 2, none⟩ (.int .i64 p)).setCell ⟨g, k * 2 + 1, none⟩ (.int .i64 q)).heap[b]? = w.heap[b]? := fun b hb => (Below.heap_setCell _ _ _ _ hb).trans (Below.heap_setCell _ _ _ _ hb)
  have hlen : r2 = l[i].R.length := hO.len
  refine ⟨l.set i { l[i] with R := l[i].R.set k (p, q) }, by simpa using hl, h.lms, row_kept h.row (fun b hb => hkeep b (by cases hb; exact hne)), fun j hj => ?_, h.pw⟩
  have hjl : j < l.length := by simpa using hj
  by_cases e : i = j
  · subst e
    left
    rw [hN, List.getElem_set_self]
    refine ⟨hO.op, hO.x, hO.y, hO.a, by simpa using hlen, hO.sm, ?_, hO.ne⟩
    have h1 := row_setC (row_setC hO.rr (k * 2) (.int .i64 p)) (k * 2 + 1) (.int .i64 q)
    rw [O2_set, List.set_append_left _ _ (by omega)] at h1
    simpa using h1
  · rw [List.getElem_set_ne e]
    refine (h.lo j hjl).imp (fun hOj => hOj.kept (fun b hb => hkeep b (fun eb => ?_))) id
    subst eb
    exact h.pw j i b (by omega) hi (fun e' => e e'.symm) hb (by rw [hN]; rfl)
/-- one instruction is written -/
theorem TV.setI {w : World} {base n c gz : Nat} {l : List In} {MS : List Iv} (h : TV w base (some ⟨gz, 0, none⟩) n c l MS) (i : Nat) (hi : i < n) :
    TV (w.setCells gz (i * 5) (Iv.cs I6)) base (some ⟨gz, 0, none⟩) n c (l.set i J6) (MS.set i I6) := by
  have hl := h.len
  have hm := h.lms
  have hset := row_setCells (Iv.cs I6) (i * 5) w _ h.row (by rw [flat5_len]; simp; omega)
  rw [flat5_set _ i I6 (by simp; omega), List.set_append_left _ _ (by omega)] at hset
  have hkeep : ∀ b, b ≠ gz → (w.setCells gz (i * 5) (Iv.cs I6)).heap[b]? = w.heap[b]? := fun b hb => setCells_old gz _ _ _ b hb
  have hget : ∀ j, (MS.set i I6).getD j default = if j = i then I6 else MS.getD j default := fun j => by
    by_cases e : j = i
    · subst e; rw [if_pos rfl]; simp [List.getD_eq_getElem?_getD, show j < MS.length by omega]
    · rw [if_neg e]; simp [List.getD_eq_getElem?_getD, List.getElem?_set_ne (fun e' => e e'.symm)]
  refine ⟨by simpa using hl, by simpa using hm, hset, fun j hj => ?_, fun j j' b hj hj' hne h1 h2 => ?_⟩
  · have hjl : j < l.length := by simpa using hj
    rw [hget]
    by_cases e : i = j
    · subst e
      rw [if_pos rfl, List.getElem_set_self]
      exact .inr ⟨rfl, rfl⟩
    · rw [if_neg (fun e' => e e'.symm), List.getElem_set_ne e]
      exact (h.lo j hjl).imp (fun hOj => hOj.kept (fun b hb => hkeep b (fun eb => hOj.ne b hb (by rw [eb]; rfl)))) id
  · rw [hget] at h1 h2
    by_cases e : j = i
    · rw [if_pos e] at h1; cases h1
    · by_cases e' : j' = i
      · rw [if_pos e'] at h2; cases h2
      · rw [if_neg e] at h1
        rw [if_neg e'] at h2
        exact h.pw j j' b hj hj' hne h1 h2
theorem store49 {ops : Array Oper} {rest : List Oper} {op : Oper} {a : Act} {w : World} {Q : Exit → Act → World → Prop} (hgd : op.guard = none) (x y : Operand) (ho : op.op = .store 51 x y)
    (b i : Nat) (p q : Int) (hx : a.eval x = .pointer (some ⟨b, i * 2, none⟩)) (hy : a.eval y = .agg #[.int .i64 p, .int .i64 q]) (ht : w.there b (i * 2) 2)
    (h : wpList Tryd.prog ops Q rest (a.put op.dst undef) ((w.setCell ⟨b, i * 2, none⟩ (.int .i64 p)).setCell ⟨b, i * 2 + 1, none⟩ (.int .i64 q))) : wpList Tryd.prog ops Q (op :: rest) a w :=
  wpList_store_mid hgd 51 x y ho b (i * 2) #[.int .i64 p, .int .i64 q] hx hy ht size49 (by simp [Value.oneCell']) h
theorem store51 {ops : Array Oper} {rest : List Oper} {op : Oper} {a : Act} {w : World} {Q : Exit → Act → World → Prop} (hgd : op.guard = none) (x y : Operand) (ho : op.op = .store 49 x y)
    (b i : Nat) (hx : a.eval x = .pointer (some ⟨b, i * 5, none⟩)) (hy : a.eval y = I6.v) (ht : w.there b (i * 5) 5)
    (h : wpList Tryd.prog ops Q rest (a.put op.dst undef) (w.setCells b (i * 5) (Iv.cs I6))) : wpList Tryd.prog ops Q (op :: rest) a w :=
  wpList_store_mid hgd 49 x y ho b (i * 5) #[.int .i64 6, .int .i64 0, .int .i64 0, .int .i64 0, .slice none 0 0] hx hy ht size51 (by simp [Value.oneCell']) h
end Go.Proofs.YteanndophopplaaDoor
namespace Go.Proofs.YteanndophopplaaDoor
open Go.RowKit
set_option linter.unusedVariables false
set_option linter.unusedSimpArgs false
set_option maxRecDepth 100000 in
set_option maxHeartbeats 16000000 in
theorem turned14 {w : World} {ad : Option Addr} {n c : Nat} {l : List In} {MS : List Iv} {s k : Int} {base : Nat} (h : PL w base ad n c l MS) (hn : n * 56 ≤ 140737488351232) (hbase : base ≤ w.heap.size) :
    Calls Tryd.prog 14 #[pv ad n c s k] w fun e w' => e = .returned (.tuple #[]) ∧ (∃ l', PI w' w'.heap.size ad n l') ∧ Below base w w' ∧ w.heap.size ≤ w'.heap.size ∧ ∀ (b' : Nat) (cs : Array Value) (fr : Nat × Nat), w.heap[b']? = some (.cells cs 24 fr) → w'.heap[b']? = some (.cells cs 24 fr) := by
  obtain ⟨gz, rfl, hc1, hc2⟩ := h.blk
  obtain ⟨U, hU⟩ : ∃ U, U = w.alloc (.cells #[.slice (some ⟨gz, 0, none⟩) n c, .int .i64 s, .int .i64 k] 24) := ⟨_, rfl⟩
  have hb : Below w.heap.size w U := by rw [hU]; exact Joins.below_alloc1 w _
  have hX : U.heap[w.heap.size]? = some (.cells #[.slice (some ⟨gz, 0, none⟩) n c, .int .i64 s, .int .i64 k] 24 (0, 0)) := by rw [hU]; exact heap_alloc_new w _
  have HT := hid (h.tv.below hb)
  have HB : Hid (Below base w U) := Joins.below_le hb hbase
  have HF : Hid (∀ (b' : Nat) (cs : Array Value) (fr : Nat × Nat), w.heap[b']? = some (.cells cs 24 fr) → U.heap[b']? = some (.cells cs 24 fr)) := fun b' cs fr h' => (hb.block b' (Array.getElem?_eq_some_iff.1 h').1).trans h'
  have hsz : w.heap.size < U.heap.size := (Array.getElem?_eq_some_iff.1 hX).1
  obtain ⟨b, hbe⟩ : ∃ b, b = w.heap.size := ⟨_, rfl⟩
  clear h hb
  go_enter Tryd.func14, Tryd.ntmps14
  go_upto_region 1 with fail
  rw [← hU, ← hbe]
  rw [← hbe] at hX hsz
  have HX := hid hX
  have HBE := hid hbe
  clear hU hbe hX
  go_wp2_with fail
  go_loopw [2] (fun y wq => ∃ i : Nat, y = .int .i64 (i : Int) ∧ i ≤ n ∧ Hid (∃ l' MS', TV wq base (some ⟨gz, 0, none⟩) n c l' MS') ∧ Hid (Below base w wq) ∧ Hid (wq.heap[b]? = some (.cells #[.slice (some ⟨gz, 0, none⟩) n c, .int .i64 s, .int .i64 k] 24 (0, 0))) ∧ b < wq.heap.size ∧ Hid (∀ (b' : Nat) (cs : Array Value) (fr : Nat × Nat), w.heap[b']? = some (.cells cs 24 fr) → wq.heap[b']? = some (.cells cs 24 fr))) (fun y _ => n - (intOf y).toNat)
  case atStart => exact ⟨0, rfl, by omega, ⟨_, _, HT.out⟩, HB.out, HX.out, hsz, HF.out⟩
  case round =>
    clear HT HB HX hsz HF
    obtain ⟨i, rfl, hi, HT, HB, HX, hsz, HF⟩ := hrel
    obtain ⟨p0, p1, p2⟩ := three_cells HX.out
    by_cases hil : i < n
    · have b1 : decide ((i : Int) < (n : Int)) = true := by simp; omega
      have b2 : (i : Int) < (n : Int) := by omega
      have ad1 : IntKind.i64.wrap ((i : Int) + 1) = (i : Int) + 1 := by simp [IntKind.wrap, IntKind.bits, IntKind.signed]; omega
      go_wp2_with fail
      obtain ⟨l1, MS, hT⟩ := HT.out
      obtain ⟨N, hN⟩ : ∃ N, N = MS.getD i default := ⟨_, rfl⟩
      obtain ⟨op, xx, yy, aa, r1, r2, r3⟩ := N
      have hr2 : r2 ≤ 8796093022208 := by
        rcases hT.lo i (by have := hT.len; omega) with hO | ⟨e1, _⟩
        · rw [← hN] at hO; have := hO.sm; dsimp only at this; omega
        · rw [← hN] at e1; cases e1; omega
      have HT1 := hid hT
      have HN := hid hN
      clear hT hN HT p0 p1 p2
      go_loopw [3] (fun y wq => ∃ j : Nat, y = .int .i64 (j : Int) ∧ j ≤ r2 ∧ Hid (∃ l', TV wq base (some ⟨gz, 0, none⟩) n c l' MS) ∧ Hid (Below base w wq) ∧ Hid (wq.heap[b]? = some (.cells #[.slice (some ⟨gz, 0, none⟩) n c, .int .i64 s, .int .i64 k] 24 (0, 0))) ∧ b < wq.heap.size ∧ Hid (∀ (b' : Nat) (cs : Array Value) (fr : Nat × Nat), w.heap[b']? = some (.cells cs 24 fr) → wq.heap[b']? = some (.cells cs 24 fr))) (fun y _ => r2 - (intOf y).toNat)
      case atStart => exact ⟨0, rfl, by omega, ⟨_, HT1.out⟩, HB.out, HX.out, hsz, HF.out⟩
      case round =>
        clear HT1 HB HX hsz HF
        obtain ⟨j, rfl, hj, HT, HB, HX, hsz, HF⟩ := hrel
        obtain ⟨p0, p1, p2⟩ := three_cells HX.out
        obtain ⟨l2, hT⟩ := HT.out
        have hI5 := hT.at5 i hil
        rw [← HN.out] at hI5
        unfold I5 at hI5
        simp only [Nat.zero_add] at hI5
        obtain ⟨n0, n1, n2, n3, n4⟩ := hI5
        have hgb : gz ≠ b := fun e => own_ne hT.row HX.out (by decide) (by rw [e]; rfl)
        by_cases hjl : j < r2
        · have b3 : decide ((j : Int) < (r2 : Int)) = true := by simp; omega
          have b4 : (j : Int) < (r2 : Int) := by omega
          have ad2 : IntKind.i64.wrap ((j : Int) + 1) = (j : Int) + 1 := by simp [IntKind.wrap, IntKind.bits, IntKind.signed]; omega
          have m3 : IntKind.i64.wrap (3 * (j : Int)) = 3 * (j : Int) := by simp [IntKind.wrap, IntKind.bits, IntKind.signed]; omega
          have m4 : IntKind.i64.wrap (3 * (j : Int) + 1) = 3 * (j : Int) + 1 := by simp [IntKind.wrap, IntKind.bits, IntKind.signed]; omega
          obtain ⟨g, hg, hO⟩ : ∃ g, r1 = some ⟨g, 0, none⟩ ∧ LO wr base (.slice (some ⟨gz, 0, none⟩) (n + 1) c) ⟨op, xx, yy, aa, r1, r2, r3⟩ (l2[i]'(by have := hT.len; omega)) := by
            rcases hT.lo i (by have := hT.len; omega) with hO | ⟨e1, _⟩
            · rw [← HN.out] at hO
              obtain ⟨g, e, _, _⟩ := hO.blk
              exact ⟨g, e, hO⟩
            · rw [← HN.out] at e1; cases e1; omega
          subst hg
          have hlen := hO.len
          dsimp only at hlen
          have ht := row_there hO.rr (j := j * 2) (m := 2) (by omega)
          have hgb2 : g ≠ b := fun e => own_ne hO.rr HX.out (by decide) (by rw [e]; rfl)
          have hgbase : base ≤ g := (hO.rr.lt g rfl).1
          have hgf : ∀ (b' : Nat) (cs : Array Value) (fr : Nat × Nat), w.heap[b']? = some (.cells cs 24 fr) → b' ≠ g := fun b' cs fr h' e => own_ne hO.rr (HF.out b' cs fr h') (by decide) (by rw [e]; rfl)
          have HGF := hid hgf
          clear hgf
          obtain ⟨l3, hT3⟩ := hT.setR i hil HN.out.symm j hjl (3 * (j : Int)) (3 * (j : Int) + 1)
          have HT3 := hid hT3
          clear hT hT3 hO hlen HT
          go_wp2_with ((with_reducible refine store49 rfl (.tmp 35) (.tmp 34) rfl g j (3 * (j : Int)) (3 * (j : Int) + 1) ?_ ?_ ht ?_); (rfl); (rfl))
          exact ⟨⟨j + 1, by push_cast; rfl, by omega, ⟨_, HT3.out⟩, Below.two HB.out hgbase _ _, (Below.heap_setCell _ _ _ _ (fun e => hgb2 e.symm)).trans ((Below.heap_setCell _ _ _ _ (fun e => hgb2 e.symm)).trans HX.out), by simpa [World.setCell] using hsz, fun b' cs fr h' => (Below.heap_setCell _ _ _ _ (HGF.out b' cs fr h')).trans ((Below.heap_setCell _ _ _ _ (HGF.out b' cs fr h')).trans (HF.out b' cs fr h'))⟩, by simp [intOf]; omega⟩
        · have b3 : decide ((j : Int) < (r2 : Int)) = false := by simp; omega
          by_cases h7 : op = 7
          · subst h7
            have ht := row_there hT.row (j := i * 5) (m := 5) (by omega)
            have hT5 := hT.setI i hil
            have hgbase : base ≤ gz := (hT.row.lt gz rfl).1
            have hgf : ∀ (b' : Nat) (cs : Array Value) (fr : Nat × Nat), w.heap[b']? = some (.cells cs 24 fr) → b' ≠ gz := fun b' cs fr h' e => own_ne hT.row (HF.out b' cs fr h') (by decide) (by rw [e]; rfl)
            have HGF := hid hgf
            clear hgf
            have HT5 := hid hT5
            clear hT hT5 HT
            go_wp2_with ((with_reducible refine store51 rfl (.tmp 47) (.tmp 46) rfl gz i ?_ ?_ ht ?_); (rfl); (rfl))
            exact ⟨⟨i + 1, by push_cast; rfl, by omega, ⟨_, _, HT5.out⟩, Below.setCells hgbase _ _ _ _ HB.out, (setCells_old gz _ _ _ b (fun e => hgb e.symm)).trans HX.out, by rw [setCells_size]; exact hsz, fun b' cs fr h' => (setCells_old gz _ _ _ b' (HGF.out b' cs fr h')).trans (HF.out b' cs fr h')⟩, by simp [intOf]; omega⟩
          · have b7 : (op == 7) = false := by simpa using h7
            have HTT := hid hT
            clear hT HT
            go_wp2
            exact ⟨⟨i + 1, by push_cast; rfl, by omega, ⟨_, _, HTT.out⟩, HB.out, HX.out, hsz, HF.out⟩, by simp [intOf]; omega⟩
    · have b1 : decide ((i : Int) < (n : Int)) = false := by simp; omega
      go_wp2
      all_goals go_end0
      all_goals obtain ⟨l', MS', hT⟩ := HT.out
      all_goals exact ⟨rfl, ⟨l', hT.pi⟩, HB.out, by have := HBE.out; omega, HF.out⟩
end Go.Proofs.YteanndophopplaaDoor
