/- PROVED: the law CodeBack of layer 10 answers true for every program, all bytes and every text: a program that is written is read, and loaded, as itself; bytes that are loaded are written as themselves; a text that is read is written as one that is read as the same, and written as itself.
   CONDITIONS: the form's own (each slice at most 2^47 - 4096 bytes); the variables code.words and strconv.uint64pow10 start as the program's text lays them (the given card ties that); the card speaks of the pruned copy of the project that the seat holds. -/
import Derived.Test.YteanndophopplaaDoorGB
import Derived.Test.YteanndophopplaaDoorCp
import Derived.Test.YteanndophopplaaDoorLb
import Derived.Test.YteanndophopplaaDoorUa
import Derived.Test.YteanndophopplaaDoorTh
import Derived.Test.YteanndophopplaaDoorTe
import Derived.Test.YteanndophopplaaDoorTa
import Derived.Deep.SlicePairs
import Derived.RowKit
import Derived.Test.YteanndophopplaaDoorOb
import Derived.Test.YteanndophopplaaDoorProg
import Derived.WalkKit
import Derived.ProofKit
import Derived.BigQuiet
import Derived.WalkSmall
import Derived.Deep.QuietTactic
import Derived.Deep.RegionWith
import Derived.Lib.SmallJoins
import Derived.Lib.MinMax
import Derived.Maps.AppendAt
import Derived.Laws.AppendOwnNone
import Derived.Test.YteanndophopplaaDoorRi
import Derived.Lib.Small
import Derived.Deep.Cut
import Derived.Deep.CutRange
import Derived.Test.YteanndophopplaaDoorBh
import Derived.Laws.EntriesVeiled
import Derived.OrdersHeld
import Derived.StillTail
import Derived.Tactics
import Derived.Below
import Derived.Test.YteanndophopplaaDoorCc
import Derived.Test.YteanndophopplaaDoorCb
import Derived.Deep.RegionHeld3
import Derived.Deep.MidRow
import Derived.Deep.OwnRows
import Derived.Laws.Rows
import Derived.WalkLawsBesides
import Derived.Deep.RegionLaw
import Derived.Laws.CopyOwn
import Derived.Lib.LazyBuf
import Derived.Deep.Onto
import Derived.Test.YteanndophopplaaDoorGA
import Derived.Test.YteanndophopplaaDoorMD
import Derived.Test.YteanndophopplaaDoorKK
import Derived.Test.YteanndophopplaaDoorJC
import Derived.Test.YteanndophopplaaDoorSg
import Derived.Test.YteanndophopplaaDoorSa
import Derived.Test.YteanndophopplaaDoorHI
import Derived.Test.YteanndophopplaaDoorOO
import Derived.Test.YteanndophopplaaDoorQQ
import Derived.Test.YteanndophopplaaDoorJE
import Derived.Test.YteanndophopplaaDoorIR
import Derived.Test.YteanndophopplaaDoorPP
import Derived.Test.YteanndophopplaaDoorCe
import Derived.Test.YteanndophopplaaDoorCards
import Derived.Test.YteanndophopplaaDoorTie
import Derived.Test.YteanndophopplaaDoorLL
import Derived.Lib.ItoaNum
import Derived.ChangeMaps5
/- HELPERS: a region that draws its order: what only reads first, then a choice between two operations. -/
namespace Go.Proofs.YteanndophopplaaDoor
open Go Go.RowKit
set_option linter.unusedVariables false
section
variable {P : Program} {ops : Array Oper} {Q : Exit → Act → World → Prop} {md : Region.Mode} {S : World → Prop} {L : Nat}
/-- one operation, then what is left -/
def stepX (P : Program) (md : Region.Mode) (ops : Array Oper) (Q : Exit → Act → World → Prop) (S : World → Prop) (L f : Nat) (listed : Array Bool) (i : Nat) (o : Oper) (a : Act) (w : World) : Prop :=
  ∀ K : Act → World → Prop, Hid (∀ a' w', (i ≠ L → S w') → wpAnyX P md ops Q S L f (listed.setIfInBounds i true) a' w' → K a' w') → if Region.wanted o (yielded ops a.tmps) = true then Oper.wp P o a w K Q else K (a.put o.dst undef) w
theorem stepX_op {f i : Nat} {o : Oper} {listed : Array Bool} {a : Act} {w : World} (h0 : ops[i]? = some o) (h : stepX P md ops Q S L f listed i o a w) :
    wpOp P ops Q i (fun a' w' => (i ≠ L → S w') ∧ wpAnyX P md ops Q S L f (listed.setIfInBounds i true) a' w') a w := by
  have h1 := h (fun a' w' => (i ≠ L → S w') ∧ wpAnyX P md ops Q S L f (listed.setIfInBounds i true) a' w') (fun a' w' h1 h2 => ⟨h1, h2⟩)
  unfold wpOp
  simp only [h0]
  split
  · rename_i hw; rw [if_pos hw] at h1; exact .inl h1
  · rename_i hw; rw [if_neg hw] at h1; exact h1
theorem wpAnyX_alt {f i j : Nat} {o o' : Oper} {listed : Array Bool} {a : Act} {w : World} (hr : Region.ready md ops listed = [i, j]) (hi : ops[i]? = some o) (hj : ops[j]? = some o')
    (h1 : stepX P md ops Q S L f listed i o a w) (h2 : stepX P md ops Q S L f listed j o' a w) : wpAnyX P md ops Q S L (f + 1) listed a w := by
  refine ⟨fun h => absurd (hr.symm.trans h) (by simp), fun k hk => ?_⟩
  rw [hr] at hk
  rcases List.mem_cons.1 hk with rfl | hk
  · exact stepX_op hi h1
  · obtain rfl : k = j := by simpa using hk
    exact stepX_op hj h2
theorem wp_region_lexT {id : Nat} {a : Act} {w : World} (ks : List Nat) (g L : Nat) (S : World → Prop) (hm : P.follows .mixedOrders = true) (hsel : Region.noSelect ops = true) (hn : ks.length + g = ops.size) (hB : lexK .any ops L ks (Array.replicate ops.size false) = true)
    (hS : S w.drew)
    (h : wpLex P ops Q S (fun a' => wpAnyX P .any ops Q S L g (marksK ks (Array.replicate ops.size false)) a' w.drew) (opsAt ops ks) a) : (Code.region id ops true).wp P Q a w := by
  have H := wpAnyX_lexK (md := .any) (L := L) (Q := Q) (g := g) (P := P) (w := w.drew) hsel hS ks (Array.replicate ops.size false) a hB h
  rw [hn] at H
  exact wp_region_any hm (by simpa using wpAny_of_X _ _ _ _ H)
end
end Go.Proofs.YteanndophopplaaDoor
/- HELPERS: a program that is lent: one mark behind each list. -/
namespace Go.Proofs.YteanndophopplaaDoor
open Go.RowKit
set_option linter.unusedVariables false
set_option linter.unusedSimpArgs false
abbrev MK1 : List (Int × Int) := [(-77, 0)]
/-- an instruction whose ranges, with two marks behind them, lie in a block by themselves, apart from a row -/
structure LO (w : World) (base : Nat) (z : Value) (N : Iv) (I : In) : Prop where
  op : N.op = I.op
  x : N.x = I.x
  y : N.y = I.y
  a : N.a = I.a
  len : N.r2 = I.R.length
  sm : N.r2 * 16 ≤ 140737488351232
  rr : w.ownsRow base 51 2 (.slice N.r1 (I.R.length + 1) N.r3) (I.R.length + 1) (O2 (I.R ++ MK1))
  ne : ∀ b, N.rv.ownBlock = some b → z.ownBlock ≠ some b
/-- a program that is lent -/
structure PL (w : World) (base : Nat) (ad : Option Addr) (n c : Nat) (l : List In) (MS : List Iv) : Prop where
  len : n = l.length
  lms : MS.length = n
  row : w.ownsRow base 49 5 (.slice ad (n + 1) c) (n + 1) ((MS ++ [mkI (-77)]).flatMap Iv.cs)
  lo : ∀ j (hj : j < l.length), LO w base (.slice ad (n + 1) c) (MS.getD j default) l[j]
  pw : ∀ j j' b, j < n → j' < n → j ≠ j' → (MS.getD j default).rv.ownBlock = some b → (MS.getD j' default).rv.ownBlock ≠ some b
theorem RowAt.kept {w w' : World} {N : Nat} {v : Value} {L : List (Int × Int)} (h : RowAt N w v L) (hk : ∀ b, b < N → w'.heap[b]? = w.heap[b]?) : RowAt N w' v L := by
  obtain ⟨ad, cap, e, h1⟩ := h
  refine ⟨ad, cap, e, h1.imp id ?_⟩
  rintro ⟨b, off, e1, h2, h3, h4⟩
  exact ⟨b, off, e1, h2, fun k hk' => (cell_eq (hk b h2) _).trans (h3 k hk'), fun k hk' => (cell_eq (hk b h2) _).trans (h4 k hk')⟩
theorem make49 (c : Nat) (hc : c * 16 ≤ 140737488355328) (w : World) : (Instr.makeSlice 47 (.int .i64 0) (.int .i64 (c : Int))).run Tryd.prog w = .ok (.slice (some ⟨w.heap.size, 0, none⟩) 0 c) (w.alloc (.cells (madeCells (Value.agg #[.int .i64 0, .int .i64 0]).cells (c * 2)) 51)) := by
  obtain ⟨i0, hi0, hz0, hz1, hz2⟩ := info_parts info49
  have h := run_make (P := Tryd.prog) w 47 51 i0 (.agg #[.int .i64 0, .int .i64 0]) Tryd.underlying47 hi0 hz0 .i64 .i64 0 c (by omega) (by omega) (by rw [hz2]; omega) (by omega)
  simp only [Int.toNat_natCast, hz1, Int.toNat_zero] at h
  exact h
theorem made_own49 (c : Nat) (hc : c ≤ maxLen) (base : Nat) (w : World) (hb : base ≤ w.heap.size) : (w.alloc (.cells (madeCells (Value.agg #[.int .i64 0, .int .i64 0]).cells (c * 2)) 51)).ownsRow base 51 2 (.slice (some ⟨w.heap.size, 0, none⟩) 0 c) 0 [] :=
  ⟨rfl, .inr ⟨w.heap.size, c, _, rfl, hb, heap_alloc_new w _, Nat.zero_le _, hc, size_madeCells _ _, by simp⟩⟩
theorem make51 (c : Nat) (hc : c * 56 ≤ 140737488355328) (w : World) : (Instr.makeSlice 22 (.int .i64 0) (.int .i64 (c : Int))).run Tryd.prog w = .ok (.slice (some ⟨w.heap.size, 0, none⟩) 0 c) (w.alloc (.cells (madeCells Z5.cells (c * 5)) 49)) := by
  obtain ⟨i0, hi0, hz0, hz1, hz2⟩ := info_parts info51
  have h := run_make (P := Tryd.prog) w 22 49 i0 Z5 Tryd.underlying22 hi0 hz0 .i64 .i64 0 c (by omega) (by omega) (by rw [hz2]; omega) (by omega)
  simp only [Int.toNat_natCast, hz1, Int.toNat_zero] at h
  exact h
theorem made_own51 (c : Nat) (hc : c ≤ maxLen) (base : Nat) (w : World) (hb : base ≤ w.heap.size) : (w.alloc (.cells (madeCells Z5.cells (c * 5)) 49)).ownsRow base 49 5 (.slice (some ⟨w.heap.size, 0, none⟩) 0 c) 0 [] :=
  ⟨rfl, .inr ⟨w.heap.size, c, _, rfl, hb, heap_alloc_new w _, Nat.zero_le _, hc, size_madeCells _ _, by simp⟩⟩
theorem own_blk {w : World} {base e size n : Nat} {v : Value} {xs : List Value} (h : w.ownsRow base e size v n xs) (hn : 0 < n) : ∃ g c, v = .slice (some ⟨g, 0, none⟩) n c ∧ base ≤ g ∧ g < w.heap.size ∧ n ≤ c ∧ c ≤ maxLen := by
  obtain ⟨a, c', e1, h1, h2⟩ := row_shape h
  rcases h.2 with ⟨_, e⟩ | ⟨g, cap, cur, e, _⟩
  · subst e1
    have h0 := h.1
    first
      | (exfalso; omega)
      | (simp_all; omega)
  · rw [e1] at e
    simp only [Value.slice.injEq] at e
    obtain ⟨rfl, -, rfl⟩ := e
    subst e1
    have := h.lt g rfl
    exact ⟨g, c', rfl, this.1, this.2, h1, h2⟩
theorem lit_cells2 {w : World} {b t : Nat} {x y : Value} {fr : Nat × Nat} (h : w.heap[b]? = some (.cells #[x, y] t fr)) : ∀ j u, [x, y][j]? = some u → w.cell? ((⟨b, 0, none⟩ : Addr).add j) = some u := fun j u hj => by
  rw [Addr.add_mid, Nat.zero_add, Joins.cell_of_block h]
  simpa using hj
theorem lent_done {wr V1 w5 : World} {p r2 g1 c3 : Nat} {op xx yy aa : Int} {r1 : Option Addr} {r2' r3 : Nat} {Z : List Value} (hV : Below wr.heap.size wr V1) (hQ : V1.heap[p]? = some (.cells #[.int .i64 op, .int .i64 xx, .int .i64 yy, .int .i64 aa, .slice r1 r2' r3] 49 (0, 0))) (hp : p = wr.heap.size) (hpl : p < V1.heap.size)
    (ho5 : w5.ownsRow V1.heap.size 51 2 (.slice (some ⟨g1, 0, none⟩) (r2 + 1) c3) (r2 + 1) Z) (hb5 : Below V1.heap.size V1 w5) :
    w5.heap[p]? = some (.cells #[.int .i64 op, .int .i64 xx, .int .i64 yy, .int .i64 aa, .slice r1 r2' r3] 49 (0, 0)) ∧ w5.frozen? ⟨p, 4, none⟩ = false ∧ w5.cell? ⟨p, 4, none⟩ = some (.slice r1 r2' r3) ∧
    ((w5.setCell ⟨p, 4, none⟩ (.slice (some ⟨g1, 0, none⟩) r2 c3)).heap[p]? = some (.cells #[.int .i64 op, .int .i64 xx, .int .i64 yy, .int .i64 aa, .slice (some ⟨g1, 0, none⟩) r2 c3] 49 (0, 0)) ∧
     (w5.setCell ⟨p, 4, none⟩ (.slice (some ⟨g1, 0, none⟩) r2 c3)).ownsRow V1.heap.size 51 2 (.slice (some ⟨g1, 0, none⟩) (r2 + 1) c3) (r2 + 1) Z ∧
     Below wr.heap.size wr (w5.setCell ⟨p, 4, none⟩ (.slice (some ⟨g1, 0, none⟩) r2 c3)) ∧ V1.heap.size ≤ (w5.setCell ⟨p, 4, none⟩ (.slice (some ⟨g1, 0, none⟩) r2 c3)).heap.size) := by
  have q5 := (hb5.block p hpl).trans hQ
  have hg := ho5.lt g1 rfl
  have hs := hV.size
  refine ⟨q5, Joins.unfrozen_of_block q5 4, by simpa using Joins.cell_of_block q5 4, Joins.block_setCell (i := 4) q5 _, own_setCell ho5 (fun e => by cases e; omega), ?_, by simpa [World.setCell] using hb5.size⟩
  exact (hV.trans (Joins.below_le hb5 hs)).setCell (p := ⟨p, 4, none⟩) (by simp [hp]) _
set_option maxRecDepth 100000 in
set_option maxHeartbeats 16000000 in
theorem lent10 {w : World} {ad : Option Addr} {n c : Nat} {l : List In} {s k : Int} (h : PI w w.heap.size ad n l) (hn : n * 56 ≤ 140737488351232) :
    Calls Tryd.prog 10 #[pv ad n c s k] w fun e w' => ∃ ad' c' MS, e = .returned (pv ad' n c' s k) ∧ PL w' w.heap.size ad' n c' l MS ∧ Below w.heap.size w w' := by
  have HL := hid h.len
  obtain ⟨i5, hi5, hz50, hz51, hz52⟩ := info_parts info49
  obtain ⟨i2, hi2, hz20, hz21, hz22⟩ := info_parts info51
  go_enter Tryd.func10, Tryd.ntmps10
  go_upto_region 1 with fail
  obtain ⟨W, hW⟩ : ∃ W, W = (w.alloc (.cells #[.slice ad n c, .int .i64 s, .int .i64 k] 24)).alloc (.cells #[.slice none 0 0, .int .i64 0, .int .i64 0] 24) := ⟨_, rfl⟩
  rw [← hW]
  have hX : W.heap[w.heap.size]? = some (.cells #[.slice ad n c, .int .i64 s, .int .i64 k] 24 (0, 0)) := by rw [hW]; exact (heap_alloc_old _ _ (by simp)).trans (heap_alloc_new w _)
  have hY : W.heap[w.heap.size + 1]? = some (.cells #[.slice none 0 0, .int .i64 0, .int .i64 0] 24 (0, 0)) := by rw [hW]; exact two_new w _ _ _
  have hb : Below w.heap.size w W := by rw [hW]; exact below_two' w _ _
  have HP := hid (h.kept hb hb.size)
  have l1 : w.heap.size < W.heap.size := (Array.getElem?_eq_some_iff.1 hX).1
  have l2 : w.heap.size + 1 < W.heap.size := (Array.getElem?_eq_some_iff.1 hY).1
  obtain ⟨y, hy⟩ : ∃ y, y = w.heap.size + 1 := ⟨_, rfl⟩
  rw [← hy] at hY l2 ⊢
  obtain ⟨x, hx⟩ : ∃ x, x = w.heap.size := ⟨_, rfl⟩
  rw [← hx] at hX hb l1 ⊢
  have hxy : x < y := by omega
  have HX := hid hX
  have HY := hid hY
  have HB := hid hb
  have HXE := hid hx
  obtain ⟨p0, p1, p2⟩ := three_cells hX
  clear hX hY hb hW hx hy h
  have hmk := make51 (n + 1) (by omega) W
  rw [show ((n + 1 : Nat) : Int) = (n : Int) + 1 by push_cast; rfl] at hmk
  have ad3 : IntKind.i64.wrap ((n : Int) + 1) = (n : Int) + 1 := by simp [IntKind.wrap, IntKind.bits, IntKind.signed]; omega
  have hown0 := made_own51 (n + 1) (by unfold maxLen; omega) W.heap.size W (Nat.le_refl _)
  have hbV0 := Joins.below_alloc1 W (.cells (madeCells Z5.cells ((n + 1) * 5)) 49)
  obtain ⟨V0, hV0⟩ : ∃ V, V = W.alloc (.cells (madeCells Z5.cells ((n + 1) * 5)) 49) := ⟨_, rfl⟩
  rw [← hV0] at hmk hown0 hbV0
  have HOWN0 := hid hown0
  have HBV0 := hid hbV0
  clear hV0 hown0 hbV0
  go_wp2_with fail
  clear p0 p1 p2 hmk ad3
  go_loopw [3, 4] (fun u y wq => ∃ (i : Nat) (z1 : Option Addr) (z3 : Nat), u = .slice z1 i z3 ∧ y = .int .i64 (i : Int) ∧ i ≤ n ∧ Hid (∃ MS : List Iv, MS.length = i ∧ wq.ownsRow W.heap.size 49 5 (.slice z1 i z3) i (MS.flatMap Iv.cs) ∧ (∀ j (hj : j < l.length), j < i → LO wq W.heap.size (.slice z1 i z3) (MS.getD j default) l[j]) ∧ (∀ j j' b, j < i → j' < i → j ≠ j' → (MS.getD j default).rv.ownBlock = some b → (MS.getD j' default).rv.ownBlock ≠ some b)) ∧ Hid (Below W.heap.size W wq)) (fun _ y _ => n - (intOf y).toNat)
  case atStart => exact ⟨0, _, _, rfl, rfl, by omega, ⟨[], rfl, HOWN0.out, fun j hj h0 => by omega, fun j j' b h0 => by omega⟩, HBV0.out⟩
  case round =>
    obtain ⟨i, z1, z3, rfl, rfl, hi, HST, BK⟩ := hrel
    have hWw : W.heap.size ≤ wr.heap.size := BK.out.size
    have l1w : x < wr.heap.size := by omega
    obtain ⟨p0, p1, p2⟩ := three_cells ((BK.out.block x l1).trans HX.out)
    by_cases hil : i < n
    · have b1 : decide ((i : Int) < (n : Int)) = true := by simp; omega
      have b2 : (i : Int) < (n : Int) := by omega
      have ad1 : IntKind.i64.wrap ((i : Int) + 1) = (i : Int) + 1 := by simp [IntKind.wrap, IntKind.bits, IntKind.signed]; omega
      have hlt : i < l.length := by have := HL.out; omega
      obtain ⟨g, o, ND, e, hg, hcs⟩ := HP.out.mem (by omega)
      subst e
      have lg : g < wr.heap.size := by omega
      obtain ⟨m0, m1, m2, m3, m4⟩ := (hcs i hlt).1.kept (BK.out.block g hg)
      have hI := (hcs i hlt).2.kept BK.out BK.out.size
      obtain ⟨M, hM⟩ : ∃ M, M = ND i := ⟨_, rfl⟩
      rw [← hM] at m0 m1 m2 m3 m4 hI
      clear hM hcs
      obtain ⟨op, xx, yy, aa, r1, r2, r3⟩ := M
      dsimp only at m0 m1 m2 m3 m4
      have hsm : r2 * 16 ≤ 140737488351232 := hI.sm
      have hlen : r2 = l[i].R.length := hI.len
      have HI := hid hI
      have HLEN := hid hlen
      clear hI hlen
      go_upto_region 6 with fail
      obtain ⟨V1, hV1⟩ : ∃ V, V = wr.alloc (.cells #[.int .i64 op, .int .i64 xx, .int .i64 yy, .int .i64 aa, .slice r1 r2 r3] 49) := ⟨_, rfl⟩
      rw [← hV1]
      have HBV1 : Hid (Below wr.heap.size wr V1) := by rw [hV1]; exact Joins.below_alloc1 wr _
      have hQ1 : V1.heap[wr.heap.size]? = some (.cells #[.int .i64 op, .int .i64 xx, .int .i64 yy, .int .i64 aa, .slice r1 r2 r3] 49 (0, 0)) := by rw [hV1]; exact heap_alloc_new wr _
      have hpl : wr.heap.size < V1.heap.size := (Array.getElem?_eq_some_iff.1 hQ1).1
      obtain ⟨p, hp⟩ : ∃ p, p = wr.heap.size := ⟨_, rfl⟩
      rw [← hp] at hQ1 hpl ⊢
      have HQ1 := hid hQ1
      have HPE := hid hp
      have HIV := hid (HI.out.kept HBV1.out HBV1.out.size)
      have HSRC : Hid (∀ V : World, (∀ b, b < V1.heap.size → V.heap[b]? = V1.heap[b]?) → 0 < r2 → ∃ b f, r1 = some ⟨b, f, none⟩ ∧ ∀ j u, (O2 l[i].R)[j]? = some u → V.cell? ⟨b, f + j, none⟩ = some u) := fun V hV hp => (HIV.out.row.kept hV).src hp HLEN.out
      have HO2 : Hid ((O2 l[i].R).length = r2 * 2) := (O2_len _).trans (by rw [HLEN.out])
      have hmk := fun W => make49 (r2 + 1) (by omega) W
      rw [show ((r2 + 1 : Nat) : Int) = (r2 : Int) + 1 by push_cast; rfl] at hmk
      have hmo := fun base W hb => made_own49 (r2 + 1) (by unfold maxLen; omega) base W hb
      have ad2 : IntKind.i64.wrap ((r2 : Int) + 1) = (r2 : Int) + 1 := by simp [IntKind.wrap, IntKind.bits, IntKind.signed]; omega
      have HMO := hid hmo
      clear hmo
      generalize hmc : madeCells (Value.agg #[.int .i64 0, .int .i64 0]).cells ((r2 + 1) * 2) = mc at *
      clear hmc hV1 hQ1 hp p0 p1 p2 m0 m1 m2 m3 m4 HI
      go_cut [] from 11 to 42 (fun wx => ∃ g1 c3, r2 + 1 ≤ c3 ∧ Hid (wx.heap[p]? = some (.cells #[.int .i64 op, .int .i64 xx, .int .i64 yy, .int .i64 aa, .slice (some ⟨g1, 0, none⟩) r2 c3] 49 (0, 0))) ∧ Hid (wx.ownsRow V1.heap.size 51 2 (.slice (some ⟨g1, 0, none⟩) (r2 + 1) c3) (r2 + 1) (O2 (l[i].R ++ MK1))) ∧ Hid (Below wr.heap.size wr wx) ∧ Hid (V1.heap.size ≤ wx.heap.size))
      case first =>
        obtain ⟨d0, d1, d2, d3, d4⟩ := five HQ1.out
        have HA : Hid ((V1.drew.alloc (.cells mc 51)).ownsRow V1.heap.size 51 2 (.slice (some ⟨V1.heap.size, 0, none⟩) 0 (r2 + 1)) 0 []) := HMO.out V1.heap.size V1.drew (Nat.le_refl _)
        have HBo : Hid (((V1.drew.alloc (.cells #[.int .i64 (-77), .int .i64 0] 51)).alloc (.cells mc 51)).ownsRow V1.heap.size 51 2 (.slice (some ⟨V1.heap.size + 1, 0, none⟩) 0 (r2 + 1)) 0 []) := by
          have := HMO.out V1.heap.size (V1.drew.alloc (.cells #[.int .i64 (-77), .int .i64 0] 51)) (by simp)
          have e : (V1.drew.alloc (.cells #[.int .i64 (-77), .int .i64 0] 51)).heap.size = V1.heap.size + 1 := by simp
          rw [e] at this
          exact this
        have HCo : Hid (((V1.drew.alloc (.cells mc 51)).alloc (.cells #[.int .i64 (-77), .int .i64 0] 51)).ownsRow V1.heap.size 51 2 (.slice (some ⟨V1.heap.size, 0, none⟩) 0 (r2 + 1)) 0 []) := HA.out.alloc _
        have HS1 := hid (HSRC.out (V1.drew.alloc (.cells mc 51)) (fun b hb => heap_alloc_old _ _ (by (try simp) <;> omega)))
        have HS2 := hid (HSRC.out ((V1.drew.alloc (.cells #[.int .i64 (-77), .int .i64 0] 51)).alloc (.cells mc 51)) (fun b hb => (heap_alloc_old _ _ (by (try simp) <;> omega)).trans (heap_alloc_old _ _ (by (try simp) <;> omega))))
        have HS3 := hid (HSRC.out ((V1.drew.alloc (.cells mc 51)).alloc (.cells #[.int .i64 (-77), .int .i64 0] 51)) (fun b hb => (heap_alloc_old _ _ (by (try simp) <;> omega)).trans (heap_alloc_old _ _ (by (try simp) <;> omega))))
        have HLB : Hid (((V1.drew.alloc (.cells #[.int .i64 (-77), .int .i64 0] 51)).alloc (.cells mc 51)).heap[V1.heap.size]? = some (.cells #[.int .i64 (-77), .int .i64 0] 51 (0, 0))) := (heap_alloc_old _ _ (by simp)).trans (heap_alloc_new V1.drew _)
        have HLC : Hid (((V1.drew.alloc (.cells mc 51)).alloc (.cells #[.int .i64 (-77), .int .i64 0] 51)).heap[V1.heap.size + 1]? = some (.cells #[.int .i64 (-77), .int .i64 0] 51 (0, 0))) := two_new V1.drew _ _ _
        have dd : ∀ V : World, V.heap[p]? = V1.heap[p]? → V.cell? ⟨p, 4, none⟩ = some (.slice r1 r2 r3) := fun V h => (cell_eq h 4).trans d4
        have HDD := hid dd
        clear dd d0 d1 d2 d3
        go_upto_region 6 with fail
        refine wp_region_lexT [0, 1, 2, 3, 5, 6, 8, 11, 12, 13] 7 16 (fun V => V.cell? ⟨p, 4, none⟩ = some (.slice r1 r2 r3)) (by kernel_rfl) (by kernel_rfl) rfl (by kernel_rfl) (by exact d4) ?_
        simp only [opsAt, List.getElem?_toArray, List.getElem?_cons_zero, List.getElem?_cons_succ]
        clear d4
        iterate 10
          refine lex_cons ?_ rfl (fun V hV => ?_) (fun _ _ _ h => h) ?_
          rotate_left
          · go_simp <;> with_reducible rfl
          simp only [Act.put, List.setIfInBounds_toArray, List.set_cons_zero, List.set_cons_succ]
        refine lex_nil (wpAnyX_alt (i := 4) (j := 9) (by kernel_rfl) rfl rfl (fun K1 hK1 => ?_) (fun K1 hK1 => ?_))
        · go_simp
          refine hK1.out _ _ (fun _ => HDD.out _ (heap_alloc_old V1.drew _ hpl)) ?_
          refine wpAnyX_alt (i := 7) (j := 9) (by kernel_rfl) rfl rfl (fun K2 hK2 => ?_) (fun K2 hK2 => ?_)
          · refine step_append_any rfl (.tmp 27) (.tmp 29) 47 rfl V1.heap.size 51 i5 (.agg #[.int .i64 0, .int .i64 0]) 2 16 Tryd.underlying47 hi5 hz50 hz51 hz52 rfl (by decide) ⟨V1.heap.size, 0, none⟩ 0 (r2 + 1) [] (by simp [Act.eval, Act.put]) (by exact HA.out) r1 r2 r3 (O2 l[i].R) (by simp [Act.eval, Act.put]) HO2.out (by exact HS1.out) (O2_one _) (by unfold maxLen; omega) (by omega) (by (try simp) <;> omega) ?_
            intro v3 w3 ho3 hf3; obtain ⟨p1, p3, e3, _⟩ := row_shape ho3; rw [Nat.zero_add] at e3; subst e3; have hz3 : V1.heap.size + 1 ≤ w3.heap.size := (by have := hf3.size; simp at this; omega)
            have hb3 : Below V1.heap.size V1 w3 := ⟨hf3.os, hf3.tape, hf3.output, by omega, fun b hb => (hf3.block b (by (try simp) <;> omega) (fun h => by simp [Value.ownBlock] at h; omega)).trans (by first | exact heap_alloc_old _ _ (by (try simp) <;> omega) | exact (heap_alloc_old _ _ (by (try simp) <;> omega)).trans (heap_alloc_old _ _ (by (try simp) <;> omega)))⟩
            refine hK2.out _ _ (fun _ => HDD.out _ (hb3.block p hpl)) (wpAnyX_of_tailK [9, 10, 14, 15, 16] _ _ _ (by kernel_rfl) ?_)
            simp only [opsNo, List.getElem?_toArray, List.getElem?_cons_zero, List.getElem?_cons_succ]
            refine tailK_cons fun K3 hK3 => ?_
            go_simp
            refine hK3.out _ _ (fun _ => HDD.out _ ((heap_alloc_old w3 _ (by omega)).trans (hb3.block p hpl))) (tailK_cons fun K4 hK4 => ?_)
            refine step_append_moveN rfl (.tmp 30) (.tmp 32) 47 rfl V1.heap.size 51 i5 (.agg #[.int .i64 0, .int .i64 0]) 2 16 Tryd.underlying47 hi5 hz50 hz51 hz52 rfl (by decide) (.slice p1 r2 p3) r2 (O2 l[i].R) (by simp [Act.eval, Act.put]) (by have t := ho3.alloc (.cells #[.int .i64 (-77), .int .i64 0] 51); rw [Nat.zero_add] at t; exact t) ⟨w3.heap.size, 0, none⟩ 1 1 [.int .i64 (-77), .int .i64 0] (by simp [Act.eval, Act.put]) rfl (by decide) (by exact lit_cells2 (heap_alloc_new w3 _)) (by simp [Value.oneCell']) (by unfold maxLen; omega) (by omega) (by (try simp) <;> omega) ?_
            intro v5 w5 ho5 hm5
            have hb5 : Below V1.heap.size V1 w5 := ⟨hm5.frm.os.trans hb3.os, hm5.frm.tape.trans hb3.tape, hm5.frm.output.trans hb3.output, by have := hm5.frm.size; (try simp at this); omega, fun b hb => (hm5.frm.block b (by (try simp) <;> omega) (fun h => by have := (ho3.lt b h).1; omega)).trans (by first | exact (heap_alloc_old _ _ (by omega)).trans (hb3.block b hb) | exact hb3.block b hb)⟩
            obtain ⟨g1, c3, rfl, hg1, hg2, hc3, hc4⟩ := own_blk ho5 (by omega)
            have u1 : (0 : Int) ≤ (r2 : Int) := by omega
            have u2 : (r2 : Int) ≤ (c3 : Int) := by omega
            have u3 : ¬ c3 < r2 := by omega
            obtain ⟨q5, f4, k4, hend⟩ := lent_done HBV1.out HQ1.out HPE.out hpl ho5 hb5
            refine hK4.out _ _ (fun _ => k4) (tailK_cons fun K5 hK5 => ?_)
            simp only [Act.put, List.setIfInBounds_toArray, List.set_cons_zero, List.set_cons_succ]
            go_simp
            refine hK5.out _ _ (fun _ => k4) (tailK_cons fun K7 hK7 => ?_)
            go_simp
            refine hK7.out _ _ (fun _ => k4) (tailK_cons fun K6 hK6 => ?_)
            go_simp
            refine hK6.out _ _ (fun h => absurd rfl h) (tailK_nil ?_)
            go_wp2_with fail
            go_meet
            exact ⟨g1, c3, hc3, hend.1, by show World.ownsRow _ _ _ _ _ _ _; rw [show O2 (l[i].R ++ MK1) = O2 l[i].R ++ [.int .i64 (-77), .int .i64 0] by simp [O2, MK1]]; exact hend.2.1, hend.2.2.1, hend.2.2.2⟩
          · go_simp
            refine hK2.out _ _ (fun _ => HDD.out _ ((heap_alloc_old _ _ (by simp; omega)).trans (heap_alloc_old V1.drew _ hpl))) (wpAnyX_of_tailK [7, 10, 14, 15, 16] _ _ _ (by kernel_rfl) ?_)
            simp only [opsNo, List.getElem?_toArray, List.getElem?_cons_zero, List.getElem?_cons_succ]
            refine tailK_cons fun K3 hK3 => ?_
            refine step_append_any rfl (.tmp 27) (.tmp 29) 47 rfl V1.heap.size 51 i5 (.agg #[.int .i64 0, .int .i64 0]) 2 16 Tryd.underlying47 hi5 hz50 hz51 hz52 rfl (by decide) ⟨V1.heap.size, 0, none⟩ 0 (r2 + 1) [] (by simp [Act.eval, Act.put]) (by exact HCo.out) r1 r2 r3 (O2 l[i].R) (by simp [Act.eval, Act.put]) HO2.out (by exact HS3.out) (O2_one _) (by unfold maxLen; omega) (by omega) (by (try simp) <;> omega) ?_
            intro v3 w3 ho3 hf3; obtain ⟨p1, p3, e3, _⟩ := row_shape ho3; rw [Nat.zero_add] at e3; subst e3; have hz3 : V1.heap.size + 1 ≤ w3.heap.size := (by have := hf3.size; simp at this; omega)
            have hb3 : Below V1.heap.size V1 w3 := ⟨hf3.os, hf3.tape, hf3.output, by omega, fun b hb => (hf3.block b (by (try simp) <;> omega) (fun h => by simp [Value.ownBlock] at h; omega)).trans (by first | exact heap_alloc_old _ _ (by (try simp) <;> omega) | exact (heap_alloc_old _ _ (by (try simp) <;> omega)).trans (heap_alloc_old _ _ (by (try simp) <;> omega)))⟩
            have HL3 : Hid (w3.heap[V1.heap.size + 1]? = some (.cells #[.int .i64 (-77), .int .i64 0] 51 (0, 0))) := (hf3.block _ (by simp) (fun h => by simp [Value.ownBlock] at h)).trans HLC.out
            refine hK3.out _ _ (fun _ => HDD.out _ (hb3.block p hpl)) (tailK_cons fun K4 hK4 => ?_)
            refine step_append_moveN rfl (.tmp 30) (.tmp 32) 47 rfl V1.heap.size 51 i5 (.agg #[.int .i64 0, .int .i64 0]) 2 16 Tryd.underlying47 hi5 hz50 hz51 hz52 rfl (by decide) (.slice p1 r2 p3) r2 (O2 l[i].R) (by simp [Act.eval, Act.put]) (by have t := ho3; rw [Nat.zero_add] at t; exact t) ⟨V1.heap.size + 1, 0, none⟩ 1 1 [.int .i64 (-77), .int .i64 0] (by simp [Act.eval, Act.put]) rfl (by decide) (by exact lit_cells2 HL3.out) (by simp [Value.oneCell']) (by unfold maxLen; omega) (by omega) (by (try simp) <;> omega) ?_
            intro v5 w5 ho5 hm5
            have hb5 : Below V1.heap.size V1 w5 := ⟨hm5.frm.os.trans hb3.os, hm5.frm.tape.trans hb3.tape, hm5.frm.output.trans hb3.output, by have := hm5.frm.size; (try simp at this); omega, fun b hb => (hm5.frm.block b (by (try simp) <;> omega) (fun h => by have := (ho3.lt b h).1; omega)).trans (by first | exact (heap_alloc_old _ _ (by omega)).trans (hb3.block b hb) | exact hb3.block b hb)⟩
            obtain ⟨g1, c3, rfl, hg1, hg2, hc3, hc4⟩ := own_blk ho5 (by omega)
            have u1 : (0 : Int) ≤ (r2 : Int) := by omega
            have u2 : (r2 : Int) ≤ (c3 : Int) := by omega
            have u3 : ¬ c3 < r2 := by omega
            obtain ⟨q5, f4, k4, hend⟩ := lent_done HBV1.out HQ1.out HPE.out hpl ho5 hb5
            refine hK4.out _ _ (fun _ => k4) (tailK_cons fun K5 hK5 => ?_)
            simp only [Act.put, List.setIfInBounds_toArray, List.set_cons_zero, List.set_cons_succ]
            go_simp
            refine hK5.out _ _ (fun _ => k4) (tailK_cons fun K7 hK7 => ?_)
            go_simp
            refine hK7.out _ _ (fun _ => k4) (tailK_cons fun K6 hK6 => ?_)
            go_simp
            refine hK6.out _ _ (fun h => absurd rfl h) (tailK_nil ?_)
            go_wp2_with fail
            go_meet
            exact ⟨g1, c3, hc3, hend.1, by show World.ownsRow _ _ _ _ _ _ _; rw [show O2 (l[i].R ++ MK1) = O2 l[i].R ++ [.int .i64 (-77), .int .i64 0] by simp [O2, MK1]]; exact hend.2.1, hend.2.2.1, hend.2.2.2⟩
        · go_simp
          refine hK1.out _ _ (fun _ => HDD.out _ (heap_alloc_old V1.drew _ hpl)) (wpAnyX_of_tailK [4, 7, 10, 14, 15, 16] _ _ _ (by kernel_rfl) ?_)
          simp only [opsNo, List.getElem?_toArray, List.getElem?_cons_zero, List.getElem?_cons_succ]
          refine tailK_cons fun K2 hK2 => ?_
          go_simp
          refine hK2.out _ _ (fun _ => HDD.out _ ((heap_alloc_old _ _ (by simp; omega)).trans (heap_alloc_old V1.drew _ hpl))) (tailK_cons fun K3 hK3 => ?_)
          refine step_append_any rfl (.tmp 27) (.tmp 29) 47 rfl V1.heap.size 51 i5 (.agg #[.int .i64 0, .int .i64 0]) 2 16 Tryd.underlying47 hi5 hz50 hz51 hz52 rfl (by decide) ⟨V1.heap.size + 1, 0, none⟩ 0 (r2 + 1) [] (by simp [Act.eval, Act.put]) (by exact HBo.out) r1 r2 r3 (O2 l[i].R) (by simp [Act.eval, Act.put]) HO2.out (by exact HS2.out) (O2_one _) (by unfold maxLen; omega) (by omega) (by (try simp) <;> omega) ?_
          intro v3 w3 ho3 hf3; obtain ⟨p1, p3, e3, _⟩ := row_shape ho3; rw [Nat.zero_add] at e3; subst e3; have hz3 : V1.heap.size + 1 ≤ w3.heap.size := (by have := hf3.size; simp at this; omega)
          have hb3 : Below V1.heap.size V1 w3 := ⟨hf3.os, hf3.tape, hf3.output, by omega, fun b hb => (hf3.block b (by (try simp) <;> omega) (fun h => by simp [Value.ownBlock] at h; omega)).trans (by first | exact heap_alloc_old _ _ (by (try simp) <;> omega) | exact (heap_alloc_old _ _ (by (try simp) <;> omega)).trans (heap_alloc_old _ _ (by (try simp) <;> omega)))⟩
          have HL3 : Hid (w3.heap[V1.heap.size]? = some (.cells #[.int .i64 (-77), .int .i64 0] 51 (0, 0))) := (hf3.block _ (by simp; omega) (fun h => by simp [Value.ownBlock] at h)).trans HLB.out
          refine hK3.out _ _ (fun _ => HDD.out _ (hb3.block p hpl)) (tailK_cons fun K4 hK4 => ?_)
          refine step_append_moveN rfl (.tmp 30) (.tmp 32) 47 rfl V1.heap.size 51 i5 (.agg #[.int .i64 0, .int .i64 0]) 2 16 Tryd.underlying47 hi5 hz50 hz51 hz52 rfl (by decide) (.slice p1 r2 p3) r2 (O2 l[i].R) (by simp [Act.eval, Act.put]) (by have t := ho3; rw [Nat.zero_add] at t; exact t) ⟨V1.heap.size, 0, none⟩ 1 1 [.int .i64 (-77), .int .i64 0] (by simp [Act.eval, Act.put]) rfl (by decide) (by exact lit_cells2 HL3.out) (by simp [Value.oneCell']) (by unfold maxLen; omega) (by omega) (by (try simp) <;> omega) ?_
          intro v5 w5 ho5 hm5
          have hb5 : Below V1.heap.size V1 w5 := ⟨hm5.frm.os.trans hb3.os, hm5.frm.tape.trans hb3.tape, hm5.frm.output.trans hb3.output, by have := hm5.frm.size; (try simp at this); omega, fun b hb => (hm5.frm.block b (by (try simp) <;> omega) (fun h => by have := (ho3.lt b h).1; omega)).trans (by first | exact (heap_alloc_old _ _ (by omega)).trans (hb3.block b hb) | exact hb3.block b hb)⟩
          obtain ⟨g1, c3, rfl, hg1, hg2, hc3, hc4⟩ := own_blk ho5 (by omega)
          have u1 : (0 : Int) ≤ (r2 : Int) := by omega
          have u2 : (r2 : Int) ≤ (c3 : Int) := by omega
          have u3 : ¬ c3 < r2 := by omega
          obtain ⟨q5, f4, k4, hend⟩ := lent_done HBV1.out HQ1.out HPE.out hpl ho5 hb5
          refine hK4.out _ _ (fun _ => k4) (tailK_cons fun K5 hK5 => ?_)
          simp only [Act.put, List.setIfInBounds_toArray, List.set_cons_zero, List.set_cons_succ]
          go_simp
          refine hK5.out _ _ (fun _ => k4) (tailK_cons fun K7 hK7 => ?_)
          go_simp
          refine hK7.out _ _ (fun _ => k4) (tailK_cons fun K6 hK6 => ?_)
          go_simp
          refine hK6.out _ _ (fun h => absurd rfl h) (tailK_nil ?_)
          go_wp2_with fail
          go_meet
          exact ⟨g1, c3, hc3, hend.1, by show World.ownsRow _ _ _ _ _ _ _; rw [show O2 (l[i].R ++ MK1) = O2 l[i].R ++ [.int .i64 (-77), .int .i64 0] by simp [O2, MK1]]; exact hend.2.1, hend.2.2.1, hend.2.2.2⟩
      case rest =>
        obtain ⟨g1, c3, hc31, HQ5, HR5, HBW5, HZ5⟩ := hcut
        obtain ⟨V5, rfl⟩ : ∃ V5, V5 = wc := ⟨_, rfl⟩
        clear hmk ad2
        have hQ5 := HQ5.out
        have hgl : V1.heap.size ≤ g1 ∧ g1 < V5.heap.size := HR5.out.lt g1 rfl
        have HK5 : Hid (∀ b, b < wr.heap.size → V5.heap[b]? = wr.heap[b]?) := fun b hb => HBW5.out.block b hb
        have HB5 : Hid (Below W.heap.size W V5) := BK.out.trans (Joins.below_le HBW5.out BK.out.size)
        have hz5 := HZ5.out
        obtain ⟨e0, e1, e2, e3, e4⟩ := five hQ5
        obtain ⟨MS, hS0, hS1, hS2, hS3⟩ := HST.out
        have HO6 : Hid ((V5.alloc (.cells #[.int .i64 op, .int .i64 xx, .int .i64 yy, .int .i64 aa, .slice (some ⟨g1, 0, none⟩) r2 c3] 49)).ownsRow W.heap.size 49 5 (.slice z1 i z3) i (MS.flatMap Iv.cs)) := (row_kept hS1 (fun b hb => HK5.out b (hS1.lt b hb).2)).alloc _
        have HL6 : Hid ((V5.alloc (.cells #[.int .i64 op, .int .i64 xx, .int .i64 yy, .int .i64 aa, .slice (some ⟨g1, 0, none⟩) r2 c3] 49)).ownsRow 0 49 5 (.slice (some ⟨V5.heap.size, 0, none⟩) 1 1) 1 (Iv.cs ⟨op, xx, yy, aa, some ⟨g1, 0, none⟩, r2, c3⟩)) := World.ownsRow_lit (base := 0) (e := 49) (size := 5) V5 #[.int .i64 op, .int .i64 xx, .int .i64 yy, .int .i64 aa, .slice (some ⟨g1, 0, none⟩) r2 c3] 1 (Nat.zero_le _) (by unfold maxLen; omega) rfl
        have HS0 := hid hS0
        have HS1 := hid hS1
        have HS2 := hid hS2
        have HS3 := hid hS3
        have hpw : p = wr.heap.size := HPE.out
        have HPW : Hid (wr.heap.size < V5.heap.size) := by show _ < _; omega
        have hz45 : V1.heap.size ≤ V5.heap.size := by omega
        have hg5 : V1.heap.size ≤ g1 ∧ g1 < V5.heap.size := by omega
        have hp1 : wr.heap.size < V1.heap.size := by omega
        clear hQ5 HST hS0 hS1 hS2 hS3 hpw hgl
        go_wp2_with (first | (at_builtin; refine wpList_append_row rfl (.tmp 39) (.tmp 41) 22 rfl W.heap.size 49 i2 Z5 5 56 Tryd.underlying22 hi2 hz20 hz21 hz22 rfl (by decide) (.slice z1 i z3) i (MS.flatMap Iv.cs) rfl HO6.out (.slice (some ⟨V5.heap.size, 0, none⟩) 1 1) 1 0 (Iv.cs ⟨op, xx, yy, aa, some ⟨g1, 0, none⟩, r2, c3⟩) rfl HL6.out (by intro h; omega) (one5 _) (by unfold maxLen; omega) (by omega) (by have := HPW.out; (try simp) <;> omega) ?_; intro v7 w7 ho7 hf7 hn7; obtain ⟨y1, y3, rfl, hy3⟩ := row_shape ho7.out; have HY3 := hid hy3; clear hy3 hn7))
        have hW7 : V5.heap.size + 1 ≤ w7.heap.size := by have := hf7.out.size; simpa using this
        have hz1 : ∀ b, (Value.slice z1 i z3).ownBlock = some b → b < wr.heap.size := fun b hb => (HS1.out.lt b hb).2
        have hkeep : ∀ b, b < V5.heap.size → (Value.slice z1 i z3).ownBlock ≠ some b → w7.heap[b]? = V5.heap[b]? := fun b hb hne => (hf7.out.block b (by simp; omega) hne).trans (heap_alloc_old _ _ hb)
        have hy1 : ∀ b, (Value.slice y1 (i + 1) y3).ownBlock = some b → (Value.slice z1 i z3).ownBlock = some b ∨ V5.heap.size ≤ b := fun b hb => (hf7.out.own b hb).imp id (fun h => by simp at h; omega)
        have hrvl : ∀ j (hj : j < l.length), j < i → ∀ b, (MS.getD j default).rv.ownBlock = some b → b < wr.heap.size := fun j hj hji b hb => ((HS2.out j hj hji).rr.lt b ((ob_len _ _ _ _ _).trans hb)).2
        refine ⟨⟨i + 1, y1, y3, rfl, by push_cast; rfl, by omega, ⟨MS ++ [⟨op, xx, yy, aa, some ⟨g1, 0, none⟩, r2, c3⟩], by simp [HS0.out], ?_, fun j hj hji => ?_, fun j j' b hj hj' hne h1 h2 => ?_⟩, ?_⟩, by simp [intOf]; omega⟩
        · rw [List.flatMap_append]
          simpa using ho7.out
        · rw [snoc_getD MS _ j i HS0.out hji]
          by_cases e : j = i
          · subst e
            rw [if_pos rfl]
            have hcz : (Value.slice z1 j z3).ownBlock ≠ some g1 := fun h => by have := hz1 g1 h; omega
            refine ⟨HIV.out.op, HIV.out.x, HIV.out.y, HIV.out.a, HLEN.out, hsm, ?_, fun b hb h => ?_⟩
            · have := row_kept (HR5.out) (w' := w7) (fun b hb => by cases hb; exact hkeep g1 hg5.2 hcz)
              have h2 := this.mono (base' := W.heap.size) (by omega)
              rw [← HLEN.out]
              exact h2
            · cases hb
              rcases hy1 g1 h with h1 | h1
              · exact hcz h1
              · omega
          · rw [if_neg e]
            have hO := HS2.out j hj (by omega)
            refine ⟨hO.op, hO.x, hO.y, hO.a, hO.len, hO.sm, row_kept hO.rr (fun b hb => (hkeep b (by have := (hO.rr.lt b hb).2; have := HPW.out; omega) (hO.ne b ((ob_len _ _ _ _ _).trans hb))).trans (HK5.out b (hO.rr.lt b hb).2)), fun b hb h => ?_⟩
            rcases hy1 b h with h1 | h1
            · exact hO.ne b hb h1
            · have := hrvl j hj (by omega) b hb; have := HPW.out; omega
        · rw [snoc_getD MS _ j i HS0.out hj] at h1
          rw [snoc_getD MS _ j' i HS0.out hj'] at h2
          have hL := HL.out
          by_cases e : j = i
          · by_cases e' : j' = i
            · omega
            · rw [if_pos e] at h1
              rw [if_neg e'] at h2
              cases h1
              have := hrvl j' (by omega) (by omega) g1 h2
              omega
          · rw [if_neg e] at h1
            by_cases e' : j' = i
            · rw [if_pos e'] at h2
              cases h2
              have := hrvl j (by omega) (by omega) g1 h1
              omega
            · rw [if_neg e'] at h2
              exact HS3.out j j' b (by omega) (by omega) hne h1 h2
        · refine ⟨hf7.out.os.trans HB5.out.os, hf7.out.tape.trans HB5.out.tape, hf7.out.output.trans HB5.out.output, by have := HB5.out.size; omega, fun b hb => (hkeep b (by have := HB5.out.size; omega) (fun h => by have := (HS1.out.lt b h).1; omega)).trans (HB5.out.block b hb)⟩
    · have b1 : decide ((i : Int) < (n : Int)) = false := by simp; omega
      obtain rfl : i = n := by omega
      obtain ⟨MS, hS0, hS1, hS2, hS3⟩ := HST.out
      have HO6 : Hid ((wr.alloc (.cells #[.int .i64 (-77), .int .i64 0, .int .i64 0, .int .i64 0, .slice none 0 0] 49)).ownsRow W.heap.size 49 5 (.slice z1 i z3) i (MS.flatMap Iv.cs)) := hS1.alloc _
      have HL6 : Hid ((wr.alloc (.cells #[.int .i64 (-77), .int .i64 0, .int .i64 0, .int .i64 0, .slice none 0 0] 49)).ownsRow 0 49 5 (.slice (some ⟨wr.heap.size, 0, none⟩) 1 1) 1 (Iv.cs (mkI (-77)))) := World.ownsRow_lit (base := 0) (e := 49) (size := 5) wr #[.int .i64 (-77), .int .i64 0, .int .i64 0, .int .i64 0, .slice none 0 0] 1 (Nat.zero_le _) (by unfold maxLen; omega) rfl
      have HS0 := hid hS0
      have HS1 := hid hS1
      have HS2 := hid hS2
      have HS3 := hid hS3
      clear hS0 hS1 hS2 hS3 HST
      go_upto_region 9 with (at_builtin; refine wpList_append_row rfl (.tmp 43) (.tmp 45) 22 rfl W.heap.size 49 i2 Z5 5 56 Tryd.underlying22 hi2 hz20 hz21 hz22 rfl (by decide) (.slice z1 i z3) i (MS.flatMap Iv.cs) rfl HO6.out (.slice (some ⟨wr.heap.size, 0, none⟩) 1 1) 1 0 (Iv.cs (mkI (-77))) rfl HL6.out (by intro h; omega) (one5 _) (by unfold maxLen; omega) (by omega) (by (try simp) <;> omega) ?_; intro v7 w7 ho7 hf7 hn7; obtain ⟨y1, y3, rfl, hy3⟩ := row_shape ho7.out; have HY3 := hid hy3; clear hy3 hn7)
      obtain ⟨gz, hgz⟩ : ∃ gz, y1 = some ⟨gz, 0, none⟩ := by
        rcases ho7.out.2 with ⟨_, e⟩ | ⟨g, cap, cur, e, _⟩
        · omega
        · simp only [Value.slice.injEq] at e; exact ⟨g, e.1⟩
      subst hgz
      have hw7 : wr.heap.size + 1 ≤ w7.heap.size := by have := hf7.out.size; simpa using this
      have hKx : ∀ b, b < W.heap.size → w7.heap[b]? = W.heap[b]? := fun b hb => (hf7.out.block b (by simp; omega) (fun h => by have := (HS1.out.lt b h).1; omega)).trans ((heap_alloc_old _ _ (by omega)).trans (BK.out.block b hb))
      have hQx := (hKx x l1).trans HX.out
      have hQy := (hKx y l2).trans HY.out
      have f0 := Joins.unfrozen_of_block hQx 0
      have g0 := Joins.unfrozen_of_block hQy 0
      have g1 := Joins.unfrozen_of_block hQy 1
      have g2 := Joins.unfrozen_of_block hQy 2
      have lx7 : x < w7.heap.size := by omega
      have ly7 : y < w7.heap.size := by omega
      clear p0 p1 p2
      obtain ⟨p0, p1, p2⟩ := three_cells hQx
      obtain ⟨s0, s1, s2⟩ := three_cells hQy
      have hyc := HY3.out
      have c54 : IntKind.i64.wrap (((i + 1 : Nat) : Int) - 1) = (i : Int) := by simp [IntKind.wrap, IntKind.bits, IntKind.signed]; omega
      have c55 : IntKind.i64.wrap ((i : Int) + 1 - 1) = (i : Int) := by simp [IntKind.wrap, IntKind.bits, IntKind.signed]; omega
      have u1 : (0 : Int) ≤ (i : Int) := by omega
      have u2 : (i : Int) ≤ (y3 : Int) := by omega
      have HQX := hid hQx
      have HQY := hid hQy
      have HKX := hid hKx
      clear hQx hQy hKx
      go_wp2_with fail
      obtain ⟨E, hE⟩ : ∃ E, E = (((w7.setCell ⟨x, 0, none⟩ (.slice (some ⟨gz, 0, none⟩) i y3)).setCell ⟨y, 0, none⟩ (.slice (some ⟨gz, 0, none⟩) i y3)).setCell ⟨y, 1, none⟩ (.int .i64 s)).setCell ⟨y, 2, none⟩ (.int .i64 k) := ⟨_, rfl⟩
      rw [← hE]
      have hQ0 : (w7.setCell ⟨x, 0, none⟩ (.slice (some ⟨gz, 0, none⟩) i y3)).heap[y]? = some (.cells #[.slice none 0 0, .int .i64 0, .int .i64 0] 24 (0, 0)) := (Below.heap_setCell _ _ _ _ (fun e => by simp only at e; omega)).trans HQY.out
      have hQE : E.heap[y]? = some (.cells #[.slice (some ⟨gz, 0, none⟩) i y3, .int .i64 s, .int .i64 k] 24 (0, 0)) := by
        rw [hE]
        exact Joins.block_setCell (i := 2) (Joins.block_setCell (i := 1) (Joins.block_setCell (i := 0) hQ0 _) _) _
      have hK : ∀ b, b ≠ x → b ≠ y → E.heap[b]? = w7.heap[b]? := fun b h1 h2 => by
        rw [hE]
        exact (Below.heap_setCell _ _ _ _ h2).trans ((Below.heap_setCell _ _ _ _ h2).trans ((Below.heap_setCell _ _ _ _ h2).trans (Below.heap_setCell _ _ _ _ h1)))
      have hEs : E.heap.size = w7.heap.size := by rw [hE]; simp [World.setCell]
      have hbE : Below x w E := by
        refine ⟨?_, ?_, ?_, by have := HB.out.size; omega, fun b hb => (hK b (by omega) (by omega)).trans ((HKX.out b (by omega)).trans (HB.out.block b hb))⟩
        · rw [hE]; exact hf7.out.os.trans (BK.out.os.trans HB.out.os)
        · rw [hE]; exact hf7.out.tape.trans (BK.out.tape.trans HB.out.tape)
        · rw [hE]; exact hf7.out.output.trans (BK.out.output.trans HB.out.output)
      refine bodyPost_ret (results_cell_row rfl _ _ y 24 _ (0, 0) _ rfl hQE Tryd.underlying24 rfl (by kernel_rfl)) rfl ?_
      have hxW : x ≤ W.heap.size := by omega
      refine ⟨some ⟨gz, 0, none⟩, y3, MS, rfl, ?_, by rw [← HXE.out]; exact hbE⟩
      rw [← HXE.out]
      refine ⟨HL.out, HS0.out, ?_, fun j hj => ?_, HS3.out⟩
      · have h1 := row_kept ho7.out (w' := E) (fun b' hb' => hK b' (by have := (ho7.out.lt b' hb').1; omega) (by have := (ho7.out.lt b' hb').1; omega))
        have h2 := h1.mono (base' := x) hxW
        rw [List.flatMap_append]
        simpa using h2
      · have hO := HS2.out j hj (by have := HL.out; omega)
        have hkj : ∀ b, (Value.slice (MS.getD j default).r1 (l[j].R.length + 1) (MS.getD j default).r3).ownBlock = some b → E.heap[b]? = wr.heap[b]? := fun b hb => by
          have hlt := hO.rr.lt b hb
          exact (hK b (by omega) (by omega)).trans ((hf7.out.block b (by simp; omega) (hO.ne b ((ob_len _ _ _ _ _).trans hb))).trans (heap_alloc_old _ _ hlt.2))
        refine ⟨hO.op, hO.x, hO.y, hO.a, hO.len, hO.sm, (row_kept hO.rr hkj).mono (base' := x) hxW, fun b hb h => ?_⟩
        rcases hf7.out.own b h with h1 | h1
        · exact hO.ne b hb h1
        · have := (hO.rr.lt b ((ob_len _ _ _ _ _).trans hb)).2
          simp at h1
          omega
end Go.Proofs.YteanndophopplaaDoor
/- HELPERS: the document's Print of a program that may be. -/
namespace Go.Proofs.YteanndophopplaaDoor
open Go.RowKit Go.Lib
set_option linter.unusedVariables false
set_option linter.unusedSimpArgs false
theorem sumE_takeE {E : Nat → List Nat} {ns : List Nat} {j : Nat} (h : j < ns.length) : sumE E (ns.take (j + 1)) = sumE E (ns.take j) ++ E ns[j] := by
  rw [List.take_succ_eq_append_getElem h]
  simp only [sumE, List.flatMap_append]
  simp
theorem sumE_takeE_le (E : Nat → List Nat) (ns : List Nat) (j : Nat) : (sumE E (ns.take j)).length ≤ (sumE E ns).length := by
  have h : sumE E ns = sumE E (ns.take j) ++ sumE E (ns.drop j) := by
    simp only [sumE]
    rw [← List.flatMap_append, List.take_append_drop]
  rw [h, List.length_append]; omega
theorem res24 (tmps : Array Value) (w : World) (v e : Value) (h2 : tmps.getD 2 undef = v) (h3 : tmps.getD 3 undef = e) : (results Tryd.f24 tmps).run Tryd.prog w = .ok (.tuple #[v, e]) w := by
  have h2' : tmps[2]?.getD undef = v := by simpa using h2
  have h3' : tmps[3]?.getD undef = e := by simpa using h3
  simp [results, Tryd.results24, h2', h3', Result.andThen]
abbrev bA : ByteArray := ⟨#[99, 97, 112, 115, 32]⟩
abbrev bB : ByteArray := ⟨#[32, 115, 116, 97, 114, 116, 32]⟩
abbrev bC : ByteArray := ⟨#[32, 32]⟩
/-- a row of bytes grows by a string -/
theorem step_str {w V V' : World} {base ln : Nat} {y y' : Value} {xs : List Nat} {s : ByteArray} (hbe : Below base w V) (hs : base ≤ V.heap.size) (hr : V.ownsRow base 5 1 y xs.length (U8 xs)) (hm : Moved V V' y y') (hl : (xs ++ bs s).length = ln) (ho : V'.ownsRow base 5 1 y' ln (U8 (xs ++ bs s))) :
    Below base w V' ∧ base ≤ V'.heap.size ∧ V'.ownsRow base 5 1 y' (xs ++ bs s).length (U8 (xs ++ bs s)) :=
  ⟨below_gb hbe hs hr (gb_of_moved0 hm), Nat.le_trans hs (gb_of_moved0 hm).size, by rw [hl]; exact ho⟩
set_option maxRecDepth 100000 in
set_option maxHeartbeats 8000000 in
theorem rprint24_yes {w : World} {ad : Option Addr} {n c : Nat} {l : List In} {s k : Int} (h : PI w w.heap.size ad n l) (hm : mayB l s k = true) : Calls Tryd.prog 24 #[pv ad n c s k] w (PrintAns l s k w) := by
  obtain ⟨h2, h3, h4, h5a, h5, h6⟩ := may_fit hm
  obtain ⟨U, hU⟩ : ∃ U, U = w.alloc (.cells #[.slice ad n c, .int .i64 s, .int .i64 k] 24) := ⟨_, rfl⟩
  have hX : B3 U w.heap.size (.slice ad n c) (.int .i64 s) (.int .i64 k) := by rw [hU]; exact heap_alloc_new w _
  have hb : Below w.heap.size w U := by rw [hU]; exact Joins.below_alloc1 w _
  have hP := h.kept hb hb.size
  have C29 := rcheck9 (c := c) (s := s) (k := k) hP
  rw [hm] at C29
  obtain ⟨ks, rfl⟩ : ∃ ks : Nat, k = (ks : Int) := ⟨k.toNat, by omega⟩
  obtain ⟨ss, rfl⟩ : ∃ ss : Nat, s = (ss : Int) := ⟨s.toNat, by omega⟩
  have hln : n = l.length := h.len
  have hn2 : n ≤ 20000 := by omega
  have hn0 : 0 < n := by omega
  have HL := hid hln
  have HM := hid hm
  have HF := hid h6
  have HX := hid hX
  have HB := hid hb
  have HU := hid hU
  have HP := hid hP
  obtain ⟨c0, c1, c2⟩ := three_cells hX
  clear hX hb hU hm h hln h6 hP
  go_enter Tryd.func24, Tryd.ntmps24
  go_upto_region 1 with fail
  rw [← HU.out]
  go_upto_region 4 with (go_at_call 29; (with_reducible refine C29.mono ?_); rintro e w1 ⟨rfl, hb1⟩; have HB1 := hid (HB.out.trans (Joins.below_le hb1 HB.out.size)); have HX1 := hid ((hb1.block _ (Array.getElem?_eq_some_iff.1 HX.out).1).trans HX.out); have HP1 := hid (HP.out.kept hb1 hb1.size); clear hb1 C29)
  obtain ⟨bx, hbx⟩ : ∃ bx, bx = w.heap.size := ⟨_, rfl⟩
  have HBX := hid hbx
  rw [← hbx] at c0 c1 c2 HX1 ⊢
  have hbl : bx < w1.heap.size := (Array.getElem?_eq_some_iff.1 HX1.out).1
  clear c0 c1 c2 hbx
  obtain ⟨base, hbase⟩ : ∃ base, base = w1.heap.size := ⟨_, rfl⟩
  rw [← hbase] at hbl
  have HBASE := hid hbase
  have BOX : Hid (∀ V, Below base w1 V → B3 V bx (.slice ad n c) (.int .i64 (ss : Int)) (.int .i64 (ks : Int))) := fun V hV => (hV.block bx hbl).trans HX1.out
  have hs0 : base ≤ w1.heap.size := by omega
  have hlk := dec_len ks
  have hls := dec_len ss
  have hro0 : w1.ownsRow base 5 1 (.slice none 0 0) ([] : List Nat).length (U8 []) := ⟨rfl, .inl ⟨rfl, rfl⟩⟩
  have HR0 := hid hro0
  clear hro0 hbase
  go_upto_region 6 with (at_builtin; refine wpList_append_str rfl (.tmp 15) (.const (.string bA)) rfl base _ [] rfl HR0.out bA rfl (by decide) hs0 ?_; intro v1 V1 ln1 hln1 ho1 hm1; obtain ⟨hb1, hs1, hr1⟩ := step_str (Below.refl base w1) hs0 HR0.out hm1 hln1.out ho1; obtain ⟨d0, d1, d2⟩ := three_cells (BOX.out V1 hb1); have HB1' := hid hb1; have HR1 := hid hr1; clear hr1 hm1 hb1 ho1)
  have D40 := dec40 ks HR1.out hs1 (by rw [List.length_append, bs_len]; show 0 + 5 + ks + 1 ≤ _; omega)
  go_upto_region 7 with (go_at_call 40; (with_reducible refine D40.mono ?_); rintro e V2 ⟨v2, rfl, hr2, hg2⟩; have hb2 := below_gb HB1'.out hs1 HR1.out hg2; have hs2 : base ≤ V2.heap.size := Nat.le_trans hs1 hg2.size; obtain ⟨c0, c1, c2⟩ := three_cells (BOX.out V2 hb2); have HB2 := hid hb2; have HR2 := hid hr2; clear hr2 hg2 hb2 D40)
  clear d0 d1 d2
  have hz2 : ([] ++ bs bA ++ dec ks).length + 7 ≤ 1099511627776 := by rw [List.length_append, List.length_append, bs_len]; show 0 + 5 + _ + 7 ≤ _; omega
  go_upto_region 8 with (at_builtin; refine wpList_append_str rfl (.tmp 21) (.const (.string bB)) rfl base _ _ rfl HR2.out bB rfl hz2 hs2 ?_; intro v3 V3 ln3 hln3 ho3 hm3; obtain ⟨hb3, hs3, hr3⟩ := step_str HB2.out hs2 HR2.out hm3 hln3.out ho3; obtain ⟨d0, d1, d2⟩ := three_cells (BOX.out V3 hb3); have HB3 := hid hb3; have HR3 := hid hr3; clear hr3 hm3 hb3 ho3)
  clear c0 c1 c2
  have D40 := dec40 ss HR3.out hs3 (by rw [List.length_append, List.length_append, List.length_append, bs_len, bs_len]; show 0 + 5 + _ + 7 + ss + 1 ≤ _; omega)
  go_upto_region 9 with (go_at_call 40; (with_reducible refine D40.mono ?_); rintro e V4 ⟨v4, rfl, hr4, hg4⟩; have hb4 := below_gb HB3.out hs3 HR3.out hg4; have hs4 : base ≤ V4.heap.size := Nat.le_trans hs3 hg4.size; have HB4 := hid hb4; have HR4 := hid hr4; clear hr4 hg4 hb4 D40)
  clear d0 d1 d2
  have hz4 : ([] ++ bs bA ++ dec ks ++ bs bB ++ dec ss).length ≤ 100000 := by rw [List.length_append, List.length_append, List.length_append, List.length_append, bs_len, bs_len]; show 0 + 5 + _ + 7 + _ ≤ _; omega
  have hz4' : ([] ++ bs bA ++ dec ks ++ bs bB ++ dec ss).length ≤ 1099511627776 := by omega
  go_upto_region 11 with (at_builtin; refine wpList_append_oneR rfl (.tmp 27) (.tmp 28) rfl base _ 10 1 _ rfl (.inl HR4.out) _ rfl rfl hz4' hs4 ?_; intro v5 V5 ho5 hm5; have hb5 := below_gb HB4.out hs4 HR4.out (GB.of_moved hm5.out); have hs5 : base ≤ V5.heap.size := Nat.le_trans hs4 (GB.of_moved hm5.out).size; have HB5 := hid hb5; have HR5 := hid ho5.out; clear ho5 hm5 hb5)
  have HP0 : Hid ([] ++ bs bA ++ dec ks ++ bs bB ++ dec ss ++ [10] = preL l (ss : Int) (ks : Int) 0) := by
    show _ = _
    rw [preL_zero, headL, Int.toNat_natCast, Int.toNat_natCast, show bs bA = [99, 97, 112, 115, 32] from rfl, show bs bB = [32, 115, 116, 97, 114, 116, 32] from rfl]
    simp [E2]
  have HZ0 : Hid ((preL l (ss : Int) (ks : Int) 0).length ≤ 8388608) := by
    show _ ≤ _
    rw [← HP0.out, List.length_append]
    show _ + 1 ≤ _
    omega
  go_loopw [5, 6] (fun y t wq => ∃ (i : Nat), t = .int .i64 (i : Int) ∧ i ≤ n ∧ Hid (Below base w1 wq) ∧ Hid (base ≤ wq.heap.size) ∧ Hid (wq.ownsRow base 5 1 y (preL l (ss : Int) (ks : Int) i).length (U8 (preL l (ss : Int) (ks : Int) i))) ∧ Hid ((preL l (ss : Int) (ks : Int) i).length ≤ 8388608)) (fun _ t _ => n - (intOf t).toNat)
  case atStart => exact ⟨0, rfl, by omega, HB5.out, hs5, by have e := HR5.out; rw [HP0.out] at e; rw [← HP0.out, List.length_append, HP0.out]; exact e, HZ0.out⟩
  case round =>
    clear HB5 HR5 HP0 HZ0 HR4 HR3 HR2 HR1 HR0 HB4 HB3 HB2 HB1'
    obtain ⟨i, rfl, hi, HBw, HSw, HR, HZ⟩ := hrel
    obtain ⟨c0, c1, c2⟩ := three_cells (BOX.out wr HBw.out)
    by_cases hil : i < n
    · have b1 : decide ((i : Int) < (n : Int)) = true := by simp; omega
      have b2 : (i : Int) < (n : Int) := by omega
      have ad1 : IntKind.i64.wrap ((i : Int) + 1) = (i : Int) + 1 := by simp [IntKind.wrap, IntKind.bits, IntKind.signed]; omega
      have hlt2 : i < l.length := by have := HL.out; omega
      obtain ⟨g, o, ND, rfl, hg, hcs⟩ := HP1.out.mem hn0
      rw [← HBASE.out] at hg
      have hIM0 := (hcs i hlt2).2
      have hFit := HF.out _ (List.getElem_mem hlt2)
      have HSN := hid (preL_snoc l (ss : Int) (ks : Int) i hlt2)
      have HPL := hid (preL_le l (ss : Int) (ks : Int) (i + 1))
      obtain ⟨I, hI⟩ : ∃ I, I = l[i] := ⟨_, rfl⟩
      rw [← hI] at hIM0 hFit HSN
      have hI5 := (hcs i hlt2).1
      obtain ⟨⟨op, x, y, a, r1, r2, r3⟩, hMM⟩ : ∃ M, M = ND i := ⟨_, rfl⟩
      rw [← hMM] at hIM0 hI5
      obtain ⟨q, hq, hq1, hq7⟩ : ∃ q : Nat, op = (q : Int) ∧ 1 ≤ q ∧ q ≤ 7 := by
        have e : op = I.op := hIM0.op
        refine ⟨op.toNat, ?_, ?_, ?_⟩ <;> rw [e] <;> cases hFit <;> simp
      subst hq
      have HIM := hid hIM0
      have HI5 := hid hI5
      have HFit := hid hFit
      have HOP : Hid (I.op.toNat = q) := by show _ = _; rw [← hIM0.op]; simp
      clear hI hMM hcs hIM0 hFit hI5
      obtain ⟨xs, hxs⟩ : ∃ xs, xs = preL l (ss : Int) (ks : Int) i := ⟨_, rfl⟩
      rw [← hxs] at HR HZ HSN
      have hzz := HZ.out
      have hbs := HSw.out
      have hz1 : xs.length + 2 ≤ 1099511627776 := by omega
      have HWB := hid (wS_bs q hq1 hq7)
      have hsz : (wS q).size ≤ 6 := by
        have := bs_len (wS q)
        rw [HWB.out] at this
        obtain rfl | rfl | rfl | rfl | rfl | rfl | rfl : q = 1 ∨ q = 2 ∨ q = 3 ∨ q = 4 ∨ q = 5 ∨ q = 6 ∨ q = 7 := by omega
        all_goals (simp [opW] at this; omega)
      clear hxs
      go_upto_region 14 with (at_builtin; refine wpList_append_str rfl (.tmp 37) (.const (.string bC)) rfl base _ _ rfl HR.out bC rfl hz1 hbs ?_; intro v1 V1 ln1 hln1 ho1 hm1; obtain ⟨hb1, hs1, hr1⟩ := step_str HBw.out hbs HR.out hm1 hln1.out ho1; have HB1' := hid hb1; have HR1 := hid hr1; clear hr1 hm1 hb1 ho1)
      clear c0 c1 c2
      obtain ⟨m0, m1, m2, m3, m4⟩ := HI5.out.kept (HB1'.out.block g hg)
      simp only at m0 m1 m2 m3 m4
      obtain ⟨c0, c1, c2⟩ := three_cells (BOX.out V1 HB1'.out)
      have C41 := word41 q V1 hq1 hq7
      go_upto_region 15 with (go_at_call 41; (with_reducible refine C41.mono ?_); rintro e w2 ⟨rfl, h⟩; obtain rfl := h.symm)
      have hz2 : (xs ++ bs bC).length + (wS q).size ≤ 1099511627776 := by rw [List.length_append, bs_len]; show _ + 2 + _ ≤ _; omega
      go_upto_region 16 with (at_builtin; refine wpList_append_str rfl (.tmp 46) (.tmp 47) rfl base _ _ rfl HR1.out (wS q) rfl hz2 hs1 ?_; intro v3 V3 ln3 hln3 ho3 hm3; obtain ⟨hb3, hs3, hr3⟩ := step_str HB1'.out hs1 HR1.out hm3 hln3.out ho3; have HB3 := hid hb3; have HR3 := hid hr3; clear hr3 hm3 hb3 ho3)
      clear m0 m1 m2 m3 m4 c0 c1 c2 C41
      obtain ⟨m0, m1, m2, m3, m4⟩ := HI5.out.kept (HB3.out.block g hg)
      simp only at m0 m1 m2 m3 m4
      obtain ⟨c0, c1, c2⟩ := three_cells (BOX.out V3 HB3.out)
      have C42 := fields42 (HIM.out.kept (w' := V3) (B' := V3.heap.size) (by rw [← HBASE.out]; exact HB3.out) (by rw [← HBASE.out]; exact hs3)) HFit.out
      have hnl := nums_len len2 HFit.out (by have := HL.out; omega) h5
      have HQ := hid (nums_q HFit.out (by have := HL.out; omega) h5)
      obtain ⟨ns, hns⟩ : ∃ ns, ns = I.nums := ⟨_, rfl⟩
      have hsn : preL l (ss : Int) (ks : Int) (i + 1) = (xs ++ bs bC ++ bs (wS q)) ++ sumE E2 I.nums ++ [10] := by
        rw [HSN.out, HWB.out, show bs bC = [32, 32] from rfl]
        simp [lineL, HOP.out]
      rw [← hns] at C42 hnl HQ hsn
      have HSN2 := hid hsn
      have hx3 : (xs ++ bs bC ++ bs (wS q)).length ≤ 8388620 := by rw [List.length_append, List.length_append, bs_len, bs_len]; show _ + 2 + _ ≤ _; omega
      obtain ⟨ys, hys⟩ : ∃ ys, ys = xs ++ bs bC ++ bs (wS q) := ⟨_, rfl⟩
      rw [← hys] at HSN2 hx3 HR3
      clear hns hsn hys
      go_upto_region 18 with (go_at_call 42; (with_reducible refine C42.mono ?_); rintro e w5 ⟨hb5, na, nc, rfl, hn5⟩; have HZW := hid (zw_new HB3.out hs3 HR3.out hb5 hn5 rfl); clear hb5 hn5 C42)
      clear m0 m1 m2 m3 m4 c0 c1 c2
      obtain ⟨nn, hnn⟩ : ∃ nn, nn = ns.length := ⟨_, rfl⟩
      rw [← hnn] at HZW ⊢
      have HNN := hid hnn
      clear hnn
      go_loopw [5, 9] (fun y t wq => ∃ (j : Nat), t = .int .i64 (j : Int) ∧ j ≤ nn ∧ Hid (ZW w1 wq base y (ys ++ sumE E2 (ns.take j)) (.slice na nn nc) ns)) (fun _ t _ => nn - (intOf t).toNat)
      case atStart => exact ⟨0, rfl, by omega, by show ZW _ _ _ _ _ _ _; rw [show sumE E2 (ns.take 0) = [] from rfl, List.append_nil]; exact HZW.out⟩
      case round =>
        clear HZW HB3 HR3 HR1 HBw HR HSw HB1'
        obtain ⟨j, rfl, hj, HZW⟩ := hrel
        have hlj := sumE_takeE_le E2 ns j
        have hyl : (ys ++ sumE E2 (ns.take j)).length ≤ 11150400000 := by rw [List.length_append]; omega
        by_cases hjn : j < nn
        · have e1 : decide ((j : Int) < (nn : Int)) = true := by simp; omega
          have e2 : (j : Int) < (nn : Int) := by omega
          obtain ⟨_, _, _, qm1, qm2⟩ := row_shape HZW.out.nr
          have hjns : j < ns.length := by have := HNN.out; omega
          have ad2 : IntKind.i64.wrap ((j : Int) + 1) = (j : Int) + 1 := by unfold maxLen at qm2; simp [IntKind.wrap, IntKind.bits, IntKind.signed]; omega
          have hyl' : (ys ++ sumE E2 (ns.take j)).length ≤ 1099511627776 := by omega
          have hsz7 := HZW.out.sz
          go_upto_region 21 with (at_builtin; refine wpList_append_oneR rfl (.tmp 61) (.tmp 62) rfl base _ 32 1 _ rfl (.inl HZW.out.row) _ rfl rfl hyl' hsz7 ?_; intro v6 V6 ho6 hm6; have HZ6 := hid (HZW.out.put (GB.of_moved hm6.out) (xs' := (ys ++ sumE E2 (ns.take j)) ++ [32]) (by rw [List.length_append]; exact ho6.out)); clear ho6 hm6)
          obtain ⟨gn, rfl⟩ : ∃ gn, na = some ⟨gn, 0, none⟩ := by
            rcases HZ6.out.nr.2 with ⟨_, h0⟩ | ⟨gn, cap, cur, e, _⟩
            · omega
            · simp only [Value.slice.injEq] at e; exact ⟨gn, e.1⟩
          have kj := by have hr := HZ6.out.nr; rw [HNN.out] at hr; exact I1_at hr j hjns
          obtain ⟨vq, hvq⟩ : ∃ v, v = ns.getD j 0 := ⟨_, rfl⟩
          rw [← hvq] at kj
          have hvn : vq = ns[j] := by rw [hvq]; simp [List.getD_eq_getElem?_getD, List.getElem?_eq_getElem hjns]
          have hvb : vq ≤ 1114111 := by rw [hvn]; exact HQ.out _ (List.getElem_mem hjns)
          have D40 := dec40 vq HZ6.out.row HZ6.out.sz (by rw [List.length_append]; simp; omega)
          have HVN := hid hvn
          clear hvq hvn qm1 qm2
          go_wp2_with (go_at_call 40; (with_reducible refine D40.mono ?_); rintro e w7 ⟨v7, rfl, hr7, hg7⟩; have HZ7 := hid (HZ6.out.put hg7 hr7); clear hr7 hg7 D40)
          exact ⟨⟨j + 1, by push_cast; rfl, by omega, by show ZW _ _ _ _ _ _ _; rw [sumE_takeE hjns, ← List.append_assoc, ← HVN.out, show E2 vq = [32] ++ dec vq from rfl, ← List.append_assoc]; exact HZ7.out⟩, by simp [intOf]; omega⟩
        · have e1 : decide ((j : Int) < (nn : Int)) = false := by simp; omega
          have e2 : ¬ (j : Int) < (nn : Int) := by omega
          obtain rfl : j = nn := by omega
          have hyl' : (ys ++ sumE E2 (ns.take j)).length ≤ 1099511627776 := by omega
          have hsz7 := HZW.out.sz
          go_upto_region 23 with (at_builtin; refine wpList_append_oneR rfl (.tmp 70) (.tmp 71) rfl base _ 10 1 _ rfl (.inl HZW.out.row) _ rfl rfl hyl' hsz7 ?_; intro v6 V6 ho6 hm6; have HZ6 := hid (HZW.out.put (GB.of_moved hm6.out) (xs' := (ys ++ sumE E2 (ns.take j)) ++ [10]) (by rw [List.length_append]; exact ho6.out)); clear ho6 hm6)
          have hfin : (ys ++ sumE E2 (ns.take j)) ++ [10] = preL l (ss : Int) (ks : Int) (i + 1) := by
            rw [HSN2.out, List.take_of_length_le (by rw [HNN.out]; exact Nat.le_refl _)]
          have hz := HZ6.out
          rw [hfin] at hz
          obtain ⟨ya, yc, rfl, _, _⟩ := row_shape hz.row
          have HZF := hid hz
          obtain ⟨xl, hxl⟩ : ∃ xl, xl = (preL l (ss : Int) (ks : Int) (i + 1)).length := ⟨_, rfl⟩
          rw [← hxl]
          have HXL := hid hxl
          have hxb : xl ≤ 11150400001 := by
            rw [hxl, ← hfin, List.length_append]; simp; omega
          clear hz hfin hxl HZW HZ6
          by_cases hbig : 8388608 < xl
          · have b6 : decide ((xl : Int) > 8388608) = true := by simp; omega
            have b7 : (8388608 : Int) < (xl : Int) := by omega
            go_wp2
            refine bodyPost_ret (res24 _ _ (.string ⟨#[]⟩) (.int .i64 3) rfl rfl) rfl ?_
            refine ⟨HB1.out.trans (Joins.below_le (by rw [← HBASE.out]; exact HZF.out.be) HB1.out.size), .inr (.inl ⟨HM.out, ?_, rfl⟩)⟩
            have h1 := HPL.out
            rw [← HXL.out] at h1
            omega
          · have b6 : decide ((xl : Int) > 8388608) = false := by simp; omega
            have b7 : ¬ (8388608 : Int) < (xl : Int) := by omega
            go_wp2
            exact ⟨⟨i + 1, by push_cast; rfl, by omega, HZF.out.be, HZF.out.sz, by rw [HXL.out]; exact HZF.out.row, hid (by rw [← HXL.out]; omega)⟩, by simp [intOf]; omega⟩
    · have b1 : decide ((i : Int) < (n : Int)) = false := by simp; omega
      have b2 : ¬ (i : Int) < (n : Int) := by omega
      obtain rfl : i = n := by omega
      have hcore : preL l (ss : Int) (ks : Int) i = textL l (ss : Int) (ks : Int) := by rw [HL.out, preL_all]
      rw [hcore] at HR HZ
      obtain ⟨ya, yc, rfl, _, _⟩ := row_shape HR.out
      have hcv := conv_row HR.out rfl (text_pos _ _ _)
      have HZ2 := hid HZ.out
      go_wp2
      refine bodyPost_ret (res24 _ _ (.string (txt l (ss : Int) (ks : Int))) (.int .i64 0) rfl rfl) rfl ?_
      exact ⟨HB1.out.trans (Joins.below_le (by rw [← HBASE.out]; exact HBw.out) HB1.out.size), .inr (.inr ⟨HM.out, HZ2.out, rfl⟩)⟩
set_option maxRecDepth 100000 in
set_option maxHeartbeats 8000000 in
theorem rprint24_no {w : World} {ad : Option Addr} {n c : Nat} {l : List In} {s k : Int} (h : PI w w.heap.size ad n l) (hm : mayB l s k = false) : Calls Tryd.prog 24 #[pv ad n c s k] w fun e w' => Below w.heap.size w w' ∧ e = .returned (.tuple #[.string ⟨#[]⟩, .int .i64 90]) := by
  obtain ⟨U, hU⟩ : ∃ U, U = w.alloc (.cells #[.slice ad n c, .int .i64 s, .int .i64 k] 24) := ⟨_, rfl⟩
  have hX : B3 U w.heap.size (.slice ad n c) (.int .i64 s) (.int .i64 k) := by rw [hU]; exact heap_alloc_new w _
  have hb : Below w.heap.size w U := by rw [hU]; exact Joins.below_alloc1 w _
  have C29 := rcheck9 (c := c) (s := s) (k := k) (h.kept hb hb.size)
  rw [hm] at C29
  obtain ⟨c0, c1, c2⟩ := three_cells hX
  have HB := hid hb
  have HU := hid hU
  clear hX hb hU hm h
  go_enter Tryd.func24, Tryd.ntmps24
  go_upto_region 1 with fail
  rw [← HU.out]
  go_wp2_with (go_at_call 29; (with_reducible refine C29.mono ?_); rintro e w2 ⟨rfl, hb2⟩; have HB2 := hid hb2; clear hb2 C29)
  refine bodyPost_ret (res24 _ _ (.string ⟨#[]⟩) (.int .i64 90) rfl rfl) rfl ?_
  exact ⟨HB.out.trans (Joins.below_le HB2.out HB.out.size), rfl⟩
/-- THE DOCUMENT'S Print OF ANY PROGRAM -/
theorem rprint24 {w : World} {ad : Option Addr} {n c : Nat} {l : List In} {s k : Int} (h : PI w w.heap.size ad n l) : Calls Tryd.prog 24 #[pv ad n c s k] w (PrintAns l s k w) := by
  cases hm : mayB l s k with
  | true => exact rprint24_yes h hm
  | false =>
    refine (rprint24_no h hm).mono ?_
    rintro e w' ⟨hb, rfl⟩
    exact ⟨hb, .inl ⟨hm, rfl⟩⟩
end Go.Proofs.YteanndophopplaaDoor
/- HELPERS: says: the program's text and bytes are the document's. -/
namespace Go.Proofs.YteanndophopplaaDoor
open Go.RowKit Go.Lib
set_option linter.unusedVariables false
set_option linter.unusedSimpArgs false
def bz (l : List In) (s k : Int) : List Nat := if mayB l s k = true ∧ (fullB l s k).length ≤ 8388608 then fullB l s k else []
def be (l : List In) (s k : Int) : Nat := if mayB l s k = true then (if (fullB l s k).length ≤ 8388608 then 0 else 3) else 90
def pz (l : List In) (s k : Int) : ByteArray := if mayB l s k = true ∧ (textL l s k).length ≤ 8388608 then txt l s k else ⟨#[]⟩
def pe (l : List In) (s k : Int) : Nat := if mayB l s k = true then (if (textL l s k).length ≤ 8388608 then 0 else 3) else 90
theorem bz_len (l : List In) (s k : Int) : (bz l s k).length ≤ 8388608 := by
  unfold bz
  split
  · rename_i h; exact h.2
  · simp
theorem BytesAns.row {l : List In} {s k : Int} {w w' : World} {e : Ending} (h : BytesAns l s k w e w') : ∃ v, e = .returned (.tuple #[v, .int .i64 ((be l s k : Nat) : Int)]) ∧ w'.ownsRow w.heap.size 5 1 v (bz l s k).length (U8 (bz l s k)) ∧ Below w.heap.size w w' := by
  obtain ⟨hb, ⟨hm, rfl⟩ | ⟨hm, hl, rfl⟩ | ⟨hm, hl, v, rfl, ho⟩⟩ := h
  · refine ⟨.slice none 0 0, by simp [be, hm], ?_, hb⟩
    have e : bz l s k = [] := by simp [bz, hm]
    rw [e]; exact ⟨rfl, .inl ⟨rfl, rfl⟩⟩
  · have h2 : ¬ (fullB l s k).length ≤ 8388608 := by omega
    refine ⟨.slice none 0 0, by simp [be, hm, h2], ?_, hb⟩
    have e : bz l s k = [] := by simp [bz, hm]; omega
    rw [e]; exact ⟨rfl, .inl ⟨rfl, rfl⟩⟩
  · refine ⟨v, by simp [be, hm, hl], ?_, hb⟩
    have e : bz l s k = fullB l s k := by simp [bz, hm]; omega
    rw [e]; exact ho
theorem PrintAns.row {l : List In} {s k : Int} {w w' : World} {e : Ending} (h : PrintAns l s k w e w') : e = .returned (.tuple #[.string (pz l s k), .int .i64 ((pe l s k : Nat) : Int)]) ∧ Below w.heap.size w w' := by
  obtain ⟨hb, ⟨hm, rfl⟩ | ⟨hm, hl, rfl⟩ | ⟨hm, hl, rfl⟩⟩ := h
  · exact ⟨by simp [pe, pz, hm], hb⟩
  · have h2 : ¬ (textL l s k).length ≤ 8388608 := by omega
    exact ⟨by simp [pe, pz, hm, h2], hb⟩
  · exact ⟨by simp [pe, pz, hm, hl], hb⟩
theorem U8_set (ys : List Nat) (k u : Nat) : (U8 ys).set k (.int .u8 (u : Int)) = U8 (ys.set k u) := by simp [U8, List.map_set]
theorem GB.setc {w V : World} {v v' : Value} {g : Nat} (h : GB w V v v') (hg : v'.ownBlock = some g) (i : Nat) (u : Value) : GB w (V.setCell ⟨g, i, none⟩ u) v v' := by
  refine ⟨h.os, h.tape, h.output, by simpa [World.setCell] using h.size, fun k hk hn => ?_, h.own⟩
  refine (Below.heap_setCell _ _ _ _ (fun e => ?_)).trans (h.block k hk hn)
  rcases h.own g hg with e1 | e1
  · exact hn (by rw [e1]; exact congrArg some e.symm)
  · simp only at e; omega
/-- the calls of says, one after another -/
structure SY (B : Nat) (W V : World) : Prop where
  be : Below B W V
  sz : B ≤ V.heap.size
theorem SY.step {B : Nat} {W V V' : World} (h : SY B W V) (hb : Below V.heap.size V V') : SY B W V' := ⟨h.be.trans (Joins.below_le hb h.sz), Nat.le_trans h.sz hb.size⟩
set_option maxRecDepth 100000 in
set_option maxHeartbeats 8000000 in
theorem says11 {w : World} {ad ad' : Option Addr} {n n' c c' : Nat} {l : List In} {s k : Int} (h : PI w w.heap.size ad n l) (h' : PI w w.heap.size ad' n' l) (hG8 : G8 w) (hG : G10 w) (h2 : 2 ≤ w.heap.size) :
    Calls Tryd.prog 11 #[pv ad n c s k, pv ad' n' c' s k] w fun e w' => e = .returned (.bool true) ∧ Below w.heap.size w w' := by
  obtain ⟨U, hU⟩ : ∃ U, U = (w.alloc (.cells #[.slice ad n c, .int .i64 s, .int .i64 k] 24)).alloc (.cells #[.slice ad' n' c', .int .i64 s, .int .i64 k] 24) := ⟨_, rfl⟩
  have hb0 : Below w.heap.size w U := by rw [hU]; exact below_two' w _ _
  have g0 : U.heap[w.heap.size]? = some (.cells #[.slice ad n c, .int .i64 s, .int .i64 k] 24 (0, 0)) := by rw [hU]; exact (heap_alloc_old _ _ (by simp)).trans (heap_alloc_new w _)
  have g1 : U.heap[w.heap.size + 1]? = some (.cells #[.slice ad' n' c', .int .i64 s, .int .i64 k] 24 (0, 0)) := by rw [hU]; exact two_new w _ _ _
  have hs0 : U.heap.size = w.heap.size + 2 := by rw [hU]; simp
  have HU := hid hU
  have hP := h.kept hb0 hb0.size
  have hP' := h'.kept hb0 hb0.size
  have hG8' := hG8.kept hb0 (by omega)
  have hG' := hG.below hb0 h2
  obtain ⟨B, hB⟩ : ∃ B, B = U.heap.size := ⟨_, rfl⟩
  have BX : Hid (∀ V, SY B U V → V.heap[w.heap.size]? = some (.cells #[.slice ad n c, .int .i64 s, .int .i64 k] 24 (0, 0)) ∧ V.heap[w.heap.size + 1]? = some (.cells #[.slice ad' n' c', .int .i64 s, .int .i64 k] 24 (0, 0)) ∧ PI V V.heap.size ad n l ∧ PI V V.heap.size ad' n' l ∧ G8 V ∧ G10 V ∧ 2 ≤ V.heap.size) := by
    intro V hV
    have hbe := hV.be
    have hsz := hV.sz
    rw [hB] at hbe hsz
    exact ⟨(hbe.block _ (by omega)).trans g0, (hbe.block _ (by omega)).trans g1, hP.kept hbe hsz, hP'.kept hbe hsz, hG8'.kept hbe (by omega), hG'.below hbe (by omega), by omega⟩
  have HS0 : Hid (SY B U U) := ⟨Below.refl _ _, by omega⟩
  have HB0 := hid hb0
  have HBE := hid hB
  have HW2 := hid hs0
  clear h h' hG8 hG h2 hb0 hs0 hU hP hP' hG8' hG' hB g0 g1
  have hzl := bz_len l s k
  obtain ⟨zs, hzs⟩ : ∃ zs, bz l s k = zs := ⟨_, rfl⟩
  obtain ⟨ec, hec⟩ : ∃ ec, be l s k = ec := ⟨_, rfl⟩
  obtain ⟨ps, hps⟩ : ∃ ps, pz l s k = ps := ⟨_, rfl⟩
  obtain ⟨pc, hpc⟩ : ∃ pc, pe l s k = pc := ⟨_, rfl⟩
  have CB : Hid (∀ V (hV : SY B U V), Calls Tryd.prog 22 #[pv ad n c s k] V fun e V' => ∃ v, e = .returned (.tuple #[v, .int .i64 (ec : Int)]) ∧ V'.ownsRow V.heap.size 5 1 v zs.length (U8 zs) ∧ Below V.heap.size V V') := fun V hV => (bytes22 (BX.out V hV).2.2.1).mono fun e V' hh => by have := hh.row; rw [hzs, hec] at this; exact this
  have CR : Hid (∀ V (hV : SY B U V), Calls Tryd.prog 25 #[pv ad' n' c' s k] V fun e V' => ∃ v, e = .returned (.tuple #[v, .int .i64 (ec : Int)]) ∧ V'.ownsRow V.heap.size 5 1 v zs.length (U8 zs) ∧ Below V.heap.size V V') := fun V hV => (rbytes25 (BX.out V hV).2.2.2.1).mono fun e V' hh => by have := hh.row; rw [hzs, hec] at this; exact this
  have CP : Hid (∀ V (hV : SY B U V), Calls Tryd.prog 21 #[pv ad n c s k] V fun e V' => e = .returned (.tuple #[.string ps, .int .i64 (pc : Int)]) ∧ Below V.heap.size V V') := fun V hV => (print21g (BX.out V hV).2.2.1 (BX.out V hV).2.2.2.2.1 (BX.out V hV).2.2.2.2.2.1 (BX.out V hV).2.2.2.2.2.2).mono fun e V' hh => by have := hh.row; rw [hps, hpc] at this; exact this
  have CQ : Hid (∀ V (hV : SY B U V), Calls Tryd.prog 24 #[pv ad' n' c' s k] V fun e V' => e = .returned (.tuple #[.string ps, .int .i64 (pc : Int)]) ∧ Below V.heap.size V V') := fun V hV => (rprint24 (BX.out V hV).2.2.2.1).mono fun e V' hh => by have := hh.row; rw [hps, hpc] at this; exact this
  rw [hzs] at hzl
  obtain ⟨zn, hzn⟩ : ∃ zn, zn = zs.length := ⟨_, rfl⟩
  rw [← hzn] at hzl CB CR
  have HZN := hid hzn
  clear hzs hec hps hpc hzn
  go_enter Tryd.func11, Tryd.ntmps11
  go_upto_region 1 with fail
  rw [← HU.out]
  have D24 := CQ.out U HS0.out
  obtain ⟨d0, d1, d2⟩ := three_cells (BX.out U HS0.out).2.1
  go_upto_region 2 with (go_at_call 24; (with_reducible refine D24.mono ?_); rintro e w1 ⟨rfl, hb⟩; have hS1 := HS0.out.step hb; have HS1 := hid hS1; clear hb D24)
  clear d0 d1 d2
  obtain ⟨d0, d1, d2⟩ := three_cells (BX.out w1 HS1.out).2.1
  have D25 := CR.out w1 HS1.out
  go_upto_region 3 with (go_at_call 25; (with_reducible refine D25.mono ?_); rintro e w2 ⟨vb, rfl, hob, hb⟩; have HOB := hid hob; have HK2 := hid hb.size; have HS2 := hid (HS1.out.step hb); clear hb D25 hob)
  clear d0 d1 d2
  obtain ⟨d0, d1, d2⟩ := three_cells (BX.out w2 HS2.out).1
  have D21 := CP.out w2 HS2.out
  go_upto_region 4 with (go_at_call 21; (with_reducible refine D21.mono ?_); rintro e w3 ⟨rfl, hb⟩; have HB3 := hid hb; have HS3 := hid (HS2.out.step hb); clear hb D21)
  clear d0 d1 d2
  obtain ⟨d0, d1, d2⟩ := three_cells (BX.out w3 HS3.out).1
  have D22 := CB.out w3 HS3.out
  go_upto_region 5 with (go_at_call 22; (with_reducible refine D22.mono ?_); rintro e w4 ⟨vc, rfl, hoc, hb⟩; have HOC := hid hoc; have HB4 := hid hb; have HS4 := hid (HS3.out.step hb); clear hb D22 hoc)
  clear d0 d1 d2
  obtain ⟨d0, d1, d2⟩ := three_cells (BX.out w4 HS4.out).1
  have D22 := CB.out w4 HS4.out
  go_upto_region 6 with (go_at_call 22; (with_reducible refine D22.mono ?_); rintro e w5 ⟨vd, rfl, hod, hb⟩; have HOD := hid hod; have HB5 := hid hb; have HS5 := hid (HS4.out.step hb); clear hb D22 hod)
  clear d0 d1 d2
  have b35 : Below w3.heap.size w3 w5 := HB4.out.trans (Joins.below_le HB5.out HB4.out.size)
  have b25 : Below w2.heap.size w2 w5 := HB3.out.trans (Joins.below_le b35 HB3.out.size)
  have rb5 := row_kept HOB.out (fun b hb => b25.block b (HOB.out.lt b hb).2)
  have rc5 := row_kept HOC.out (fun b hb => HB5.out.block b (HOC.out.lt b hb).2)
  obtain ⟨ba, bc, rfl, -, -⟩ := row_shape rb5
  obtain ⟨ca, cc, rfl, -, -⟩ := row_shape rc5
  obtain ⟨da, dc, rfl, -, -⟩ := row_shape HOD.out
  have rb5' : w5.ownsRow w1.heap.size 5 1 (.slice ba zn bc) zs.length (U8 zs) := by rw [← HZN.out]; exact rb5
  have rc5' : w5.ownsRow w3.heap.size 5 1 (.slice ca zn cc) zs.length (U8 zs) := by rw [← HZN.out]; exact rc5
  have rd5' : w5.ownsRow w4.heap.size 5 1 (.slice da zn dc) zs.length (U8 zs) := by rw [← HZN.out]; exact HOD.out
  have NB : Hid (∀ b, (Value.slice ba zn bc).ownBlock = some b → (Value.slice ca zn cc).ownBlock ≠ some b) := fun b h1 h2 => by
    have a1 := (HOB.out.lt b h1).2
    have a2 := (HOC.out.lt b h2).1
    have := HB3.out.size
    omega
  have ND : Hid (∀ b, (Value.slice da zn dc).ownBlock = some b → (Value.slice ca zn cc).ownBlock ≠ some b) := fun b h1 h2 => by
    have a1 := (HOD.out.lt b h1).1
    have a2 := (HOC.out.lt b h2).2
    omega
  have C20 := same20 (n := zn) (n' := zn) (c := cc) (c' := bc) (ba_own rc5') (ba_own rb5') HZN.out HZN.out (by omega) (by omega)
  rw [decide_eq_true (rfl : zs = zs)] at C20
  have HRB := hid rb5'
  have HRC := hid rc5'
  have HRD := hid rd5'
  clear rb5 rc5 rb5' rc5' rd5' b35 b25
  go_upto_region 8 with (go_at_call 20; (with_reducible refine C20.mono ?_); rintro e w6 ⟨rfl, m6, rfl⟩; clear C20)
  have HG0 : Hid (GB w5 (w5.drewN m6) (.slice ca zn cc) (.slice ca zn cc)) := ⟨rfl, rfl, rfl, Nat.le_refl _, fun _ _ _ => rfl, fun k hk => .inl hk⟩
  have HC0 : Hid (∃ ys : List Nat, ys.length = zn ∧ (w5.drewN m6).ownsRow w3.heap.size 5 1 (.slice ca zn cc) ys.length (U8 ys)) := ⟨zs, HZN.out.symm, row_kept HRC.out (fun _ _ => rfl)⟩
  go_loopw [16] (fun y wq => ∃ i : Nat, y = .int .i64 (i : Int) ∧ i ≤ zn ∧ Hid (GB w5 wq (.slice ca zn cc) (.slice ca zn cc)) ∧ Hid (∃ ys : List Nat, ys.length = zn ∧ wq.ownsRow w3.heap.size 5 1 (.slice ca zn cc) ys.length (U8 ys))) (fun y _ => zn - (intOf y).toNat)
  case atStart => exact ⟨0, rfl, by omega, HG0.out, HC0.out⟩
  case round =>
    clear HG0 HC0
    obtain ⟨i, rfl, hi, HGB, HYS⟩ := hrel
    by_cases hil : i < zn
    · have b1 : decide ((i : Int) < (zn : Int)) = true := by simp; omega
      have b2 : (i : Int) < (zn : Int) := by omega
      have ad1 : IntKind.i64.wrap ((i : Int) + 1) = (i : Int) + 1 := by simp [IntKind.wrap, IntKind.bits, IntKind.signed]; omega
      obtain ⟨ys, hy, ho⟩ := HYS.out
      rw [hy] at ho
      obtain ⟨g, cq, e, -, -, -, -⟩ := own_blk ho (by omega)
      simp only [Value.slice.injEq] at e
      obtain ⟨rfl, -, rfl⟩ := e
      have f0 := ho.frozenAt i
      have k0 : wr.cell? ⟨g, i, none⟩ = some (.int .u8 (ys.getD i 0 : Nat)) := by
        rw [ho.cellAt i (by omega)]
        simp [U8, List.getD_eq_getElem?_getD, List.getElem?_map, List.getElem?_eq_getElem (show i < ys.length by omega)]
      have hset := row_setC ho i (.int .u8 201)
      have e201 : (U8 ys).set i (.int .u8 201) = U8 (ys.set i 201) := U8_set ys i 201
      rw [e201] at hset
      have HSET : Hid (∃ ys' : List Nat, ys'.length = zn ∧ (wr.setCell ⟨g, i, none⟩ (.int .u8 201)).ownsRow w3.heap.size 5 1 (.slice (some ⟨g, 0, none⟩) zn cc) ys'.length (U8 ys')) := ⟨ys.set i 201, by simpa using hy, by rw [List.length_set, hy]; exact hset⟩
      clear hset ho e201
      go_wp2
      exact ⟨⟨i + 1, by push_cast; rfl, by omega, HGB.out.setc rfl i _, HSET.out⟩, by simp [intOf]; omega⟩
    · have b1 : decide ((i : Int) < (zn : Int)) = false := by simp; omega
      go_upto_region 12 with fail
      go_loopw [11, 17] (fun v t wq => ∃ j : Nat, t = .int .i64 (j : Int) ∧ j ≤ 9 ∧ Hid (GB w5 wq (.slice ca zn cc) v) ∧ Hid (∃ ys : List Nat, ys.length = zn + j ∧ wq.ownsRow w3.heap.size 5 1 v ys.length (U8 ys))) (fun _ t _ => 9 - (intOf t).toNat)
      case atStart => exact ⟨0, rfl, by omega, HGB.out, HYS.out⟩
      case round =>
        clear HGB HYS
        obtain ⟨j, rfl, hj, HGB, HYS⟩ := hrel
        obtain ⟨ys, hy, ho⟩ := HYS.out
        have hs5 : w3.heap.size ≤ wr.heap.size := by have := HGB.out.size; have := HB5.out.size; have := HB4.out.size; omega
        by_cases hj9 : j < 9
        · have b3 : decide ((j : Int) < 9) = true := by simp; omega
          have b4 : (j : Int) < 9 := by omega
          have ad2 : IntKind.i64.wrap ((j : Int) + 1) = (j : Int) + 1 := by simp [IntKind.wrap, IntKind.bits, IntKind.signed]; omega
          have hyl : ys.length ≤ 1099511627776 := by omega
          have HO := hid ho
          clear ho
          go_wp2_with (at_builtin; refine wpList_append_oneR rfl (.tmp 60) (.tmp 61) rfl w3.heap.size _ 202 1 ys rfl (.inl HO.out) _ rfl rfl hyl hs5 ?_; intro v8 w8 ho8 hm8; have HO8 := hid ho8.out; have HG8 := hid (HGB.out.trans (GB.of_moved hm8.out)); clear ho8 hm8)
          exact ⟨⟨j + 1, by push_cast; rfl, by omega, HG8.out, ys ++ [202], by simp; omega, by rw [List.length_append]; exact HO8.out⟩, by simp [intOf]; omega⟩
        · have b3 : decide ((j : Int) < 9) = false := by simp; omega
          have b4 : ¬ (j : Int) < 9 := by omega
          obtain rfl : j = 9 := by omega
          obtain ⟨va, vc, rfl, -, -⟩ := row_shape ho
          rw [hy]
          have rb8 := row_kept HRB.out (fun b hb => HGB.out.block b (Nat.lt_of_lt_of_le (HRB.out.lt b hb).2 (Nat.le_refl _)) (NB.out b hb))
          have rd8 := row_kept HRD.out (fun b hb => HGB.out.block b (HRD.out.lt b hb).2 (ND.out b hb))
          have C20 := same20 (n := zn) (n' := zn) (c := dc) (c' := bc) (ba_own rd8) (ba_own rb8) HZN.out HZN.out (by omega) (by omega)
          rw [decide_eq_true (rfl : zs = zs)] at C20
          have ad9 : IntKind.i64.wrap ((zn : Int) + 9) = (zn : Int) + 9 := by simp [IntKind.wrap, IntKind.bits, IntKind.signed]; omega
          have e9 : ((zn + 9 : Nat) : Int) = (zn : Int) + 9 := by push_cast; rfl
          clear ho rb8 rd8
          go_wp2_with (go_at_call 20; (with_reducible refine C20.mono ?_); rintro e w9 ⟨rfl, m9, rfl⟩; clear C20)
          all_goals go_ret
          refine ⟨rfl, ?_⟩
          have q0 := HW2.out
          have q1 := HBE.out
          have q3 := HS3.out.sz
          have q5 := HS5.out.sz
          have qb : Below w.heap.size w w5 := HB0.out.trans (Joins.below_le HS5.out.be (by omega))
          have qg := below_gb qb (by omega) (own_wide HRC.out (show w.heap.size ≤ w3.heap.size by omega)) HGB.out
          exact qg.trans (Joins.below_le (below_drewN wr m9) qg.size)
end Go.Proofs.YteanndophopplaaDoor
/- HELPERS: what the two Loads answer, in one form; what stays whatever becomes of one block. -/
namespace Go.Proofs.YteanndophopplaaDoor
open Go.RowKit Go.Lib
set_option linter.unusedVariables false
set_option linter.unusedSimpArgs false
/-- the program that bytes are loaded as, or the empty one -/
def lr (l : List Nat) : Pr3 := if 8388608 < l.length then ([], 0, 0) else match loadP C3 5000 20000 l with | none => ([], 0, 0) | some p => p
theorem lr_small (l : List Nat) : (lr l).1.length ≤ 20000 ∧ ∀ I ∈ (lr l).1, I.R.length ≤ 20000 := by
  unfold lr
  split
  · simp
  · cases h : loadP C3 5000 20000 l with
    | none => simp
    | some p =>
      obtain ⟨J, s, k⟩ := p
      obtain ⟨h1, _, _, _, _, h6⟩ := may_fit ((loadP_iff (by omega) (by omega) (by omega) l J s k).1 h).1
      refine ⟨h1, fun I hI => ?_⟩
      cases h6 I hI with
      | rune x R _ _ _ hR => have := (right_ok hR).1; show R.length ≤ 20000; omega
      | _ => simp
theorem GR.pi {w : World} {base n c : Nat} {a : Option Addr} {J : List In} {MS : List Iv} (h : GR w base (.slice a n c) MS J) : PI w w.heap.size a n J := by
  have hn : n = J.length := row_len h.row
  subst hn
  refine ⟨rfl, fun hp => ?_⟩
  obtain ⟨g, rfl⟩ := gr_blk h hp
  refine ⟨g, 0, fun j => MS.getD j default, rfl, (h.row.lt g rfl).2, fun i hi => ?_⟩
  have hi' : i < MS.length := by rw [h.lms]; exact hi
  have e : MS.getD i default = MS[i] := by simp [List.getD_eq_getElem?_getD, List.getElem?_eq_getElem hi']
  have hl := (h.lo i hi).im
  show I5 w g 0 i (MS.getD i default) ∧ IM w w.heap.size (MS.getD i default) J[i]
  exact ⟨by rw [e]; exact flat_at hi' rfl h.row h.lms, hl⟩
theorem PO.gr {w : World} {base : Nat} {z : Value} {J : List In} {MS : List Iv} (h : PO w base z J MS) : GR w base z MS J := by
  have e : ∀ j (hj : j < MS.length), MS.getD j default = MS[j] := fun j hj => by simp [List.getD_eq_getElem?_getD, List.getElem?_eq_getElem hj]
  refine ⟨h.len, h.row, fun j hj => ?_, fun j j' b hj hj' hne h1 => ?_⟩
  · have hj' : j < MS.length := by rw [h.len]; exact hj
    rw [e j hj']
    exact h.io j hj' hj
  · have g1 : j < MS.length := by rw [h.len]; exact hj
    have g2 : j' < MS.length := by rw [h.len]; exact hj'
    rw [e j g1] at h1
    rw [e j' g2]
    exact h.apart j j' g1 g2 hne b h1
/-- Load of any bytes, in one form -/
def LdU (l : List Nat) (W : World) (e : Ending) (w' : World) : Prop := Below W.heap.size W w' ∧ ∃ (a : Option Addr) (c : Nat) (MS : List Iv), e = .returned (.tuple #[pv a (lr l).1.length c (lr l).2.1 (lr l).2.2, .int .i64 (lc l)]) ∧ GR w' W.heap.size (.slice a (lr l).1.length c) MS (lr l).1
theorem loadU {w : World} {ad : Option Addr} {n c : Nat} {l : List Nat} (h : BA w w.heap.size ad l) (hn : n = l.length) (hcp : n ≤ c) (hcm : c ≤ 9223372036854775807) (hlt : ∀ x ∈ l, x < 256) : Calls Tryd.prog 19 #[.slice ad n c] w (LdU l w) := by
  refine (load19 h hn hcp hcm hlt).mono ?_
  rintro e w' ⟨hb, ⟨h1, rfl⟩ | ⟨h1, h2, rfl⟩ | ⟨h1, g, s, k, J, MS, h2, rfl, hpo⟩⟩
  · have e1 : lr l = ([], 0, 0) := by unfold lr; rw [if_pos h1]
    have e2 : lc l = 2 := by unfold lc; rw [if_pos h1]
    unfold LdU
    rw [e1, e2]
    exact ⟨hb, none, 0, [], rfl, GR.none _ _⟩
  · have e1 : lr l = ([], 0, 0) := by unfold lr; rw [if_neg (by omega), h2]
    have e2 : lc l = 101 := by unfold lc; rw [if_neg (by omega), if_pos h2]
    unfold LdU
    rw [e1, e2]
    exact ⟨hb, none, 0, [], rfl, GR.none _ _⟩
  · have e1 : lr l = (J, s, k) := by unfold lr; rw [if_neg (by omega), h2]
    have e2 : lc l = 0 := by unfold lc; rw [if_neg (by omega), if_neg (by rw [h2]; simp)]
    unfold LdU
    rw [e1, e2]
    exact ⟨hb, some ⟨g, 0, none⟩, J.length, MS, rfl, hpo.gr⟩
/-- the document's Load of any bytes, in one form -/
def LdD (l : List Nat) (W : World) (e : Ending) (w' : World) : Prop := Below W.heap.size W w' ∧ ∃ (a : Option Addr) (c : Nat), e = .returned (.tuple #[pv a (lr l).1.length c (lr l).2.1 (lr l).2.2, .int .i64 (lc l)]) ∧ PI w' w'.heap.size a (lr l).1.length (lr l).1
theorem loadDU {w : World} {ad : Option Addr} {n c : Nat} {l : List Nat} (h : BA w w.heap.size ad l) (hn : n = l.length) (hcp : n ≤ c) (hlt : ∀ x ∈ l, x < 256) : Calls Tryd.prog 18 #[.slice ad n c] w (LdD l w) := by
  have heq : loadP C5 L5 L5 l = loadP C3 5000 20000 l := loadP_eq (by omega) (by omega) (by decide) (by decide) (by omega) (by omega) l
  refine (load18 h hn hcp hlt).mono ?_
  have hnil : ∀ W : World, PI W W.heap.size none 0 [] := fun W => ⟨rfl, fun h => by omega⟩
  rintro e w' ⟨hb, ⟨h1, rfl⟩ | ⟨h1, h2, rfl⟩ | ⟨h1, a, n', c', s, k, J, h2, rfl, hpi⟩⟩
  · have e1 : lr l = ([], 0, 0) := by unfold lr; rw [if_pos h1]
    have e2 : lc l = 2 := by unfold lc; rw [if_pos h1]
    unfold LdD
    rw [e1, e2]
    exact ⟨hb, none, 0, rfl, hnil _⟩
  · rw [heq] at h2
    have e1 : lr l = ([], 0, 0) := by unfold lr; rw [if_neg (by omega), h2]
    have e2 : lc l = 101 := by unfold lc; rw [if_neg (by omega), if_pos h2]
    unfold LdD
    rw [e1, e2]
    exact ⟨hb, none, 0, rfl, hnil _⟩
  · rw [heq] at h2
    have e1 : lr l = (J, s, k) := by unfold lr; rw [if_neg (by omega), h2]
    have e2 : lc l = 0 := by unfold lc; rw [if_neg (by omega), if_neg (by rw [h2]; simp)]
    unfold LdD
    rw [e1, e2]
    obtain rfl : n' = J.length := hpi.len
    exact ⟨hb, a, c', rfl, hpi⟩
/-- what holds whatever becomes of one block -/
structure Keep (g : Nat) (X : World) (P : World → Prop) : Prop where
  all : ∀ X', Mo X X' g → P X'
theorem Keep.out {g : Nat} {X : World} {P : World → Prop} (h : Keep g X P) : P X := h.all X (Mo.refl _ _)
theorem Keep.mo {g : Nat} {X X' : World} {P : World → Prop} (h : Keep g X P) (hm : Mo X X' g) : Keep g X' P := ⟨fun X2 h2 => h.all X2 (hm.trans h2)⟩
theorem Keep.and {g : Nat} {X : World} {P Q : World → Prop} (h : Keep g X P) (h' : Keep g X Q) : Keep g X (fun V => P V ∧ Q V) := ⟨fun X2 h2 => ⟨h.all X2 h2, h'.all X2 h2⟩⟩
theorem keep_b3 {g : Nat} {X : World} {b : Nat} {v0 v1 v2 : Value} (h : B3 X b v0 v1 v2) (hn : b ≠ g) : Keep g X (fun V => B3 V b v0 v1 v2) := ⟨fun X2 h2 => (h2.block b (Array.getElem?_eq_some_iff.1 h).1 hn).trans h⟩
theorem keep_pi {g : Nat} {X : World} {B : Nat} {a : Option Addr} {n : Nat} {J : List In} (h : PI X B a n J) (hB : B ≤ g) (hX : B ≤ X.heap.size) : Keep g X (fun V => PI V V.heap.size a n J) :=
  ⟨fun X2 h2 => h.kept (h2.below hB hX) (by have := h2.size; omega)⟩
theorem keep_gr {g : Nat} {X : World} {base : Nat} {z : Value} {MS : List Iv} {J : List In} (h : GR X base z MS J) (hB : g < base) : Keep g X (fun V => GR V base z MS J) :=
  ⟨fun X2 h2 => h.kept (fun b hb hl _ => h2.block b hl (by omega))⟩
theorem keep_ba {g : Nat} {X : World} {B : Nat} {a : Option Addr} {l : List Nat} (h : BA X B a l) (hB : B ≤ g) (hX : B ≤ X.heap.size) : Keep g X (fun V => BA V V.heap.size a l) :=
  ⟨fun X2 h2 => h.kept (h2.below hB hX).block (by have := h2.size; omega)⟩
theorem makeB (c : Nat) (hc : c ≤ 281474976710656) (w : World) : (Instr.makeSlice 36 (.int .i64 0) (.int .i64 (c : Int))).run Tryd.prog w = .ok (.slice (some ⟨w.heap.size, 0, none⟩) 0 c) (w.alloc (.cells (madeCells (Value.int .u8 0).cells c) 5)) := by
  obtain ⟨i0, hi0, hz0, hz1, hz2⟩ := info_parts info5
  have h := run_make (P := Tryd.prog) w 36 5 i0 (.int .u8 0) Tryd.underlying36 hi0 hz0 .i64 .i64 0 c (by omega) (by omega) (by rw [hz2]; omega) (by omega)
  simp only [Int.toNat_natCast, Int.toNat_zero, hz1, Nat.mul_one] at h
  exact h
theorem made_rowB (c : Nat) (w : World) (hc : c ≤ maxLen) : (w.alloc (.cells (madeCells (Value.int .u8 0).cells c) 5)).ownsRow w.heap.size 5 1 (.slice (some ⟨w.heap.size, 0, none⟩) 0 c) 0 (U8 []) :=
  ⟨rfl, .inr ⟨w.heap.size, c, _, rfl, Nat.le_refl _, heap_alloc_new w _, Nat.zero_le _, hc, by rw [size_madeCells, Nat.mul_one], rfl⟩⟩
end Go.Proofs.YteanndophopplaaDoor
/- HELPERS: the law CodeReads: the walk. -/
namespace Go.Proofs.YteanndophopplaaDoor
open Go.RowKit Go.Lib
set_option linter.unusedVariables false
set_option linter.unusedSimpArgs false
/-- what the document's Read answers -/
def ReadD (s : ByteArray) (w : World) (e : Ending) (w' : World) : Prop := Below w.heap.size w w' ∧
  ((8388608 < s.size ∧ e = noR 2) ∨ (s.size ≤ 8388608 ∧ readP 5000 20000 (wordsL (bs s)) = none ∧ e = noR 100) ∨ (s.size ≤ 8388608 ∧ ∃ ad n c st k J, readP 5000 20000 (wordsL (bs s)) = some (J, st, k) ∧ e = .returned (.tuple #[pv ad n c st k, zI]) ∧ PI w' w'.heap.size ad n J))
/-- THE DOCUMENT'S Read OF ANY TEXT -/
theorem read15 {w : World} {s : ByteArray} : Calls Tryd.prog 15 #[.string s] w (ReadD s w) := by
  by_cases h8 : 8388608 < s.size
  · refine (read15_long h8).mono ?_
    rintro e w' ⟨rfl, hb⟩
    exact ⟨hb, .inl ⟨h8, rfl⟩⟩
  have h : s.size ≤ 8388608 := by omega
  match hW : wordsL (bs s) with
  | [] =>
    refine (read15_short h (by rw [hW]; simp)).mono ?_
    rintro e w' ⟨rfl, hb⟩
    exact ⟨hb, .inr (.inl ⟨h, by rw [hW]; rfl, rfl⟩)⟩
  | [_] =>
    refine (read15_short h (by rw [hW]; simp)).mono ?_
    rintro e w' ⟨rfl, hb⟩
    exact ⟨hb, .inr (.inl ⟨h, by rw [hW]; rfl, rfl⟩)⟩
  | [_, _] =>
    refine (read15_short h (by rw [hW]; simp)).mono ?_
    rintro e w' ⟨rfl, hb⟩
    exact ⟨hb, .inr (.inl ⟨h, by rw [hW]; rfl, rfl⟩)⟩
  | [_, _, _] =>
    refine (read15_short h (by rw [hW]; simp)).mono ?_
    rintro e w' ⟨rfl, hb⟩
    exact ⟨hb, .inr (.inl ⟨h, by rw [hW]; rfl, rfl⟩)⟩
  | c :: kw :: t :: sw :: l =>
    by_cases hc : c = capsW
    · by_cases ht : t = startW
      · subst hc ht
        have heq := readP_eq (L := LL) (M := (wordsL (bs s)).length) (L' := 5000) (M' := 20000) (by decide) (by omega) (wordsL (bs s)) (.inr (Nat.le_refl _)) (.inl (by omega))
        refine (read15_body h hW).mono ?_
        rw [heq]
        rintro e w' ⟨hb, ⟨h1, rfl⟩ | ⟨ad, n, c, st, k, J, h1, rfl, h2⟩⟩
        · exact ⟨hb, .inr (.inl ⟨h, h1, rfl⟩)⟩
        · exact ⟨hb, .inr (.inr ⟨h, ad, n, c, st, k, J, h1, rfl, h2⟩)⟩
      · refine (read15_start h (by rw [hW]; simp) (by simp only [hW]; exact hc) (by simp only [hW]; exact ht)).mono ?_
        rintro e w' ⟨rfl, hb⟩
        refine ⟨hb, .inr (.inl ⟨h, ?_, rfl⟩)⟩
        rw [hW]
        unfold readP
        simp only
        rw [if_neg (fun hx => ht hx.2)]
    · refine (read15_caps h (by rw [hW]; simp) (by simp only [hW]; exact hc)).mono ?_
      rintro e w' ⟨rfl, hb⟩
      refine ⟨hb, .inr (.inl ⟨h, ?_, rfl⟩)⟩
      rw [hW]
      unfold readP
      simp only
      rw [if_neg (fun hx => hc hx.1)]
/-- the program that a text is read as, or the empty one -/
def rr (s : ByteArray) : Pr3 := if 8388608 < s.size then ([], 0, 0) else match readP 5000 20000 (wordsL (bs s)) with | none => ([], 0, 0) | some p => p
def rc' (s : ByteArray) : Int := if 8388608 < s.size then 2 else if readP 5000 20000 (wordsL (bs s)) = none then 100 else 0
theorem rr_small (s : ByteArray) : (rr s).1.length ≤ 20000 ∧ ∀ I ∈ (rr s).1, I.R.length ≤ 20000 := by
  unfold rr
  split
  · simp
  · cases h : readP 5000 20000 (wordsL (bs s)) with
    | none => simp
    | some p =>
      obtain ⟨J, st, k⟩ := p
      obtain ⟨h1, _, _, _, _, h6⟩ := may_fit ((readP_iff (by omega) _ (.inl (by omega)) J st k).1 h).1
      refine ⟨h1, fun I hI => ?_⟩
      cases h6 I hI with
      | rune x R _ _ _ hR => have := (right_ok hR).1; show R.length ≤ 20000; omega
      | _ => simp
/-- Read of any text, in one form -/
def RdU (s : ByteArray) (W : World) (e : Ending) (w' : World) : Prop := Below W.heap.size W w' ∧ ∃ (a : Option Addr) (c : Nat) (MS : List Iv), e = .returned (.tuple #[pv a (rr s).1.length c (rr s).2.1 (rr s).2.2, .int .i64 (rc' s)]) ∧ GR w' W.heap.size (.slice a (rr s).1.length c) MS (rr s).1
theorem readUr {w : World} {s : ByteArray} (hG : G8 w) (h0 : 0 < w.heap.size) : Calls Tryd.prog 16 #[.string s] w (RdU s w) := by
  refine (read16 hG h0).mono ?_
  rintro e w' ⟨hb, ⟨h1, rfl⟩ | ⟨h1, h2, rfl⟩ | ⟨h1, J, st, k, a, c, MS, h2, rfl, hpo⟩⟩
  · have e1 : rr s = ([], 0, 0) := by unfold rr; rw [if_pos h1]
    have e2 : rc' s = 2 := by unfold rc'; rw [if_pos h1]
    unfold RdU
    rw [e1, e2]
    exact ⟨hb, none, 0, [], rfl, GR.none _ _⟩
  · have e1 : rr s = ([], 0, 0) := by unfold rr; rw [if_neg (by omega), h2]
    have e2 : rc' s = 100 := by unfold rc'; rw [if_neg (by omega), if_pos h2]
    unfold RdU
    rw [e1, e2]
    exact ⟨hb, none, 0, [], rfl, GR.none _ _⟩
  · have e1 : rr s = (J, st, k) := by unfold rr; rw [if_neg (by omega), h2]
    have e2 : rc' s = 0 := by unfold rc'; rw [if_neg (by omega), if_neg (by rw [h2]; simp)]
    unfold RdU
    rw [e1, e2]
    exact ⟨hb, a, c, MS, rfl, hpo.gr⟩
/-- the document's Read of any text, in one form -/
def RdD (s : ByteArray) (W : World) (e : Ending) (w' : World) : Prop := Below W.heap.size W w' ∧ ∃ (a : Option Addr) (c : Nat), e = .returned (.tuple #[pv a (rr s).1.length c (rr s).2.1 (rr s).2.2, .int .i64 (rc' s)]) ∧ PI w' w'.heap.size a (rr s).1.length (rr s).1
theorem readDU {w : World} {s : ByteArray} : Calls Tryd.prog 15 #[.string s] w (RdD s w) := by
  refine (read15 (s := s)).mono ?_
  have hnil : ∀ W : World, PI W W.heap.size none 0 [] := fun W => ⟨rfl, fun h => by omega⟩
  rintro e w' ⟨hb, ⟨h1, rfl⟩ | ⟨h1, h2, rfl⟩ | ⟨h1, a, n', c', st, k, J, h2, rfl, hpi⟩⟩
  · have e1 : rr s = ([], 0, 0) := by unfold rr; rw [if_pos h1]
    have e2 : rc' s = 2 := by unfold rc'; rw [if_pos h1]
    unfold RdD
    rw [e1, e2]
    exact ⟨hb, none, 0, rfl, hnil _⟩
  · have e1 : rr s = ([], 0, 0) := by unfold rr; rw [if_neg (by omega), h2]
    have e2 : rc' s = 100 := by unfold rc'; rw [if_neg (by omega), if_pos h2]
    unfold RdD
    rw [e1, e2]
    exact ⟨hb, none, 0, rfl, hnil _⟩
  · have e1 : rr s = (J, st, k) := by unfold rr; rw [if_neg (by omega), h2]
    have e2 : rc' s = 0 := by unfold rc'; rw [if_neg (by omega), if_neg (by rw [h2]; simp)]
    unfold RdD
    rw [e1, e2]
    obtain rfl : n' = J.length := hpi.len
    exact ⟨hb, a, c', rfl, hpi⟩
/-- the blocks of one program -/
def BKx (z : Value) (MS : List Iv) (n b : Nat) : Prop := z.ownBlock = some b ∨ ∃ j, j < n ∧ (MS.getD j default).rv.ownBlock = some b
theorem bkx_lo {w : World} {base n c b : Nat} {a : Option Addr} {MS : List Iv} {J : List In} (h : GR w base (.slice a n c) MS J) (hb : BKx (.slice a n c) MS n b) : base ≤ b := by
  obtain rfl : n = J.length := row_len h.row
  rcases hb with hb | ⟨j, hj, hb⟩
  · exact (h.row.lt b hb).1
  · exact (h.low j b hj hb).1
theorem bkx_hi {w : World} {base n c b : Nat} {a : Option Addr} {MS : List Iv} {J : List In} (h : GR w base (.slice a n c) MS J) (hb : BKx (.slice a n c) MS n b) : b < w.heap.size := by
  obtain rfl : n = J.length := row_len h.row
  rcases hb with hb | ⟨j, hj, hb⟩
  · exact (h.row.lt b hb).2
  · exact (h.low j b hj hb).2
/-- the law on its way: what stays -/
structure BS (w : World) (F : World → Prop) (X : World) : Prop where
  be : Below w.heap.size w X
  kp : ∀ X', Below X.heap.size X X' → F X'
theorem BS.now {w : World} {F : World → Prop} {X : World} (h : BS w F X) : F X := h.kp X (Below.refl _ _)
theorem BS.step {w : World} {F : World → Prop} {X X' : World} (h : BS w F X) (hb : Below X.heap.size X X') : BS w F X' :=
  ⟨h.be.trans (Joins.below_le hb h.be.size), fun X2 h2 => h.kp X2 (hb.trans (Joins.below_le h2 hb.size))⟩
theorem BS.add {w : World} {F F' : World → Prop} {X : World} (h : BS w F X) (hk : ∀ X', Below X.heap.size X X' → F' X') : BS w (fun V => F V ∧ F' V) X := ⟨h.be, fun X' h' => ⟨h.kp X' h', hk X' h'⟩⟩
theorem st_b3 {X : World} {b : Nat} {v0 v1 v2 : Value} (h : B3 X b v0 v1 v2) : ∀ X', Below X.heap.size X X' → B3 X' b v0 v1 v2 := fun X' hb => (hb.block b (Array.getElem?_eq_some_iff.1 h).1).trans h
theorem st_pi {X : World} {a : Option Addr} {n : Nat} {J : List In} (h : PI X X.heap.size a n J) : ∀ X', Below X.heap.size X X' → PI X' X'.heap.size a n J := fun X' hb => h.kept hb hb.size
theorem st_gr {X : World} {base : Nat} {z : Value} {MS : List Iv} {J : List In} (h : GR X base z MS J) : ∀ X', Below X.heap.size X X' → GR X' base z MS J := fun X' hb => h.below hb
theorem BS.box {w X : World} {F : World → Prop} {v0 v1 v2 : Value} (h : BS w F X) : BS w (fun V => F V ∧ B3 V X.heap.size v0 v1 v2) (X.alloc (.cells #[v0, v1, v2] 24)) :=
  (h.step (Joins.below_alloc1 X _)).add (st_b3 (heap_alloc_new X _))
theorem prs2 {w : World} {a0 a1 : Option Addr} {n0 n1 c0 c1 : Nat} {M0 M1 : List Iv} {l0 l1 : List In} (h0 : GR w 0 (.slice a0 n0 c0) M0 l0) (h1 : GR w 0 (.slice a1 n1 c1) M1 l1) (s0 : n0 ≤ 20000) (s1 : n1 ≤ 20000)
    (r0 : ∀ I ∈ l0, I.R.length ≤ 20000) (r1 : ∀ I ∈ l1, I.R.length ≤ 20000) (d01 : ∀ b, BKx (.slice a0 n0 c0) M0 n0 b → ¬ BKx (.slice a1 n1 c1) M1 n1 b) :
    PrsN 2 w (fun i => if i = 0 then a0 else a1) (fun i => if i = 0 then n0 else n1) (fun i => if i = 0 then c0 else c1) (fun i => if i = 0 then M0 else M1) (fun i => if i = 0 then l0 else l1) := by
  refine ⟨fun i hi => ?_, fun i hi => ?_, fun i hi => ?_, fun i j b hi hj hne h h' => ?_⟩
  · obtain rfl | rfl : i = 0 ∨ i = 1 := by omega
    · exact h0
    · exact h1
  · obtain rfl | rfl : i = 0 ∨ i = 1 := by omega
    · exact s0
    · exact s1
  · obtain rfl | rfl : i = 0 ∨ i = 1 := by omega
    · exact r0
    · exact r1
  · obtain rfl | rfl : i = 0 ∨ i = 1 := by omega
    all_goals obtain rfl | rfl : j = 0 ∨ j = 1 := by omega
    all_goals first
      | exact absurd rfl hne
      | exact d01 b h h'
      | exact d01 b h' h
set_option maxRecDepth 100000 in
set_option maxHeartbeats 8000000 in
theorem reads4 {w : World} {s t : ByteArray} (hG : G8 w) (h0 : 0 < w.heap.size) :
    Calls Tryd.prog 4 #[.string s, .string t] w fun e w' => e = .returned (.bool true) ∧ Below w.heap.size w w' := by
  obtain ⟨⟨J, st, k⟩, hlr⟩ : ∃ p, p = rr s := ⟨_, rfl⟩
  obtain ⟨⟨J2, st2, k2⟩, hlr2⟩ : ∃ p, p = rr t := ⟨_, rfl⟩
  obtain ⟨cd, hcd⟩ : ∃ q, q = rc' s := ⟨_, rfl⟩
  obtain ⟨cd2, hcd2⟩ : ∃ q, q = rc' t := ⟨_, rfl⟩
  obtain ⟨N, hN⟩ : ∃ q, q = J.length := ⟨_, rfl⟩
  obtain ⟨N2, hN2⟩ : ∃ q, q = J2.length := ⟨_, rfl⟩
  have C8 := awake8 hG.gw h0
  have HGW : Hid (∀ W, Below w.heap.size w W → G8 W ∧ 0 < W.heap.size) := fun W hb => ⟨fun i hi => (cell_eq (hb.block 0 h0) i).trans (hG i hi), Nat.lt_of_lt_of_le h0 hb.size⟩
  have CD : ∀ (W : World), Calls Tryd.prog 15 #[.string s] W fun e w' => Below W.heap.size W w' ∧ ∃ (a : Option Addr) (c : Nat), e = .returned (.tuple #[pv a N c st k, .int .i64 cd]) ∧ PI w' w'.heap.size a N J := fun W => by
    have := readDU (w := W) (s := s)
    unfold RdD at this
    rw [← hlr, ← hcd] at this
    rw [hN]
    exact this
  have CD2 : ∀ (W : World), Calls Tryd.prog 15 #[.string t] W fun e w' => Below W.heap.size W w' ∧ ∃ (a : Option Addr) (c : Nat), e = .returned (.tuple #[pv a N2 c st2 k2, .int .i64 cd2]) ∧ PI w' w'.heap.size a N2 J2 := fun W => by
    have := readDU (w := W) (s := t)
    unfold RdD at this
    rw [← hlr2, ← hcd2] at this
    rw [hN2]
    exact this
  have CP : ∀ (W : World), Below w.heap.size w W → Calls Tryd.prog 16 #[.string s] W fun e w' => Below W.heap.size W w' ∧ ∃ (a : Option Addr) (c : Nat) (MS : List Iv), e = .returned (.tuple #[pv a N c st k, .int .i64 cd]) ∧ GR w' W.heap.size (.slice a N c) MS J := fun W hW => by
    have := readUr (w := W) (s := s) (HGW.out W hW).1 (HGW.out W hW).2
    unfold RdU at this
    rw [← hlr, ← hcd] at this
    rw [hN]
    exact this
  have CP2 : ∀ (W : World), Below w.heap.size w W → Calls Tryd.prog 16 #[.string t] W fun e w' => Below W.heap.size W w' ∧ ∃ (a : Option Addr) (c : Nat) (MS : List Iv), e = .returned (.tuple #[pv a N2 c st2 k2, .int .i64 cd2]) ∧ GR w' W.heap.size (.slice a N2 c) MS J2 := fun W hW => by
    have := readUr (w := W) (s := t) (HGW.out W hW).1 (HGW.out W hW).2
    unfold RdU at this
    rw [← hlr2, ← hcd2] at this
    rw [hN2]
    exact this
  have hsm := rr_small s
  rw [← hlr] at hsm
  have HSM := hid hsm
  have hNb : N ≤ 20000 := by rw [hN]; exact hsm.1
  have HCD := hid CD
  have HCD2 := hid CD2
  have HCP := hid CP
  have HCP2 := hid CP2
  clear hG hlr hlr2 hcd hcd2 CD CD2 CP CP2 hN hN2 hsm
  go_enter Tryd.func4, Tryd.ntmps4
  go_upto_region 2 with (go_at_call 8; (with_reducible refine C8.mono ?_); rintro e w1 ⟨rfl, hb1⟩; have HS1 : Hid (BS w (fun _ => True) w1) := ⟨hb1, fun _ _ => trivial⟩; clear hb1 C8)
  have D15 := HCD.out w1
  go_upto_region 3 with (go_at_call 15; (with_reducible refine D15.mono ?_); rintro e w2 ⟨hb2, pa, pc, rfl, hpi⟩; have HS2 := hid ((HS1.out.step hb2).add (st_pi hpi)); clear hb2 hpi D15)
  obtain ⟨P, hP⟩ : ∃ P, P = w2.heap.size := ⟨_, rfl⟩
  have hS3 := HS2.out.box (v0 := .slice pa N pc) (v1 := .int .i64 st) (v2 := .int .i64 k)
  rw [← hP] at hS3 ⊢
  obtain ⟨w3, hw3⟩ : ∃ w3, w3 = w2.alloc (.cells #[.slice pa N pc, .int .i64 st, .int .i64 k] 24) := ⟨_, rfl⟩
  rw [← hw3] at hS3 ⊢
  have HS3 := hid hS3
  clear hP hw3 hS3 HS2 HS1
  have D16 := HCP.out w3 HS3.out.be
  go_upto_region 4 with (go_at_call 16; (with_reducible refine D16.mono ?_); rintro e w4 ⟨hb4, aa, ac, AM, rfl, hga⟩; have HS4 := hid ((HS3.out.step hb4).add (st_gr hga)); have HZ4 := hid hb4.size; have HAH := hid (fun b (hb : BKx (.slice aa N ac) AM N b) => bkx_hi hga hb); clear hb4 hga D16)
  obtain ⟨A1, hA1⟩ : ∃ A1, A1 = w4.heap.size := ⟨_, rfl⟩
  have hS5 := HS4.out.box (v0 := .slice aa N ac) (v1 := .int .i64 st) (v2 := .int .i64 k)
  rw [← hA1] at hS5 ⊢
  have HZ5 : Hid (w4.heap.size + 1 = (w4.alloc (.cells #[.slice aa N ac, .int .i64 st, .int .i64 k] 24)).heap.size) := by show _ = _; simp
  obtain ⟨w5, hw5⟩ : ∃ w5, w5 = w4.alloc (.cells #[.slice aa N ac, .int .i64 st, .int .i64 k] 24) := ⟨_, rfl⟩
  rw [← hw5] at hS5 HZ5 ⊢
  have HS5 := hid hS5
  clear hA1 hw5 hS5 HS4
  have D16 := HCP2.out w5 HS5.out.be
  go_upto_region 5 with (go_at_call 16; (with_reducible refine D16.mono ?_); rintro e w6 ⟨hb6, ba, bc, BM, rfl, hgb⟩; have HS6 := hid (HS5.out.step hb6); have HZ6 := hid hb6.size; clear hb6 hgb D16)
  obtain ⟨A2, hA2⟩ : ∃ A2, A2 = w6.heap.size := ⟨_, rfl⟩
  have hS7 := HS6.out.step (Joins.below_alloc1 w6 (.cells #[.slice ba N2 bc, .int .i64 st2, .int .i64 k2] 24))
  rw [← hA2]
  have HZ7 : Hid (w6.heap.size + 1 = (w6.alloc (.cells #[.slice ba N2 bc, .int .i64 st2, .int .i64 k2] 24)).heap.size) := by show _ = _; simp
  obtain ⟨w7, hw7⟩ : ∃ w7, w7 = w6.alloc (.cells #[.slice ba N2 bc, .int .i64 st2, .int .i64 k2] 24) := ⟨_, rfl⟩
  rw [← hw7] at hS7 HZ7 ⊢
  have HS7 := hid hS7
  clear hA2 hw7 hS7 HS6
  have D16 := HCP.out w7 HS7.out.be
  go_upto_region 6 with (go_at_call 16; (with_reducible refine D16.mono ?_); rintro e w8 ⟨hb8, ca, cc, CM, rfl, hgc⟩; have HS8 := hid ((HS7.out.step hb8).add (st_gr hgc)); have HZ8 := hid hb8.size; clear hb8 hgc D16)
  obtain ⟨A3, hA3⟩ : ∃ A3, A3 = w8.heap.size := ⟨_, rfl⟩
  have hS9 := HS8.out.box (v0 := .slice ca N cc) (v1 := .int .i64 st) (v2 := .int .i64 k)
  rw [← hA3] at hS9 ⊢
  obtain ⟨w9, hw9⟩ : ∃ w9, w9 = w8.alloc (.cells #[.slice ca N cc, .int .i64 st, .int .i64 k] 24) := ⟨_, rfl⟩
  rw [← hw9] at hS9 ⊢
  have HS9 := hid hS9
  clear hA3 hw9 hS9 HS8
  have D15 := HCD2.out w9
  go_upto_region 7 with (go_at_call 15; (with_reducible refine D15.mono ?_); rintro e w10 ⟨hb10, da, dc, rfl, hpi⟩; have HS10 := hid (HS9.out.step hb10); clear hb10 hpi D15)
  obtain ⟨A4, hA4⟩ : ∃ A4, A4 = w10.heap.size := ⟨_, rfl⟩
  have hS11 := HS10.out.step (Joins.below_alloc1 w10 (.cells #[.slice da N2 dc, .int .i64 st2, .int .i64 k2] 24))
  rw [← hA4]
  obtain ⟨w11, hw11⟩ : ∃ w11, w11 = w10.alloc (.cells #[.slice da N2 dc, .int .i64 st2, .int .i64 k2] 24) := ⟨_, rfl⟩
  rw [← hw11] at hS11 ⊢
  have HS11 := hid hS11
  clear hA4 hw11 hS11 HS10
  obtain ⟨⟨⟨⟨⟨⟨_, hpi⟩, hP3⟩, hgA⟩, hA3⟩, hgC⟩, hC3⟩ := HS11.out.now
  obtain ⟨p0, p1, p2⟩ := three_cells hP3
  obtain ⟨q0, q1, q2⟩ := three_cells hA3
  have C12 := same11 (c := ac) (c' := pc) (s := st) (k := k) hgA.pi hpi (by omega)
  clear hpi hP3 hgA hA3 hgC hC3
  go_upto_region 8 with (go_at_call 12; (with_reducible refine C12.mono ?_); rintro e w12 ⟨rfl, hb12⟩; have HS12 := hid (HS11.out.step hb12); clear hb12 C12)
  clear p0 p1 p2 q0 q1 q2 HS11
  obtain ⟨⟨⟨⟨⟨⟨_, hpi⟩, hP3⟩, hgA⟩, hA3⟩, hgC⟩, hC3⟩ := HS12.out.now
  obtain ⟨p0, p1, p2⟩ := three_cells hP3
  obtain ⟨q0, q1, q2⟩ := three_cells hC3
  have C12 := same11 (c := cc) (c' := pc) (s := st) (k := k) hgC.pi hpi (by omega)
  clear hpi hP3 hgA hA3 hgC hC3
  go_upto_region 9 with (go_at_call 12; (with_reducible refine C12.mono ?_); rintro e w13 ⟨rfl, hb13⟩; have HS13 := hid (HS12.out.step hb13); clear hb13 C12)
  clear p0 p1 p2 q0 q1 q2 HS12
  obtain ⟨⟨⟨⟨⟨⟨_, hpi⟩, hP3⟩, hgA⟩, hA3⟩, hgC⟩, hC3⟩ := HS13.out.now
  obtain ⟨q0, q1, q2⟩ := three_cells hA3
  obtain ⟨r0, r1, r2⟩ := three_cells hC3
  obtain ⟨w14, hw14⟩ : ∃ w14, w14 = w13.alloc (.cells #[.slice aa N ac, .int .i64 st, .int .i64 k, .slice ca N cc, .int .i64 st, .int .i64 k] 24) := ⟨_, rfl⟩
  have hb14 : Below w13.heap.size w13 w14 := by rw [hw14]; exact Joins.below_alloc1 w13 _
  have hG14 : w14.heap[w13.heap.size]? = some (.cells #[.slice aa N ac, .int .i64 st, .int .i64 k, .slice ca N cc, .int .i64 st, .int .i64 k] 24 (0, 0)) := by rw [hw14]; exact heap_alloc_new w13 _
  have HS14 := hid (HS13.out.step hb14)
  have hF := HS14.out.now
  have hga := hF.1.1.1.2
  have hgc := hF.1.2
  have ba1 : ∀ b, BKx (.slice aa N ac) AM N b → w3.heap.size ≤ b ∧ b < w4.heap.size := fun b hb => ⟨bkx_lo hga hb, HAH.out b hb⟩
  have bc1 : ∀ b, BKx (.slice ca N cc) CM N b → w7.heap.size ≤ b := fun b hb => bkx_lo hgc hb
  have hord : w4.heap.size ≤ w7.heap.size := by have := HZ5.out; have := HZ6.out; have := HZ7.out; omega
  have hw3s := HS3.out.be.size
  have hw34 := HZ4.out
  have hPrs := prs2 (hga.mono (Nat.zero_le _)) (hgc.mono (Nat.zero_le _)) hNb hNb HSM.out.2 HSM.out.2 (fun b h1 h2 => by have := ba1 b h1; have := bc1 b h2; omega)
  have C17 := own17N (np := 2) (g := w13.heap.size) (by omega) hPrs (fun i hi => by
    obtain rfl | rfl : i = 0 ∨ i = 1 := by omega
    · exact Joins.cell_of_block hG14 0
    · exact Joins.cell_of_block hG14 3) ((Array.getElem?_eq_some_iff.1 hG14).1)
  have C17' : Calls Tryd.prog 17 #[.slice (some ⟨w13.heap.size, 0, none⟩) 2 2] w14 fun e w' => e = .returned (.bool true) ∧ Below w.heap.size w w' := C17.mono (by
    rintro e w' ⟨rfl, hc⟩
    refine ⟨rfl, hc.os.trans HS14.out.be.os, hc.tape.trans HS14.out.be.tape, hc.output.trans HS14.out.be.output, Nat.le_trans HS14.out.be.size hc.size, fun b hb => (hc.block b (by have := HS14.out.be.size; omega) ?_).trans (HS14.out.be.block b hb)⟩
    rintro ⟨i, hi, hbk⟩
    obtain rfl | rfl : i = 0 ∨ i = 1 := by omega
    · have := ba1 b hbk; omega
    · have := bc1 b hbk; omega)
  rw [hw14] at C17'
  clear hF hga hgc ba1 bc1 hord hPrs C17 hb14 hG14 hw14 hpi hP3 hgA hA3 hgC hC3 hw3s hw34
  go_wp2_with (go_at_call 17; (with_reducible refine C17'.mono ?_); rintro e w22 ⟨rfl, hbF⟩; have HBF := hid hbF; clear hbF C17')
  all_goals go_ret
  all_goals exact ⟨rfl, HBF.out⟩
end Go.Proofs.YteanndophopplaaDoor
/- HELPERS: what was written is read as itself, in plain words. -/
namespace Go.Proofs.YteanndophopplaaDoor
open Go.RowKit Go.Lib
set_option linter.unusedVariables false
set_option linter.unusedSimpArgs false
theorem bs_nums {ys : List Nat} (h : ∀ x ∈ ys, x < 256) : bs (strOfNums (I8 ys)) = ys := by
  simp only [bs, strOfNums, I8]
  induction ys with
  | nil => rfl
  | cons y ys ih =>
    have h1 := h y (by simp)
    have h2 := ih (fun x hx => h x (by simp [hx]))
    simp at h2 ⊢
    refine ⟨?_, h2⟩
    omega
theorem opW_lt (q : Nat) : ∀ y ∈ opW q, y < 256 := by
  intro y hy
  unfold opW at hy
  split at hy
  all_goals simp at hy
  all_goals omega
theorem E2_lt (n : Nat) : ∀ y ∈ E2 n, y < 256 := by
  intro y hy
  rcases List.mem_cons.1 hy with rfl | hy
  · omega
  · have := dec_lt n y hy; omega
theorem sumE2_lt (ns : List Nat) : ∀ y ∈ sumE E2 ns, y < 256 := by
  intro y hy
  simp only [sumE, List.mem_flatMap] at hy
  obtain ⟨n, _, hn⟩ := hy
  exact E2_lt n y hn
theorem text_lt (l : List In) (s k : Int) : ∀ y ∈ textL l s k, y < 256 := by
  intro y hy
  simp only [textL, headL, lineL, List.mem_append, List.mem_flatMap] at hy
  rcases hy with ((((hy | hy) | hy) | hy) | hy) | ⟨I, _, ((hy | hy) | hy) | hy⟩
  · simp at hy; omega
  · exact E2_lt _ y hy
  · simp at hy; omega
  · exact E2_lt _ y hy
  · simp at hy; omega
  · simp at hy; omega
  · exact opW_lt _ y hy
  · exact sumE2_lt _ y hy
  · simp at hy; omega
theorem bs_txt (l : List In) (s k : Int) : bs (txt l s k) = textL l s k := bs_nums (text_lt l s k)
theorem txt_size (l : List In) (s k : Int) : (txt l s k).size = (textL l s k).length := by rw [← bs_len, bs_txt]
/-- A PROGRAM'S TEXT IS READ AS ITSELF -/
theorem rr_txt {l : List In} {s k : Int} (h : mayB l s k = true) (hl : (textL l s k).length ≤ 8388608) : rr (txt l s k) = (l, s, k) ∧ rc' (txt l s k) = 0 := by
  have h1 : readP 5000 20000 (wordsL (bs (txt l s k))) = some (l, s, k) := by
    rw [bs_txt, words_text h]
    exact (readP_iff (by omega) _ (.inl (by omega)) l s k).2 ⟨h, rfl⟩
  have h2 : ¬ 8388608 < (txt l s k).size := by rw [txt_size]; omega
  exact ⟨by unfold rr; rw [if_neg h2, h1], by unfold rc'; rw [if_neg h2, if_neg (by rw [h1]; simp)]⟩
theorem rr_back {t : ByteArray} (h : rc' t = 0) : mayB (rr t).1 (rr t).2.1 (rr t).2.2 = true := by
  unfold rc' at h
  split at h
  · simp at h
  · rename_i h2
    cases h1 : readP 5000 20000 (wordsL (bs t)) with
    | none => rw [h1] at h; simp at h
    | some p =>
      obtain ⟨J, st, k⟩ := p
      have e : rr t = (J, st, k) := by unfold rr; rw [if_neg h2, h1]
      rw [e]
      exact ((readP_iff (by omega) _ (.inl (by omega)) J st k).1 h1).1
theorem rc_cases (t : ByteArray) : rc' t = 2 ∨ rc' t = 100 ∨ rc' t = 0 := by
  unfold rc'
  split
  · exact .inl rfl
  · split
    · exact .inr (.inl rfl)
    · exact .inr (.inr rfl)
theorem lr_full {l : List In} {s k : Int} (h : mayB l s k = true) (hl : (fullB l s k).length ≤ 8388608) : lr (fullB l s k) = (l, s, k) := by
  unfold lr
  rw [if_neg (by omega), (loadP_iff (by omega) (by omega) (by omega) _ l s k).2 ⟨h, rfl⟩]
theorem lr_back {b : List Nat} (h : lc b = 0) : mayB (lr b).1 (lr b).2.1 (lr b).2.2 = true ∧ fullB (lr b).1 (lr b).2.1 (lr b).2.2 = b ∧ b.length ≤ 8388608 := by
  unfold lc at h
  split at h
  · simp at h
  · rename_i h2
    cases h1 : loadP C3 5000 20000 b with
    | none => rw [h1] at h; simp at h
    | some p =>
      obtain ⟨J, st, k⟩ := p
      have e : lr b = (J, st, k) := by unfold lr; rw [if_neg h2, h1]
      rw [e]
      have := (loadP_iff (f := 3) (by omega) (by omega) (by omega) b J st k).1 h1
      exact ⟨this.1, this.2.symm, by omega⟩
theorem lc_cases (b : List Nat) : lc b = 2 ∨ lc b = 101 ∨ lc b = 0 := by
  unfold lc
  split
  · exact .inl rfl
  · split
    · exact .inr (.inl rfl)
    · exact .inr (.inr rfl)
theorem be_ok {l : List In} {s k : Int} (h : mayB l s k = true) (hl : (fullB l s k).length ≤ 8388608) : be l s k = 0 ∧ bz l s k = fullB l s k := by simp [be, bz, h, hl]
theorem be_no {l : List In} {s k : Int} (h : ¬ (mayB l s k = true ∧ (fullB l s k).length ≤ 8388608)) : be l s k ≠ 0 := by
  unfold be
  split
  · split
    · rename_i h1 h2; exact absurd ⟨h1, h2⟩ h
    · simp
  · simp
theorem pe_ok {l : List In} {s k : Int} (h : mayB l s k = true) (hl : (textL l s k).length ≤ 8388608) : pe l s k = 0 ∧ pz l s k = txt l s k := by simp [pe, pz, h, hl]
theorem pe_no {l : List In} {s k : Int} (h : ¬ (mayB l s k = true ∧ (textL l s k).length ≤ 8388608)) : pe l s k ≠ 0 := by
  unfold pe
  split
  · split
    · rename_i h1 h2; exact absurd ⟨h1, h2⟩ h
    · simp
  · simp
theorem pe_three {l : List In} {s k : Int} (h : mayB l s k = true) (hl : ¬ (textL l s k).length ≤ 8388608) : pe l s k = 3 := by simp [pe, h, hl]
end Go.Proofs.YteanndophopplaaDoor
/- HELPERS: the law's walk: CodeBack. -/
namespace Go.Proofs.YteanndophopplaaDoor
open Go.RowKit Go.Lib
set_option linter.unusedVariables false
set_option linter.unusedSimpArgs false
/-- what Read of a program's text gives -/
theorem read_txt {w : World} {l : List In} {s k : Int} (hG : G8 w) (h0 : 0 < w.heap.size) (h : mayB l s k = true) (hl : (textL l s k).length ≤ 8388608) :
    Calls Tryd.prog 16 #[.string (txt l s k)] w fun e w' => Below w.heap.size w w' ∧ ∃ (a : Option Addr) (c : Nat), e = .returned (.tuple #[pv a l.length c s k, .int .i64 0]) ∧ PI w' w'.heap.size a l.length l := by
  obtain ⟨e1, e2⟩ := rr_txt h hl
  refine (readUr (s := txt l s k) hG h0).mono ?_
  rintro e w' ⟨hb, a, c, MS, rfl, hg⟩
  rw [e1] at hg ⊢
  rw [e2]
  exact ⟨hb, a, c, rfl, hg.pi⟩
/-- what Load of a program's bytes gives -/
theorem load_full {w : World} {ad : Option Addr} {n c : Nat} {l : List In} {s k : Int} (hB : BA w w.heap.size ad (fullB l s k)) (hn : n = (fullB l s k).length) (hcp : n ≤ c) (hcm : c ≤ 9223372036854775807) (h : mayB l s k = true) (hl : (fullB l s k).length ≤ 8388608) :
    Calls Tryd.prog 19 #[.slice ad n c] w fun e w' => Below w.heap.size w w' ∧ ∃ (a : Option Addr) (c : Nat), e = .returned (.tuple #[pv a l.length c s k, .int .i64 0]) ∧ PI w' w'.heap.size a l.length l := by
  have e1 := lr_full h hl
  have e2 := lc_full h hl
  refine (loadU hB hn hcp hcm (full_lt h)).mono ?_
  rintro e w' ⟨hb, a, c', MS, rfl, hg⟩
  rw [e1] at hg ⊢
  rw [e2]
  exact ⟨hb, a, c', rfl, hg.pi⟩
set_option maxRecDepth 100000 in
set_option maxHeartbeats 8000000 in
theorem back6 {w : World} {ad : Option Addr} {n c : Nat} {l : List In} {s k : Int} {za : Option Addr} {zn zc : Nat} {zs : List Nat} {u : ByteArray} (h : PI w w.heap.size ad n l) (hn : n * 56 ≤ 140737488351232)
    (hZ : BA w w.heap.size za zs) (hzn : zn = zs.length) (hz : zn ≤ 140737488355328) (hzc : zn ≤ zc) (hzm : zc ≤ 9223372036854775807) (hzb : ∀ x ∈ zs, x < 256) (hG8 : G8 w) (hG : G10 w) (h2 : 2 ≤ w.heap.size) :
    Calls Tryd.prog 6 #[pv ad n c s k, .slice za zn zc, .string u] w fun e w' => e = .returned (.bool true) ∧ Below w.heap.size w w' := by
  obtain ⟨U, hU⟩ : ∃ U, U = w.alloc (.cells #[.slice ad n c, .int .i64 s, .int .i64 k] 24) := ⟨_, rfl⟩
  have hb0 : Below w.heap.size w U := by rw [hU]; exact Joins.below_alloc1 w _
  have g0 : U.heap[w.heap.size]? = some (.cells #[.slice ad n c, .int .i64 s, .int .i64 k] 24 (0, 0)) := by rw [hU]; exact heap_alloc_new w _
  have hs0 : U.heap.size = w.heap.size + 1 := by rw [hU]; simp
  have HU := hid hU
  have hP := h.kept hb0 hb0.size
  have hG8' := hG8.kept hb0 (by omega)
  have hG' := hG.below hb0 h2
  have hZ' := hZ.kept hb0.block hb0.size
  obtain ⟨B, hB⟩ : ∃ B, B = U.heap.size := ⟨_, rfl⟩
  have BX : Hid (∀ V, SY B U V → V.heap[w.heap.size]? = some (.cells #[.slice ad n c, .int .i64 s, .int .i64 k] 24 (0, 0)) ∧ PI V V.heap.size ad n l ∧ G8 V ∧ G10 V ∧ 2 ≤ V.heap.size ∧ BA V V.heap.size za zs) := by
    intro V hV
    have hbe := hV.be
    have hsz := hV.sz
    rw [hB] at hbe hsz
    exact ⟨(hbe.block _ (by omega)).trans g0, hP.kept hbe hsz, hG8'.kept hbe (by omega), hG'.below hbe (by omega), by omega, hZ'.kept hbe.block hsz⟩
  have HS0 : Hid (SY B U U) := ⟨Below.refl _ _, by omega⟩
  have HB0 := hid hb0
  have HN := hid hn
  have HL := hid h.len
  have hlw : B = w.heap.size + 1 := by omega
  have HZN := hid hzn
  have HZB := hid hzb
  clear h hG8 hG h2 hb0 hs0 hU hP hG8' hG' hB g0 hn hZ hZ' hzn hzb
  have FIN : Hid (∀ V, SY B U V → Below w.heap.size w V) := fun V hV => HB0.out.trans (Joins.below_le hV.be (by omega))
  obtain ⟨pc, hpc⟩ : ∃ pc, pe l s k = pc := ⟨_, rfl⟩
  obtain ⟨ec, hec⟩ : ∃ ec, be l s k = ec := ⟨_, rfl⟩
  have HPC := hid hpc
  have HEC := hid hec
  clear hpc hec
  go_enter Tryd.func6, Tryd.ntmps6
  go_upto_region 1 with fail
  rw [← HU.out]
  have D8 := awake8 (BX.out U HS0.out).2.2.1.gw (by have := (BX.out U HS0.out).2.2.2.2.1; omega)
  go_upto_region 2 with (go_at_call 8; (with_reducible refine D8.mono ?_); rintro e w1 ⟨rfl, hb⟩; have HS1 := hid (HS0.out.step hb); clear hb D8)
  obtain ⟨d0, d1, d2⟩ := three_cells (BX.out w1 HS1.out).1
  have D21 := print21g (c := c) (s := s) (k := k) (BX.out w1 HS1.out).2.1 (BX.out w1 HS1.out).2.2.1 (BX.out w1 HS1.out).2.2.2.1 (BX.out w1 HS1.out).2.2.2.2.1
  go_upto_region 3 with (go_at_call 21; (with_reducible refine D21.mono ?_); rintro e w2 hp; obtain ⟨rfl, hb⟩ := hp.row; rw [HPC.out]; have HS2 := hid (HS1.out.step hb); clear hb hp D21)
  clear d0 d1 d2
  by_cases hA : mayB l s k = true ∧ (textL l s k).length ≤ 8388608
  focus
    obtain ⟨hA1, hA2⟩ := hA
    have hp0 : pc = 0 := by rw [← HPC.out]; exact (pe_ok hA1 hA2).1
    subst hp0
    rw [(pe_ok hA1 hA2).2]
    have D16 := read_txt (w := w2) (BX.out w2 HS2.out).2.2.1 (by have := (BX.out w2 HS2.out).2.2.2.2.1; omega) hA1 hA2
    go_upto_region 5 with (go_at_call 16; (with_reducible refine D16.mono ?_); rintro e w3 ⟨hb, a3, c3, rfl, hpi⟩; have HS3 := hid (HS2.out.step hb); have HPI3 := hid hpi; clear hb hpi D16)
    obtain ⟨V5, hV5⟩ : ∃ V5, V5 = w3.alloc (.cells #[.slice a3 l.length c3, .int .i64 s, .int .i64 k] 24) := ⟨_, rfl⟩
    rw [← hV5]
    have hb5 : Below w3.heap.size w3 V5 := by rw [hV5]; exact Joins.below_alloc1 w3 _
    have gi : V5.heap[w3.heap.size]? = some (.cells #[.slice a3 l.length c3, .int .i64 s, .int .i64 k] 24 (0, 0)) := by rw [hV5]; exact heap_alloc_new w3 _
    have HS5 := hid (HS3.out.step hb5)
    have hp5 := HPI3.out.kept hb5 hb5.size
    obtain ⟨d0, d1, d2⟩ := three_cells gi
    obtain ⟨e0, e1, e2⟩ := three_cells (BX.out V5 HS5.out).1
    have hp0 := (BX.out V5 HS5.out).2.1
    rw [HL.out] at hp0
    have D12 := same11 (c := c3) (c' := c) (s := s) (k := k) hp5 hp0 (by have := HL.out; have := HN.out; omega)
    rw [← HL.out] at D12 d0 gi ⊢
    clear hV5 hb5 gi hp5 hp0
    go_upto_region 8 with (go_at_call 12; (with_reducible refine D12.mono ?_); rintro e w4 ⟨rfl, hb⟩; have HS8 := hid (HS5.out.step hb); clear hb D12)
    clear d0 d1 d2 e0 e1 e2 HS5 HS3 HS2 HPI3 HPC
    obtain ⟨V8, rfl⟩ : ∃ V8, V8 = w4 := ⟨_, rfl⟩
  rotate_left
  focus
    have hp0 : pc ≠ 0 := by rw [← HPC.out]; exact pe_no hA
    have b0 : ((pc : Int) == 0) = false := by simpa using hp0
    go_upto_region 8 with fail
    have HS8 := HS2
    clear HS2 HPC b0 hp0 hA
    obtain ⟨V8, rfl⟩ : ∃ V8, V8 = w2 := ⟨_, rfl⟩
  all_goals
    obtain ⟨d0, d1, d2⟩ := three_cells (BX.out V8 HS8.out).1
    have D22 := bytes22 (c := c) (s := s) (k := k) (BX.out V8 HS8.out).2.1
    go_upto_region 9 with (go_at_call 22; (with_reducible refine D22.mono ?_); rintro e w9 hp; obtain ⟨v9, rfl, ho9, hb⟩ := hp.row; rw [HEC.out]; have HO9 := hid ho9; have HS9 := hid (HS8.out.step hb); clear hb hp D22 ho9)
    clear d0 d1 d2
    by_cases hB : mayB l s k = true ∧ (fullB l s k).length ≤ 8388608
    focus
      obtain ⟨hB1, hB2⟩ := hB
      have he0 : ec = 0 := by rw [← HEC.out]; exact (be_ok hB1 hB2).1
      subst he0
      have ho9 := HO9.out
      rw [(be_ok hB1 hB2).2] at ho9
      obtain ⟨va, vc, rfl, hv1, hv2⟩ := row_shape ho9
      have hba := ba_own ho9
      have D19 := load_full hba rfl hv1 (by unfold maxLen at hv2; omega) hB1 hB2
      clear ho9 hba hv1 hv2 HO9
      go_upto_region 11 with (go_at_call 19; (with_reducible refine D19.mono ?_); rintro e w10 ⟨hb, a10, c10, rfl, hpi⟩; have HS10 := hid (HS9.out.step hb); have HPI10 := hid hpi; clear hb hpi D19)
      obtain ⟨V11, hV11⟩ : ∃ V11, V11 = w10.alloc (.cells #[.slice a10 l.length c10, .int .i64 s, .int .i64 k] 24) := ⟨_, rfl⟩
      rw [← hV11]
      have hb11 : Below w10.heap.size w10 V11 := by rw [hV11]; exact Joins.below_alloc1 w10 _
      have gi : V11.heap[w10.heap.size]? = some (.cells #[.slice a10 l.length c10, .int .i64 s, .int .i64 k] 24 (0, 0)) := by rw [hV11]; exact heap_alloc_new w10 _
      have HS11 := hid (HS10.out.step hb11)
      have hp11 := HPI10.out.kept hb11 hb11.size
      obtain ⟨d0, d1, d2⟩ := three_cells gi
      obtain ⟨e0, e1, e2⟩ := three_cells (BX.out V11 HS11.out).1
      have hp0 := (BX.out V11 HS11.out).2.1
      rw [HL.out] at hp0
      have D12 := same11 (c := c10) (c' := c) (s := s) (k := k) hp11 hp0 (by have := HL.out; have := HN.out; omega)
      rw [← HL.out] at D12 d0 gi ⊢
      clear hV11 hb11 gi hp11 hp0
      go_upto_region 14 with (go_at_call 12; (with_reducible refine D12.mono ?_); rintro e w12 ⟨rfl, hb⟩; have HS14 := hid (HS11.out.step hb); clear hb D12)
      clear d0 d1 d2 e0 e1 e2 HS11 HS10 HS9 HPI10 HEC
      obtain ⟨V14, rfl⟩ : ∃ V14, V14 = w12 := ⟨_, rfl⟩
    rotate_left
    focus
      have he0 : ec ≠ 0 := by rw [← HEC.out]; exact be_no hB
      have b0 : ((ec : Int) == 0) = false := by simpa using he0
      go_upto_region 14 with fail
      have HS14 := HS9
      clear HS9 HEC b0 he0 hB HO9
      obtain ⟨V14, rfl⟩ : ∃ V14, V14 = w9 := ⟨_, rfl⟩
    all_goals
      have D19 := loadU (BX.out V14 HS14.out).2.2.2.2.2 HZN.out hzc hzm HZB.out
      obtain ⟨lv, hlv⟩ : ∃ lv, lc zs = lv := ⟨_, rfl⟩
      obtain ⟨J, hJ⟩ : ∃ J, (lr zs).1 = J := ⟨_, rfl⟩
      obtain ⟨st, hst⟩ : ∃ st, (lr zs).2.1 = st := ⟨_, rfl⟩
      obtain ⟨kk, hkk⟩ : ∃ kk, (lr zs).2.2 = kk := ⟨_, rfl⟩
      have HBACK : Hid (lv = 0 → mayB J st kk = true ∧ fullB J st kk = zs ∧ zs.length ≤ 8388608) := fun h => by
        have := lr_back (b := zs) (by rw [hlv]; exact h)
        rw [hJ, hst, hkk] at this
        exact this
      have HLQ : Hid (Calls Tryd.prog 19 #[.slice za zn zc] V14 fun e w' => Below V14.heap.size V14 w' ∧ ∃ (a : Option Addr) (c : Nat), e = .returned (.tuple #[pv a J.length c st kk, .int .i64 lv]) ∧ PI w' w'.heap.size a J.length J) := D19.mono fun e w' ⟨hb, a, c, MS, he, hg⟩ => by
        rw [hJ, hst, hkk, hlv] at he
        rw [hJ] at hg
        exact ⟨hb, a, c, he, hg.pi⟩
      clear D19 hlv hJ hst hkk
      have D19 := HLQ.out
      clear HLQ
      go_upto_region 15 with (go_at_call 19; (with_reducible refine D19.mono ?_); rintro e w15 ⟨hb, a15, c15, rfl, hpi⟩; have HS15 := hid (HS14.out.step hb); have HPI15 := hid hpi; clear hb hpi D19)
      obtain ⟨V16, hV16⟩ : ∃ V16, V16 = w15.alloc (.cells #[.slice a15 J.length c15, .int .i64 st, .int .i64 kk] 24) := ⟨_, rfl⟩
      rw [← hV16]
      have hb16 : Below w15.heap.size w15 V16 := by rw [hV16]; exact Joins.below_alloc1 w15 _
      have gi : V16.heap[w15.heap.size]? = some (.cells #[.slice a15 J.length c15, .int .i64 st, .int .i64 kk] 24 (0, 0)) := by rw [hV16]; exact heap_alloc_new w15 _
      have HS16 := hid (HS15.out.step hb16)
      have hp16 := HPI15.out.kept hb16 hb16.size
      obtain ⟨d0, d1, d2⟩ := three_cells gi
      have D22 := bytes22 (c := c15) (s := st) (k := kk) hp16
      obtain ⟨e2, he2⟩ : ∃ e2, be J st kk = e2 := ⟨_, rfl⟩
      obtain ⟨z2, hz2⟩ : ∃ z2, bz J st kk = z2 := ⟨_, rfl⟩
      have hzl := bz_len J st kk
      have HE2 : Hid (lv = 0 → e2 = 0 ∧ z2 = zs) := fun h => by
        obtain ⟨q1, q2, q3⟩ := HBACK.out h
        have q4 := be_ok q1 (by rw [q2]; exact q3)
        rw [he2, hz2, q2] at q4
        exact q4
      rw [hz2] at hzl
      have HE3 := hid he2
      have HE4 := hid hz2
      clear hV16 hb16 gi hp16 he2 hz2
      go_upto_region 16 with (go_at_call 22; (with_reducible refine D22.mono ?_); rintro e w17 hp; obtain ⟨v17, rfl, ho17, hb⟩ := hp.row; rw [HE3.out]; rw [HE4.out] at ho17; have HO17 := hid ho17; have HS17 := hid (HS16.out.step hb); clear hb hp D22 ho17)
      clear d0 d1 d2 HE3 HE4 HS16 HPI15 HS15 HBACK
      obtain ⟨ya, yc, rfl, -, -⟩ := row_shape HO17.out
      have D20 := same20 (n := z2.length) (n' := zn) (c := yc) (c' := zc) (ba_own HO17.out) (BX.out w17 HS17.out).2.2.2.2.2 rfl HZN.out (by omega) (by omega)
      go_upto_region 17 with (go_at_call 20; (with_reducible refine D20.mono ?_); rintro e w18 ⟨rfl, m18, rfl⟩; clear D20)
      obtain ⟨V19, hV19⟩ : ∃ V19, V19 = w17.drewN m18 := ⟨_, rfl⟩
      rw [← hV19]
      have HS19 : Hid (SY B U V19) := by rw [hV19]; exact HS17.out.step (below_drewN w17 m18)
      clear hV19 HS17 HO17
      by_cases hC : lv = 0
      focus
        obtain ⟨rfl, rfl⟩ := HE2.out hC
        subst hC
        rw [decide_eq_true (rfl : z2 = z2)]
        go_upto_region 19 with fail
      rotate_left
      focus
        have b0 : (lv == 0) = false := by simpa using hC
        go_upto_region 19 with fail
        clear b0
      all_goals
        have D16 := readUr (s := u) (BX.out V19 HS19.out).2.2.1 (by have := (BX.out V19 HS19.out).2.2.2.2.1; omega)
        obtain ⟨rv, hrv⟩ : ∃ rv, rc' u = rv := ⟨_, rfl⟩
        obtain ⟨J2, hJ2⟩ : ∃ J2, (rr u).1 = J2 := ⟨_, rfl⟩
        obtain ⟨s2, hs2⟩ : ∃ s2, (rr u).2.1 = s2 := ⟨_, rfl⟩
        obtain ⟨k2, hk2⟩ : ∃ k2, (rr u).2.2 = k2 := ⟨_, rfl⟩
        have HRB : Hid (rv = 0 → mayB J2 s2 k2 = true) := fun h => by
          have := rr_back (t := u) (by rw [hrv]; exact h)
          rw [hJ2, hs2, hk2] at this
          exact this
        have hsm := (rr_small u).1
        rw [hJ2] at hsm
        have HRQ : Hid (Calls Tryd.prog 16 #[.string u] V19 fun e w' => Below V19.heap.size V19 w' ∧ ∃ (a : Option Addr) (c : Nat), e = .returned (.tuple #[pv a J2.length c s2 k2, .int .i64 rv]) ∧ PI w' w'.heap.size a J2.length J2) := D16.mono fun e w' ⟨hb, a, c, MS, he, hg⟩ => by
          rw [hJ2, hs2, hk2, hrv] at he
          rw [hJ2] at hg
          exact ⟨hb, a, c, he, hg.pi⟩
        clear D16 hrv hJ2 hs2 hk2
        have D16 := HRQ.out
        clear HRQ
        go_upto_region 20 with (go_at_call 16; (with_reducible refine D16.mono ?_); rintro e w20 ⟨hb, a20, c20, rfl, hpi⟩; have HS20 := hid (HS19.out.step hb); have HPI20 := hid hpi; clear hb hpi D16)
        obtain ⟨jn, hjn⟩ : ∃ jn, jn = J2.length := ⟨_, rfl⟩
        rw [← hjn] at hsm HPI20 ⊢
        have HJN := hid hjn
        clear hjn
        obtain ⟨V21, hV21⟩ : ∃ V21, V21 = w20.alloc (.cells #[.slice a20 jn c20, .int .i64 s2, .int .i64 k2] 24) := ⟨_, rfl⟩
        rw [← hV21]
        have hb21 : Below w20.heap.size w20 V21 := by rw [hV21]; exact Joins.below_alloc1 w20 _
        have gi : V21.heap[w20.heap.size]? = some (.cells #[.slice a20 jn c20, .int .i64 s2, .int .i64 k2] 24 (0, 0)) := by rw [hV21]; exact heap_alloc_new w20 _
        obtain ⟨bi, hbi⟩ : ∃ bi, bi = w20.heap.size := ⟨_, rfl⟩
        rw [← hbi] at gi ⊢
        have hbl : bi < V21.heap.size := (Array.getElem?_eq_some_iff.1 gi).1
        have HS21 := hid (HS20.out.step hb21)
        have hp21 := HPI20.out.kept hb21 hb21.size
        have YN : Hid (∀ V, SY V21.heap.size V21 V → SY B U V ∧ V.heap[bi]? = some (.cells #[.slice a20 jn c20, .int .i64 s2, .int .i64 k2] 24 (0, 0)) ∧ PI V V.heap.size a20 jn J2) := fun V hV => ⟨HS21.out.step hV.be, (hV.be.block bi hbl).trans gi, hp21.kept hV.be hV.sz⟩
        have HT21 : Hid (SY V21.heap.size V21 V21) := ⟨Below.refl _ _, Nat.le_refl _⟩
        obtain ⟨d0, d1, d2⟩ := three_cells gi
        have D21 := print21g (c := c20) (s := s2) (k := k2) hp21 (BX.out V21 HS21.out).2.2.1 (BX.out V21 HS21.out).2.2.2.1 (BX.out V21 HS21.out).2.2.2.2.1
        obtain ⟨p2, hp2⟩ : ∃ p2, pe J2 s2 k2 = p2 := ⟨_, rfl⟩
        have HP2 := hid hp2
        clear hV21 hb21 gi hp21 hp2 hbi HPI20 HS20 HS19
        go_upto_region 21 with (go_at_call 21; (with_reducible refine D21.mono ?_); rintro e w22 hp; obtain ⟨rfl, hb⟩ := hp.row; rw [HP2.out]; have HT22 := hid (HT21.out.step hb); clear hb hp D21)
        clear d0 d1 d2
        by_cases hR : rv = 0
        · subst hR
          have hm2 := HRB.out rfl
          by_cases hl2 : (textL J2 s2 k2).length ≤ 8388608
          · have hq := pe_ok hm2 hl2
            have hp0 : p2 = 0 := by rw [← HP2.out]; exact hq.1
            subst hp0
            rw [hq.2]
            have q22 := YN.out w22 HT22.out
            have D16 := read_txt (w := w22) (BX.out w22 q22.1).2.2.1 (by have := (BX.out w22 q22.1).2.2.2.2.1; omega) hm2 hl2
            rw [← HJN.out] at D16
            go_upto_region 24 with (go_at_call 16; (with_reducible refine D16.mono ?_); rintro e w23 ⟨hb, a23, c23, rfl, hpi⟩; have HT23 := hid (HT22.out.step hb); have HPI23 := hid hpi; clear hb hpi D16)
            obtain ⟨V24, hV24⟩ : ∃ V24, V24 = w23.alloc (.cells #[.slice a23 jn c23, .int .i64 s2, .int .i64 k2] 24) := ⟨_, rfl⟩
            rw [← hV24]
            have hb24 : Below w23.heap.size w23 V24 := by rw [hV24]; exact Joins.below_alloc1 w23 _
            have gi : V24.heap[w23.heap.size]? = some (.cells #[.slice a23 jn c23, .int .i64 s2, .int .i64 k2] 24 (0, 0)) := by rw [hV24]; exact heap_alloc_new w23 _
            have HT24 := hid (HT23.out.step hb24)
            have hp24 := HPI23.out.kept hb24 hb24.size
            obtain ⟨d0, d1, d2⟩ := three_cells gi
            obtain ⟨b3, hb3⟩ : ∃ b3, b3 = w23.heap.size := ⟨_, rfl⟩
            rw [← hb3] at gi d0 d1 d2 ⊢
            have hbl3 : b3 < V24.heap.size := (Array.getElem?_eq_some_iff.1 gi).1
            have q24 := YN.out V24 HT24.out
            have D21 := print21g (c := c23) (s := s2) (k := k2) hp24 (BX.out V24 q24.1).2.2.1 (BX.out V24 q24.1).2.2.2.1 (BX.out V24 q24.1).2.2.2.2.1
            have HGI := hid gi
            have HP24 := hid hp24
            clear hV24 hb24 gi hp24 hb3 q22 q24 HPI23 HT23
            go_upto_region 25 with (go_at_call 21; (with_reducible refine D21.mono ?_); rintro e w25 hp; obtain ⟨rfl, hb⟩ := hp.row; rw [hq.1, hq.2]; have HT25 := hid (HT24.out.step hb); have HG25 := hid ((hb.block b3 hbl3).trans HGI.out); have HP25 := hid (HP24.out.kept hb hb.size); clear hb hp D21)
            clear d0 d1 d2
            have q25 := YN.out w25 HT25.out
            obtain ⟨d0, d1, d2⟩ := three_cells HG25.out
            obtain ⟨e0, e1, e3⟩ := three_cells q25.2.1
            have D12 := same11 (c := c23) (c' := c20) (s := s2) (k := k2) HP25.out q25.2.2 (by omega)
            go_wp2_with (go_at_call 12; (with_reducible refine D12.mono ?_); rintro e w26 ⟨rfl, hb⟩; have HT26 := hid (HT25.out.step hb); clear hb D12)
            all_goals go_ret
            all_goals exact ⟨rfl, FIN.out _ (YN.out _ HT26.out).1⟩
          · have hp0 : p2 = 3 := by rw [← HP2.out]; exact pe_three hm2 hl2
            subst hp0
            go_wp2
            all_goals go_ret
            all_goals exact ⟨rfl, FIN.out _ (YN.out _ HT22.out).1⟩
        · have b0 : (rv == 0) = false := by simpa using hR
          go_wp2
          all_goals go_ret
          all_goals exact ⟨rfl, FIN.out _ (YN.out _ HT22.out).1⟩
end Go.Proofs.YteanndophopplaaDoor
namespace Go.Proofs.YteanndophopplaaDoor
open Go.ChangeShapes Go.WideShapes Go.ChangeAt Go.RowKit Go.ChangeMaps
set_option linter.unusedVariables false
set_option linter.unusedSimpArgs false
theorem ownG : ownKnob Tryd.prog.godebug = none := by kernel_rfl
theorem bytesA49 : Tryd.prog.bytesOf 49 = 56 := by kernel_rfl
theorem prog_len {H : Type} {enc : TypeId × Value → H} {W : World} {d : DataW H} {p : List MemPlace} {ad : Option Addr} {n c : Nat} {s k : Int} (h0 : DataW.Trod enc Tryd.prog W 0 (fun _ => true) true 24 (pv ad n c s k) d p) (hsz : ∀ n ∈ d.weights Tryd.prog 24, n ≤ reachBytes) : n * 56 ≤ 140737488351232 := by
  obtain ⟨fuel, hf⟩ := h0
  obtain ⟨xs, m, hfu, hd, hl, hxl, hfs⟩ := DataW.trod_struct Tryd.underlying24 hf
  simp only [List.size_toArray, List.length_cons, List.length_nil] at hxl
  match xs, hxl with
  | [y0, y1, y2], _ =>
  have g0 := hfs 0 _ rfl
  simp [cellsA22] at g0
  have hd1 : d = .agg ([y0, y1, y2].map (·.1)) := congrArg Prod.fst hd
  have hw0 : ∀ n ∈ y0.1.weights Tryd.prog 22, n ≤ reachBytes := fun n hn => hsz n (by
    rw [hd1]
    simp only [DataW.weights, Tryd.underlying24]
    exact DataW.weights_mem_each (j := 0) (by simp) (by simp) n hn)
  rcases DataW.trod_slice Tryd.underlying22 g0 with ⟨e, _⟩ | ⟨a, len, cap, elems, rest, n', hn', e, hx0, hb, hlc, hcm, hel, hx, _, _⟩
  · simp [Value.cells] at e
    omega
  · have hs := hw0 _ (by rw [hx0]; simp only [DataW.weights, Tryd.underlying22]; exact List.mem_cons_self)
    rw [bytesA49, reach_eq] at hs
    simp [Value.cells] at e
    simp at hs
    omega
theorem bytes_cap {H : Type} {enc : TypeId × Value → H} {W : World} {d : DataW H} {p : List MemPlace} {ad : Option Addr} {n c : Nat} (h0 : DataW.Trod enc Tryd.prog W 0 (fun _ => true) true 36 (.slice ad n c) d p) : c ≤ 9223372036854775807 := by
  obtain ⟨fuel, hf⟩ := h0
  rcases open_ints Tryd.underlying36 Tryd.underlying5 cellsA5 hf with ⟨hcs, hx⟩ | ⟨a, len', cap', zs, hcs, _, hl, hm, hz, hx, hcell, hwz⟩
  · simp [Value.cells] at hcs
    omega
  · simp [Value.cells] at hcs
    unfold maxLen at hm
    omega
theorem gs_of_laid {W : World} (h : laidMetH Tryd.prog Rows.codeBackRow.laid W) : G8 W ∧ G10 W ∧ 2 ≤ W.heap.size := by
  have h' : laidMet Tryd.prog Rows.codeBackRow.laid W := h
  obtain ⟨ps, ⟨g1, t1, cs1, fuel1, p1, q1, hg1, ht1, hvar1, hd1, hrest1, _⟩, _⟩ := h'
  obtain ⟨g2, t2, cs2, fuel2, p2, q2, hg2, ht2, hvar2, hd2, hrest2, _⟩ := hrest1
  obtain ⟨g3, t3, cs3, fuel3, p3, q3, hg3, ht3, hvar3, hd3, hrest3, _⟩ := hrest2
  obtain ⟨g4, t4, cs4, fuel4, p4, q4, hg4, ht4, hvar4, hd4, _, _⟩ := hrest3
  obtain rfl : g4 = 0 := Option.some.inj (hg4.symm.trans (by kernel_rfl))
  obtain rfl : t4 = 92 := Option.some.inj (ht4.symm.trans (by kernel_rfl))
  obtain rfl : g3 = 1 := Option.some.inj (hg3.symm.trans (by kernel_rfl))
  obtain rfl : t3 = 122 := Option.some.inj (ht3.symm.trans (by kernel_rfl))
  have hc : G8 W := fun i hi => by
    rw [World.var?_cell hg4 hvar4 i, ← Array.getElem?_toList, words_all hd4 i hi]
  have hcs := Lib.cells_of_tab (k := .u64) (zs := Lib.pow10Tab) (n := 20) (e := 114) Tryd.underlying122 Tryd.underlying114 (by kernel_rfl) (by kernel_rfl) hd3
  have hd : G10 W := fun i hi => by
    rw [World.var?_cell hg3 hvar3 i, ← Array.getElem?_toList, hcs]
    have h20 : i < Lib.pow10Tab.length := by rw [Lib.pow10Tab_length]; exact hi
    have h2 := Lib.pow10Tab_at i hi
    simp only [List.getD_eq_getElem?_getD, List.getElem?_eq_getElem h20, Option.getD_some] at h2
    rw [List.getElem?_map, List.getElem?_eq_getElem h20, Option.map_some, h2]
  exact ⟨hc, hd, by have := lt_of_cellA (hd 0 (by omega)); exact this⟩
set_option maxRecDepth 100000 in
theorem backContract (H : Type) (enc : TypeId × Value → H) (W : World) (base : Nat) (args : Array Value) (ds gs : List (DataW H)) (before : List MemPlace)
    (hval : ∀ (j : Nat) t v, Tryd.f6.params[j]? = some t → args[j]? = some v → Value.okWide Tryd.prog W .any base t v)
    (hW : DataW.Whole enc Tryd.prog Tryd.f6.params.toList Rows.codeBackSpec.vars false W args.toList ds gs before)
    (hsz0 : (DataW.weightsEach Tryd.prog (Tryd.f6.params.toList ++ Rows.codeBackSpec.plain.varTypes Tryd.prog) (ds ++ gs)).all (· ≤ reachBytes) = true)
    (hL : laidMetH Tryd.prog Rows.codeBackRow.laid W) :
    Calls Tryd.prog 6 args W fun e W' => ∃ v, e = .returned v ∧ Rows.codeBackSpec.post enc Tryd.prog Tryd.f6 false true false false W args v W' := by
  have hW' := hW
  obtain ⟨p, q, hA0, hV, rfl, hfz, hnd⟩ := hW
  have hA : DataW.TrodAll enc Tryd.prog W 0 (fun _ => true) true Tryd.f6.params.toList args.toList ds p := hA0
  have hsz : ∀ n ∈ DataW.weightsEach Tryd.prog (Tryd.f6.params.toList ++ Rows.codeBackSpec.plain.varTypes Tryd.prog) (ds ++ gs), n ≤ reachBytes := fun n hn => by simpa using List.all_eq_true.1 hsz0 n hn
  rw [Tryd.params6] at hA hval hsz
  obtain ⟨v0, vs0, d0, ds0, p0, q0, hargs, rfl, rfl, h0, r0⟩ := trodAll_cons hA
  obtain ⟨v1, vs1, d1, ds1, p1, q1, rfl, rfl, rfl, h1, r1⟩ := trodAll_cons r0
  obtain ⟨v2, vs2, d2, ds2, p2, q2, rfl, rfl, rfl, h2, r2⟩ := trodAll_cons r1
  obtain ⟨rfl, rfl, rfl⟩ := trodAll_nil r2
  obtain rfl : args = #[v0, v1, v2] := by cases args; simp_all
  obtain ⟨rfl, rfl⟩ := trodVars_none hV
  have hlt0 : ∀ x ∈ p0, x.block < W.heap.size := fun x hx => by have := hW'.lt x (by simp [hx]); simpa using this
  have hlt1 : ∀ x ∈ p1, x.block < W.heap.size := fun x hx => by have := hW'.lt x (by simp [hx]); simpa using this
  obtain ⟨ad, n, c, s, k, l, rfl, hP⟩ := prog_argW (hval 0 24 v0 rfl rfl) h0 (fun n hn => hsz n (DataW.weights_mem_each (j := 0) (by simp) (by simp) n hn))
  obtain ⟨zs, za, zn, zc, rfl, hzn, hzc, hzB, hnil, hZ, hzb⟩ := bytes_argW (hval 1 36 v1 rfl rfl) h1 (fun n hn => hsz n (DataW.weights_mem_each (j := 1) (by simp) (by simp) n hn))
  obtain ⟨u, rfl, rfl, rfl, hu⟩ := open_string Tryd.underlying9 (hval 2 9 v2 rfl rfl) h2
  obtain ⟨hG8, hG, h22⟩ := gs_of_laid hL
  have hn := prog_len h0 (fun n hn => hsz n (DataW.weights_mem_each (j := 0) (by simp) (by simp) n hn))
  refine (back6 hP hn hZ hzn hzB hzc (bytes_cap h1) hzb hG8 hG h22).mono fun e W' ⟨he, hb⟩ => ?_
  subst he
  exact ⟨_, rfl, _, _, _, [], p0 ++ (p1 ++ ([] ++ [])), [], hW', trodAll_cons_mk (shut_bool Tryd.underlying4 _) trodAll_mk0,
    trodAll_cons_mk (Below.trod laidOut (by kernel_rfl) (of_decide_eq_true (by kernel_rfl)) h0 hb hlt0) (trodAll_cons_mk (Below.trod laidOut (by kernel_rfl) (of_decide_eq_true (by kernel_rfl)) h1 hb hlt1) (trodAll_cons_mk (shut_string Tryd.underlying9 hu) trodAll_mk0)), rfl, hb.frame _, fun h => by cases h⟩
abbrev backArgs : Array Value := #[.agg #[.slice none 0 0, .int .i64 0, .int .i64 0], .slice none 0 0, .string ⟨#[]⟩]
theorem backLaid (os : Os) : laidMet Tryd.prog Rows.codeBackRow.laid ((fixWorld (World.holding Tryd.prog os ⟨#[], #[], []⟩)).forCall (fun _ _ => 0) ⟨#[], backArgs, []⟩).memory :=
  laidMet_of_run' 8 (by kernel_rfl) (by kernel_rfl)
theorem backReads (os : Os) {H : Type} (enc : TypeId × Value → H) : ∃ places, DataW.whole enc Tryd.prog ((fixWorld (World.holding Tryd.prog os ⟨#[], #[], []⟩)).forCall (fun _ _ => 0) ⟨#[], backArgs, []⟩).memory Tryd.f6.params.toList Rows.codeBackSpec.vars false backArgs.toList 8 = some ([.agg [.nil, .lit (.int .i64 0), .lit (.int .i64 0)], .nil, .lit (.string [])], [], places) :=
  ⟨[], by kernel_rfl⟩
set_option maxRecDepth 100000 in
theorem backLifted (os : Os) (started : os.Started) (H : Type) (enc : TypeId × Value → H) (F : Stop.Interp) :
    ReturnsInHanded {} Tryd.checked os 6 .any ((OpenSpec.ofChange Rows.codeBackSpec).preRow enc Tryd.prog Tryd.f6 Rows.codeBackRow.domain false Rows.codeBackRow.laid) (((OpenSpec.ofChange Rows.codeBackSpec).at F).post enc Tryd.prog Tryd.f6 false true false false) := by
  obtain ⟨places, hx⟩ := backReads os enc
  refine returnsInHanded_of_row (C := Tryd.checked) (s := OpenSpec.ofChange Rows.codeBackSpec) ownG started (by kernel_rfl) Tryd.func6
    (witness_row_at (enc := enc) (C := Tryd.checked) false (fixWorld (World.holding Tryd.prog os ⟨#[], #[], []⟩)) backArgs rfl (by kernel_rfl) (by kernel_rfl) (by kernel_rfl)
      (OpenSpec.preRow_of_cond 8 hx (by kernel_rfl) (fun k hk => by cases hk) (by kernel_rfl) (backLaid os))) ?_
  intro W base args ds gs before hval hW _ _ hsz hL _ _
  exact backContract H enc W base args ds gs before hval hW hsz hL
theorem backSaid : Rows.CodeBackSaid :=
  OpenClaim.holds_of_cond 6 Tryd.f6 rfl rfl rfl rfl rfl rfl rfl ⟨rfl, rfl, rfl, rfl, rfl⟩ rfl rfl rfl rfl rfl (by kernel_rfl) Tryd.func6 (by kernel_rfl)
    (of_decide_eq_true (by kernel_rfl)) (by unfold Func.isWrapper; first | (rw [if_pos (by decide +kernel)]; kernel_rfl) | (rw [if_neg (by decide +kernel)]; exact ⟨rfl, rfl⟩))
    (fun os started H enc _ F => by rw [OpenClaim.pre_eq_preRow]; exact backLifted os started H enc F)
theorem backPlain (f : FuncId) (fn : Func) (hf : Tryd.pinned.checked.prog.funcNamed Tryd.f6.name = some f) (hfn : Tryd.pinned.checked.prog.funcs[f]? = some fn) :
    true = Tryd.pinned.checked.prog.looks [] ∧ ∀ (j : Nat) t, fn.params[j]? = some t → Tryd.pinned.checked.prog.wantsStandIn t = false := by
  obtain rfl : f = 6 := Option.some.inj ((show Tryd.prog.funcNamed Tryd.f6.name = some 6 by kernel_rfl).symm.trans hf) |>.symm
  obtain rfl : fn = Tryd.f6 := (Option.some.inj (Tryd.func6.symm.trans hfn)).symm
  refine ⟨by kernel_rfl, fun j t ht => ?_⟩
  rw [Tryd.params6] at ht
  have hm : t = 24 ∨ t = 36 ∨ t = 9 := by
    rcases j with _ | _ | _ | j
    · exact .inl (by simpa using ht.symm)
    · exact .inr (.inl (by simpa using ht.symm))
    · exact .inr (.inr (by simpa using ht.symm))
    · simp at ht
  rcases hm with rfl | rfl | rfl
  · exact (show Tryd.prog.wantsStandIn 24 = false by kernel_rfl)
  · exact (show Tryd.prog.wantsStandIn 36 = false by kernel_rfl)
  · exact (show Tryd.prog.wantsStandIn 9 = false by kernel_rfl)
theorem codeBack_holds : Rows.CodeBackCardSaid :=
  Claim7.holds_tied_plain_at .later [] _ _ _ _ backSaid (fun _ h => by cases h) (by kernel_rfl) (fun _ h => by cases h) codeBack_row_tie rfl ⟨rfl, rfl⟩ (by kernel_rfl) rfl backPlain (by kernel_rfl)
end Go.Proofs.YteanndophopplaaDoor
