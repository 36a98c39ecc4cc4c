/- HELPERS: forms in memory; the small calls that make them. -/
import Derived.Test.YtpckbpimgoljoaaGreatK6
import Derived.WalkLawsBesides
import Derived.Lib.LazyBuf
import Derived.Deep.Cut
import Derived.Laws.Rows
import Derived.Deep.MidRow
import Derived.Deep.OwnRows
import Derived.Test.YtpckbpimgoljoaaGreatKF
import Derived.Test.YtpckbpimgoljoaaGreatSa
import Derived.Test.YtpckbpimgoljoaaGreatK4
import Derived.Deep.RegionHeld2
import Derived.Lib.MinMax
/- HELPERS: rows of nodes with a fixed length; rows that are copied; trees whose lists are their own. -/
namespace Go.Proofs.YtpckbpimgoljoaaGreat
open Go.RowKit
set_option linter.unusedVariables false
set_option linter.unusedSimpArgs false
abbrev Z9 : Value := .agg #[.int .i64 0, .slice none 0 0, .int .i64 0, .slice none 0 0, .int .i64 0, .int .i64 0, .bool false, .int .i64 0, .string ⟨#[]⟩]
theorem info25 : (Tryz.prog.info? 25).map (fun i => (i.zero, i.size, i.bytes)) = some (some Z9, 9, 112) := by kernel_rfl
theorem info53 : (Tryz.prog.info? 71).map (fun i => (i.zero, i.size, i.bytes)) = some (some (.agg #[.int .i64 0, .int .i64 0]), 2, 16) := by kernel_rfl
theorem one9 (M : Nv) : ∀ u ∈ Nv.cs M, u.oneCell' = true := by
  intro u hu
  simp only [Nv.cs, List.mem_cons, List.not_mem_nil, or_false] at hu
  rcases hu with rfl | rfl | rfl | rfl | rfl | rfl | rfl | rfl | rfl <;> rfl
/-- a row of nodes of fixed length -/
def FRn (w : World) (b n : Nat) (f : Nat → Nv) : Prop := (∃ arr : Array Value, w.heap[b]? = some (.cells arr 25 (0, 0)) ∧ arr.size = n * 9) ∧ ∀ i, i < n → N9 w b 0 i (f i)
theorem FRn.kept {w w' : World} {b n : Nat} {f : Nat → Nv} (h : FRn w b n f) (hk : w'.heap[b]? = w.heap[b]?) : FRn w' b n f := by
  obtain ⟨⟨arr, h1, h2⟩, h3⟩ := h
  exact ⟨⟨arr, hk.trans h1, h2⟩, fun i hi => (h3 i hi).kept hk⟩
theorem FRn.as {w : World} {b n : Nat} {f g : Nat → Nv} (h : FRn w b n f) (he : ∀ i, i < n → f i = g i) : FRn w b n g := ⟨h.1, fun i hi => by rw [← he i hi]; exact h.2 i hi⟩
theorem FRn.lt {w : World} {b n : Nat} {f : Nat → Nv} (h : FRn w b n f) : b < w.heap.size := by
  obtain ⟨⟨arr, h1, h2⟩, h3⟩ := h
  exact (Array.getElem?_eq_some_iff.1 h1).1
theorem FRn.there {w : World} {b n : Nat} {f : Nat → Nv} (h : FRn w b n f) {i : Nat} (hi : i < n) : w.there b (i * 9) 9 := fun j hj => by
  obtain ⟨⟨arr, h1, h2⟩, h3⟩ := h
  refine ⟨?_, Joins.unfrozen_of_block h1 _⟩
  rw [Joins.cell_of_block h1, Array.getElem?_eq_getElem (by omega)]
  rfl
theorem FRn.set {w : World} {b n : Nat} {f : Nat → Nv} (h : FRn w b n f) {i : Nat} (hi : i < n) (M : Nv) : FRn (w.setCells b (i * 9) (Nv.cs M)) b n (fun j => if j = i then M else f j) := by
  have ht := h.there hi
  obtain ⟨⟨arr, h1, h2⟩, h3⟩ := h
  refine ⟨?_, fun j hj => ?_⟩
  · obtain ⟨arr', g1, g2⟩ := block_setCells (Nv.cs M) (i * 9) w arr h1
    exact ⟨arr', g1, by omega⟩
  · by_cases e : j = i
    · subst e
      have hin := World.cell?_setCells_in b (Nv.cs M) (j * 9) w (fun k hk => (ht k (by simpa using hk)).1)
      simp only [if_pos]
      unfold N9
      simp only [Nat.zero_add]
      exact ⟨hin 0 (by simp), hin 1 (by simp), hin 2 (by simp), hin 3 (by simp), hin 4 (by simp), hin 5 (by simp), hin 6 (by simp), hin 7 (by simp), hin 8 (by simp)⟩
    · have hout : ∀ k, k < 9 → (w.setCells b (i * 9) (Nv.cs M)).cell? ⟨b, 0 + j * 9 + k, none⟩ = w.cell? ⟨b, 0 + j * 9 + k, none⟩ := fun k hk => World.cell?_setCells_out b (Nv.cs M) (i * 9) w _ (fun _ _ => by simp only [List.length_cons, List.length_nil]; omega)
      simp only [if_neg e]
      obtain ⟨n0, n1, n2, n3, n4, n5, n6, n7, n8⟩ := h3 j hj
      exact ⟨(hout 0 (by omega)).trans n0, (hout 1 (by omega)).trans n1, (hout 2 (by omega)).trans n2, (hout 3 (by omega)).trans n3, (hout 4 (by omega)).trans n4, (hout 5 (by omega)).trans n5, (hout 6 (by omega)).trans n6, (hout 7 (by omega)).trans n7, (hout 8 (by omega)).trans n8⟩
theorem FRn.made (w : World) (c : Nat) : FRn (w.alloc (.cells (madeCells Z9.cells (c * 9)) 25)) w.heap.size c (fun _ => default) := by
  have hb := heap_alloc_new w (.cells (madeCells Z9.cells (c * 9)) 25)
  refine ⟨⟨_, hb, size_madeCells _ _⟩, fun i hi => ?_⟩
  have hc : ∀ k, k < 9 → (w.alloc (.cells (madeCells Z9.cells (c * 9)) 25)).cell? ⟨w.heap.size, 0 + i * 9 + k, none⟩ = some (Z9.cells[k]!) := fun k hk => by
    rw [Joins.cell_of_block hb]
    have h9 : Z9.cells.size = 9 := rfl
    simp only [madeCells, h9]
    rw [Array.getElem?_map, Array.getElem?_range, if_pos (by omega)]
    simp only [Option.map_some]
    rw [show (0 + i * 9 + k) % 9 = k by omega]
  exact ⟨hc 0 (by omega), hc 1 (by omega), hc 2 (by omega), hc 3 (by omega), hc 4 (by omega), hc 5 (by omega), hc 6 (by omega), hc 7 (by omega), hc 8 (by omega)⟩
end Go.Proofs.YtpckbpimgoljoaaGreat
/- HELPERS: trees whose lists are their own; a row of nodes turned about; the mirrors of a row. -/
namespace Go.Proofs.YtpckbpimgoljoaaGreat
open Go.RowKit
set_option linter.unusedVariables false
set_option linter.unusedSimpArgs false
/-- the block of a list -/
abbrev Nv.rb (N : Nv) : Option Nat := (Value.slice N.r1 N.r2 N.r3).ownBlock
abbrev Nv.sb (N : Nv) : Option Nat := (Value.slice N.s1 N.s2 N.s3).ownBlock
/-- a tree whose lists lie in blocks of their own, each in one by itself: A -/
inductive TO (w : World) : Nv → Tn → (Nat → Prop) → Prop
  | mk {N : Nv} {R : List (Int × Int)} {ts : List Tn} {ND : Nat → Nv} {AS : Nat → Nat → Prop} (ok : N.ok) (hRk : ∀ x ∈ R, I64ok x.1 ∧ I64ok x.2)
      (rr : w.ownsRow 0 71 2 (.slice N.r1 N.r2 N.r3) R.length (O2 R)) (sr : w.ownsRow 0 25 9 (.slice N.s1 N.s2 N.s3) ts.length (((List.range ts.length).map ND).flatMap Nv.cs))
      (hk : ∀ i (hi : i < ts.length), TO w (ND i) ts[i] (AS i))
      (d1 : ∀ i j b, i < ts.length → j < ts.length → i ≠ j → AS i b → ¬ AS j b)
      (d2 : ∀ b, N.rb = some b → N.sb ≠ some b)
      (d3 : ∀ i b, i < ts.length → AS i b → N.rb ≠ some b ∧ N.sb ≠ some b) :
      TO w N (.mk N.k R N.a2 ts N.a4 N.a5 N.a6 N.a7 N.a8) (fun b => N.rb = some b ∨ N.sb = some b ∨ ∃ i, i < ts.length ∧ AS i b)
theorem TO.kept {w w' : World} {N : Nv} {t : Tn} {A : Nat → Prop} (h : TO w N t A) (hk : ∀ b, A b → w'.heap[b]? = w.heap[b]?) : TO w' N t A := by
  induction h with
  | mk ok hRk rr sr hkk d1 d2 d3 ih =>
    exact .mk ok hRk (row_kept rr fun b hb => hk b (.inl hb)) (row_kept sr fun b hb => hk b (.inr (.inl hb))) (fun i hi => ih i hi fun b hb => hk b (.inr (.inr ⟨i, hi, hb⟩))) d1 d2 d3
theorem TO.low {w : World} {N : Nv} {t : Tn} {A : Nat → Prop} (h : TO w N t A) : ∀ b, A b → b < w.heap.size := by
  induction h with
  | mk ok hRk rr sr hkk d1 d2 d3 ih =>
    rintro b (h | h | ⟨i, hi, h⟩)
    · exact (rr.lt b h).2
    · exact (sr.lt b h).2
    · exact ih i hi b h
theorem TO.ok {w : World} {N : Nv} {t : Tn} {A : Nat → Prop} (h : TO w N t A) : N.ok := by cases h; assumption
theorem row_nine {w : World} {base n : Nat} {a : Option Addr} {l c : Nat} {MS : List Nv} (h : w.ownsRow base 25 9 (.slice a l c) n (MS.flatMap Nv.cs)) (hn : n = MS.length) (hp : 0 < n) : ∃ b, a = some ⟨b, 0, none⟩ ∧ (Value.slice a l c).ownBlock = some b ∧ ∀ i (hi : i < MS.length), N9 w b 0 i MS[i] := by
  rcases h.2 with ⟨e, h0⟩ | ⟨b, cap, cur, e, _⟩
  · omega
  · rw [e] at h
    simp only [Value.slice.injEq] at e
    refine ⟨b, e.1, by rw [e.1]; rfl, fun i hi => ?_⟩
    have c : ∀ k, k < 9 → w.cell? ⟨b, 0 + i * 9 + k, none⟩ = (Nv.cs MS[i])[k]? := fun k hk => by
      rw [Nat.zero_add, h.cellAt (i * 9 + k) (by omega), flat9 MS i k hi hk]
    exact ⟨c 0 (by omega), c 1 (by omega), c 2 (by omega), c 3 (by omega), c 4 (by omega), c 5 (by omega), c 6 (by omega), c 7 (by omega), c 8 (by omega)⟩
theorem TO.tp {w : World} {N : Nv} {t : Tn} {A : Nat → Prop} (h : TO w N t A) : TP w A N t := by
  induction h with
  | @mk N R ts ND AS ok hRk rr sr hkk d1 d2 d3 ih =>
    refine .mk (ND := ND) ok (row_len rr) (fun hn => ?_) hRk (row_len sr) (fun hp => ?_) (fun i hi => (ih i hi).kept (fun _ _ => rfl) fun b hb => .inr (.inr ⟨i, hi, hb⟩))
    · rcases rr.2 with ⟨e, h0⟩ | ⟨b, cap, cur, e, _⟩
      · exact absurd (List.length_eq_zero_iff.1 h0) hn
      · have hrow := rr
        rw [e] at hrow
        have e' := e
        simp only [Value.slice.injEq] at e
        refine ⟨b, 0, e.1, .inl (by show (Value.slice N.r1 N.r2 N.r3).ownBlock = some b; rw [e']; rfl), fun i hi => ?_⟩
        have := O2_at R i hi
        rw [Nat.zero_add, hrow.cellAt (i * 2) (by omega), hrow.cellAt (i * 2 + 1) (by omega)]
        exact this
    · obtain ⟨b, e1, e2, h9⟩ := row_nine sr (by simp) hp
      refine ⟨b, 0, e1, .inr (.inl e2), fun i hi => ?_⟩
      have := h9 i (by simpa using hi)
      simpa using this
theorem TO.ti {w : World} {N : Nv} {t : Tn} {A : Nat → Prop} (h : TO w N t A) : TI w w.heap.size N t := h.tp.ti h.low
end Go.Proofs.YtpckbpimgoljoaaGreat
namespace Go.Proofs.YtpckbpimgoljoaaGreat
open Go.RowKit
set_option linter.unusedVariables false
set_option linter.unusedSimpArgs false
/-- the cells of a form -/
abbrev FV (N : Nv) (ev : Value) (n d : Int) : Array Value := #[.int .i64 N.k, .slice N.r1 N.r2 N.r3, .int .i64 N.a2, .slice N.s1 N.s2 N.s3, .int .i64 N.a4, .int .i64 N.a5, .bool N.a6, .int .i64 N.a7, .string N.a8, ev, .int .i64 n, .int .i64 d]
def FC (w : World) (f : Nat) (N : Nv) (ev : Value) (t : Tn) : Prop := w.heap[f]? = some (.cells (FV N ev ((capN t.nodes : Nat) : Int) ((t.depth : Nat) : Int)) 81 (0, 0))
/-- the node of a row; of a loop or a group -/
abbrev NK (k : Int) : Nv := ⟨k, none, 0, 0, 0, none, 0, 0, 0, 0, false, 0, ⟨#[]⟩⟩
abbrev NO (k mn mx : Int) (lz : Bool) (ix : Int) (nm : ByteArray) : Nv := ⟨k, none, 0, 0, 0, none, 0, 0, mn, mx, lz, ix, nm⟩
/-- the blocks of A, and those that are new -/
def New (A : Nat → Prop) (w w' : World) : Nat → Prop := fun b => A b ∨ w.heap.size ≤ b ∧ b < w'.heap.size
theorem New.more {A : Nat → Prop} {w w' v v' : World} {b : Nat} (h : New A v v' b) (h1 : w.heap.size ≤ v.heap.size) (h2 : v'.heap.size ≤ w'.heap.size) : New A w w' b := by
  rcases h with h | h
  · exact .inl h
  · exact .inr ⟨by omega, by omega⟩
theorem New.trans {A : Nat → Prop} {w v v' w' : World} {b : Nat} (h : New (New A w v) v' w' b) (h1 : v.heap.size ≤ w'.heap.size) (h2 : w.heap.size ≤ v'.heap.size) : New A w w' b := by
  rcases h with (h | h) | h
  · exact .inl h
  · exact .inr ⟨by omega, by omega⟩
  · exact .inr ⟨by omega, by omega⟩
theorem New.low {A : Nat → Prop} {w w' : World} (hA : ∀ b, A b → b < w.heap.size) (h1 : w.heap.size ≤ w'.heap.size) : ∀ b, New A w w' b → b < w'.heap.size := fun b h => by
  rcases h with h | h
  · have := hA b h; omega
  · omega
/-- a row of runs -/
def RV (w : World) (A : Nat → Prop) (ad : Option Addr) (fs : Nat → Nat) (l : List (Tn × Nat)) : Prop :=
  0 < l.length → ∃ b o, ad = some ⟨b, o, none⟩ ∧ A b ∧ ∀ i (hi : i < l.length), w.cell? ⟨b, o + i * 2, none⟩ = some (pt (fs i)) ∧ w.cell? ⟨b, o + i * 2 + 1, none⟩ = some (.int .i64 (l[i].2 : Int))
/-- a form lies in memory, in blocks of A -/
inductive FA (w : World) (A : Nat → Prop) : Nat → Tn → Prop
  | leaf {f : Nat} {N : Nv} {R : List (Int × Int)} (hf : A f) (hc : FC w f N (.func (.func 73) #[] #[]) (.mk N.k R N.a2 [] N.a4 N.a5 N.a6 N.a7 N.a8)) (ok : N.ok) (hr : N.r2 = R.length) (hR : RP w A N.r1 R) (hRk : ∀ x ∈ R, I64ok x.1 ∧ I64ok x.2) (h5 : R.length ≤ 5000) :
      FA w A f (.mk N.k R N.a2 [] N.a4 N.a5 N.a6 N.a7 N.a8)
  | over {f b g : Nat} {k mn mx ix : Int} {lz : Bool} {nm : ByteArray} {s : Tn} (hf : A f) (hc : FC w f (NO k mn mx lz ix nm) (.func (.func 72) #[] #[pt b]) (.mk k [] 0 [s] mn mx lz ix nm)) (ok : (NO k mn mx lz ix nm).ok) (hb : Bx w b 76 (pt g)) (hbB : A b) (hs : FA w A g s) :
      FA w A f (.mk k [] 0 [s] mn mx lz ix nm)
  | row {f b1 b2 : Nat} {k : Int} {ad : Option Addr} {c : Nat} {fs : Nat → Nat} {l : List (Tn × Nat)} (hf : A f) (hc : FC w f (NK k) (.func (.func 68) #[] #[pt b1, pt b2]) (rowT k l)) (hk : k = 4 ∨ k = 5) (h1 : Bx w b1 90 (.slice ad l.length c)) (h2 : Bx w b2 3 (.int .i64 k)) (hb1 : A b1) (hb2 : A b2)
      (hv : RV w A ad fs l) (ht : ∀ x ∈ l, 0 < x.2 ∧ x.2 ≤ 1000) (hl : l.length ≤ 200000) (hs : ∀ i (hi : i < l.length), FA w A (fs i) l[i].1) : FA w A f (rowT k l)
  | opt {f b1 b2 b3 g n : Nat} {lz : Bool} {y : Tn} (hf : A f) (hc : FC w f (NO 6 0 1 lz 0 ⟨#[]⟩) (.func (.func 98) #[] #[pt b1, pt b2, pt b3]) (optT y lz (n + 2))) (h1 : Bx w b1 76 (pt g)) (h2 : Bx w b2 3 (.int .i64 ((n + 2 : Nat) : Int))) (h3 : Bx w b3 4 (.bool lz)) (hb1 : A b1) (hb2 : A b2) (hb3 : A b3) (hn : n + 2 ≤ 1000) (hd : y.depth ≤ 1000000000) (hs : FA w A g y) : FA w A f (optT y lz (n + 2))
theorem FC.kept {w w' : World} {f : Nat} {N : Nv} {ev : Value} {t : Tn} (h : FC w f N ev t) (hk : w'.heap[f]? = w.heap[f]?) : FC w' f N ev t := hk.trans h
theorem RV.kept {w w' : World} {A A' : Nat → Prop} {ad : Option Addr} {fs : Nat → Nat} {l : List (Tn × Nat)} (h : RV w A ad fs l) (hk : ∀ b, A b → w'.heap[b]? = w.heap[b]?) (hA : ∀ b, A b → A' b) : RV w' A' ad fs l := fun hp => by
  obtain ⟨b, o, h1, h2, h3⟩ := h hp
  exact ⟨b, o, h1, hA b h2, fun i hi => ⟨(cell_eq (hk b h2) _).trans (h3 i hi).1, (cell_eq (hk b h2) _).trans (h3 i hi).2⟩⟩
theorem FA.kept {w w' : World} {A A' : Nat → Prop} {f : Nat} {t : Tn} (h : FA w A f t) (hk : ∀ b, A b → w'.heap[b]? = w.heap[b]?) (hA : ∀ b, A b → A' b) : FA w' A' f t := by
  induction h with
  | leaf hf hc ok hr hR hRk h5 => exact .leaf (hA _ hf) (hc.kept (hk _ hf)) ok hr (hR.kept hk hA) hRk h5
  | over hf hc ok hb hbB hs ih => exact .over (hA _ hf) (hc.kept (hk _ hf)) ok ((hk _ hbB).trans hb) (hA _ hbB) ih
  | row hf hc hkk h1 h2 hb1 hb2 hv ht hl hs ih => exact .row (hA _ hf) (hc.kept (hk _ hf)) hkk ((hk _ hb1).trans h1) ((hk _ hb2).trans h2) (hA _ hb1) (hA _ hb2) (hv.kept hk hA) ht hl ih
  | opt hf hc h1 h2 h3 hb1 hb2 hb3 hn hd hs ih => exact .opt (hA _ hf) (hc.kept (hk _ hf)) ((hk _ hb1).trans h1) ((hk _ hb2).trans h2) ((hk _ hb3).trans h3) (hA _ hb1) (hA _ hb2) (hA _ hb3) hn hd ih
theorem FA.up {w w' : World} {A A' : Nat → Prop} {f : Nat} {t : Tn} (h : FA w A f t) (hL : ∀ b, A b → b < w.heap.size) (hb : Below w.heap.size w w') (hA : ∀ b, A b → A' b) : FA w' A' f t := h.kept (fun b hA => hb.block b (hL b hA)) hA
/-- whatever form it is: where it lies, its kind, its numbers -/
theorem FA.cells {w : World} {A : Nat → Prop} {f : Nat} {t : Tn} (h : FA w A f t) : A f ∧ ∃ N ev, FC w f N ev t ∧ N.k = t.kind := by
  cases h with
  | leaf hf hc ok hr hR hRk h5 => exact ⟨hf, _, _, hc, rfl⟩
  | over hf hc ok hb hbB hs => exact ⟨hf, _, _, hc, rfl⟩
  | row hf hc hkk h1 h2 hb1 hb2 hv ht hl hs => exact ⟨hf, _, _, hc, rfl⟩
  | opt hf hc h1 h2 h3 hb1 hb2 hb3 hn hd hs => exact ⟨hf, _, _, hc, (optT_kind _ _ _).symm⟩
theorem FC.num {w : World} {f : Nat} {N : Nv} {ev : Value} {t : Tn} (h : FC w f N ev t) : w.cell? ⟨f, 0, none⟩ = some (.int .i64 N.k) ∧ w.cell? ⟨f, 9, none⟩ = some ev ∧ w.cell? ⟨f, 10, none⟩ = some (.int .i64 ((capN t.nodes : Nat) : Int)) ∧ w.cell? ⟨f, 11, none⟩ = some (.int .i64 ((t.depth : Nat) : Int)) :=
  ⟨Joins.cell_of_block h 0, Joins.cell_of_block h 9, Joins.cell_of_block h 10, Joins.cell_of_block h 11⟩
theorem atMost62 (n : Nat) (w : World) (hn : n ≤ 4611686018427387904) : Calls Tryz.prog 67 #[.int .i64 (n : Int)] w fun e w' => e = .returned (.int .i64 ((capN n : Nat) : Int)) ∧ w' = w := by
  have e : ((capN n : Nat) : Int) = min (n : Int) 200001 := by unfold capN; omega
  rw [e]
  go_enter Tryz.func67, Tryz.ntmps67
  go_wp2
  all_goals go_ret
  all_goals exact ⟨rfl, rfl⟩
set_option maxRecDepth 100000 in
set_option maxHeartbeats 4000000 in
theorem leaf48 (A : Nat → Prop) (N : Nv) (R : List (Int × Int)) (w : World) (ok : N.ok) (hr : N.r2 = R.length) (hA : ∀ b, A b → b < w.heap.size) (hR : RP w A N.r1 R) (hRk : ∀ x ∈ R, I64ok x.1 ∧ I64ok x.2) (h5 : R.length ≤ 5000) : Calls Tryz.prog 41 #[N.v] w fun e w' => ∃ f, e = .returned (pt f) ∧ FA w' (New A w w') f (.mk N.k R N.a2 [] N.a4 N.a5 N.a6 N.a7 N.a8) ∧ Below w.heap.size w w' := by
  have hb := below_two' w (.cells #[.int .i64 N.k, .slice N.r1 N.r2 N.r3, .int .i64 N.a2, .slice N.s1 N.s2 N.s3, .int .i64 N.a4, .int .i64 N.a5, .bool N.a6, .int .i64 N.a7, .string N.a8] 25) (.cells (FV N (.func (.func 73) #[] #[]) 1 1) 81)
  have hn := two_new w (.cells #[.int .i64 N.k, .slice N.r1 N.r2 N.r3, .int .i64 N.a2, .slice N.s1 N.s2 N.s3, .int .i64 N.a4, .int .i64 N.a5, .bool N.a6, .int .i64 N.a7, .string N.a8] 25) (FV N (.func (.func 73) #[] #[]) 1 1) 81
  have HB := hid hb
  have HN := hid hn
  have HOK := hid ok
  have HR := hid hR
  have HRL := hid hr
  have HAA := hid hA
  clear hb hn ok hR hr hA
  go_enter Tryz.func41, Tryz.ntmps41
  go_wp2
  all_goals go_ret
  all_goals refine ⟨w.heap.size + 1, rfl, ?_, HB.out⟩
  all_goals exact .leaf (.inr ⟨by omega, by simp⟩) HN.out HOK.out HRL.out (HR.out.kept (fun b hb => HB.out.block b (HAA.out b hb)) (fun b hb => .inl hb)) hRk h5
theorem ok_NO (k mn mx : Int) (lz : Bool) (ix : Int) (nm : ByteArray) (hk : I64ok k) (h1 : I64ok mn) (h2 : I64ok mx) (h3 : I64ok ix) (h4 : nm.size ≤ maxLen) : (NO k mn mx lz ix nm).ok :=
  ⟨hk, by constructor <;> simp, h1, h2, h3, h4, ⟨Nat.le_refl _, Nat.zero_le _⟩, ⟨Nat.le_refl _, Nat.zero_le _⟩⟩
theorem empty61 (A : Nat → Prop) (w : World) : Calls Tryz.prog 66 #[] w fun e w' => ∃ f, e = .returned (pt f) ∧ FA w' (New A w w') f emptyT ∧ Below w.heap.size w w' := by
  have HC := leaf48 (fun _ => False) (NK 1) [] w (ok_NO 1 0 0 false 0 ⟨#[]⟩ (by decide) (by decide) (by decide) (by decide) (Nat.zero_le _)) rfl (fun b h => h.elim) (fun h => absurd rfl h) (fun x hx => by cases hx) (by simp)
  go_enter Tryz.func66, Tryz.ntmps66
  go_wp2_with (first | (go_at_call 41; (with_reducible refine HC.mono ?_); rintro e w1 ⟨f, rfl, hf, hb⟩; have HF := hid hf; have HB := hid hb; clear hf hb HC))
  all_goals go_ret
  all_goals exact ⟨f, rfl, HF.out.kept (fun _ _ => rfl) (fun b hb => .inr (by rcases hb with h | h; exact h.elim; exact h)), HB.out⟩
set_option maxRecDepth 100000 in
set_option maxHeartbeats 4000000 in
theorem loop66 (mn mx : Int) (lz : Bool) (w : World) : Calls Tryz.prog 71 #[.int .i64 mn, .int .i64 mx, .bool lz] w fun e w' => e = .returned (NO 6 mn mx lz 0 ⟨#[]⟩).v ∧ Below w.heap.size w w' := by
  go_enter Tryz.func71, Tryz.ntmps71
  go_wp2
  all_goals refine bodyPost_ret (results_cell_row rfl _ _ w.heap.size 25 _ (0, 0) _ rfl (heap_alloc_new w _) Tryz.underlying25 rfl (by kernel_rfl)) rfl ⟨rfl, Joins.below_alloc1 w _⟩
theorem below_drew (w : World) : Below w.heap.size w w.drew := ⟨rfl, rfl, rfl, Nat.le_refl _, fun _ _ => rfl⟩
set_option maxRecDepth 100000 in
set_option maxHeartbeats 4000000 in
theorem over47 (A : Nat → Prop) (k mn mx : Int) (lz : Bool) (ix : Int) (nm : ByteArray) (g : Nat) (s : Tn) (w : World) (ok : (NO k mn mx lz ix nm).ok) (hA : ∀ b, A b → b < w.heap.size) (hg : FA w A g s) (hd : s.depth ≤ 4000000000) :
    Calls Tryz.prog 40 #[(NO k mn mx lz ix nm).v, pt g] w fun e w' => ∃ f, e = .returned (pt f) ∧ FA w' (New A w w') f (.mk k [] 0 [s] mn mx lz ix nm) ∧ Below w.heap.size w w' := by
  obtain ⟨hga, N0, ev, hc, hk0⟩ := hg.cells
  have hgl := hA g hga
  obtain ⟨c0, c9, c10, c11⟩ := hc.num
  have eN : capN (Tn.mk k [] 0 [s] mn mx lz ix nm).nodes = capN (1 + capN s.nodes) := by simp only [Tn.nodes, nodesL, capN]; omega
  have eD : (((Tn.mk k [] 0 [s] mn mx lz ix nm).depth : Nat) : Int) = 1 + (s.depth : Int) := by simp only [Tn.depth, depthL]; omega
  obtain ⟨m, hm⟩ : ∃ m, m = capN s.nodes := ⟨_, rfl⟩
  obtain ⟨d, hdd⟩ : ∃ d, d = s.depth := ⟨_, rfl⟩
  rw [← hm] at c10 eN
  rw [← hdd] at c11 eD hd
  have hm1 : m ≤ 200001 := by rw [hm]; unfold capN; omega
  have HC : ∀ W' : World, Calls Tryz.prog 67 #[.int .i64 (1 + (m : Int))] W' fun e w' => e = .returned (.int .i64 ((capN (1 + m) : Nat) : Int)) ∧ w' = W' := fun W' => by
    have := atMost62 (1 + m) W' (by omega)
    rwa [show ((1 + m : Nat) : Int) = 1 + (m : Int) by omega] at this
  have e1 : IntKind.i64.wrap (1 + (m : Int)) = 1 + (m : Int) := by simp [IntKind.wrap, IntKind.bits, IntKind.signed]; omega
  have e2 : IntKind.i64.wrap (1 + (d : Int)) = 1 + (d : Int) := by simp [IntKind.wrap, IntKind.bits, IntKind.signed]; omega
  obtain ⟨q, hq⟩ : ∃ q, q = capN (1 + m) := ⟨_, rfl⟩
  rw [← hq] at HC eN
  clear hq
  obtain ⟨W, hW⟩ : ∃ W, W = (w.alloc (.cells #[.int .i64 k, .slice none 0 0, .int .i64 0, .slice none 0 0, .int .i64 mn, .int .i64 mx, .bool lz, .int .i64 ix, .string nm] 25)).alloc (.cells #[pt g] 76) := ⟨_, rfl⟩
  have hbW : Below w.heap.size w W := by rw [hW]; exact below_two' w _ _
  have hB : Bx W (w.heap.size + 1) 76 (pt g) := by rw [hW]; exact two_new w _ _ _
  have hN : W.heap[w.heap.size]? = some (.cells #[.int .i64 k, .slice none 0 0, .int .i64 0, .slice none 0 0, .int .i64 mn, .int .i64 mx, .bool lz, .int .i64 ix, .string nm] 25 (0, 0)) := by rw [hW]; exact (heap_alloc_old _ _ (by simp)).trans (heap_alloc_new w _)
  have hsW : W.heap.size = w.heap.size + 2 := by rw [hW]; simp
  obtain ⟨z, hz⟩ : ∃ z, z = w.heap.size := ⟨_, rfl⟩
  have hS : ∀ w1, Below W.heap.size W w1 → w1.cell? ⟨w.heap.size, 0, none⟩ = some (.int .i64 k) ∧ w1.cell? ⟨w.heap.size, 1, none⟩ = some (.slice none 0 0) ∧ w1.cell? ⟨w.heap.size, 2, none⟩ = some (.int .i64 0) ∧ w1.cell? ⟨w.heap.size, 3, none⟩ = some (.slice none 0 0) ∧ w1.cell? ⟨w.heap.size, 4, none⟩ = some (.int .i64 mn) ∧ w1.cell? ⟨w.heap.size, 5, none⟩ = some (.int .i64 mx) ∧ w1.cell? ⟨w.heap.size, 6, none⟩ = some (.bool lz) ∧ w1.cell? ⟨w.heap.size, 7, none⟩ = some (.int .i64 ix) ∧ w1.cell? ⟨w.heap.size, 8, none⟩ = some (.string nm) ∧
      w1.cell? ⟨w.heap.size + 1, 0, none⟩ = some (pt g) ∧ w1.cell? ⟨g, 10, none⟩ = some (.int .i64 (m : Int)) ∧ w1.cell? ⟨g, 11, none⟩ = some (.int .i64 (d : Int)) := fun w1 h1 => by
    have hN1 := (h1.block w.heap.size (by omega)).trans hN
    have hB1 := (h1.block (w.heap.size + 1) (by omega)).trans hB
    have hg1 : w1.heap[g]? = w.heap[g]? := (h1.block g (by omega)).trans (hbW.block g hgl)
    obtain ⟨q0, q1, q2, q3, q4, q5, q6, q7, q8⟩ := nine' hN1
    exact ⟨q0, q1, q2, q3, q4, q5, q6, q7, q8, bx0 hB1, (cell_eq hg1 _).trans c10, (cell_eq hg1 _).trans c11⟩
  have HD := hid (below_drew W)
  have HSS := hid hS
  have HG := hid hg
  have HBW := hid hbW
  have HBB := hid hB
  have HOK := hid ok
  have HAA := hid hA
  have hzs : W.heap.size = w.heap.size + 2 := hsW
  have HZS := hid hzs
  have HEN := hid eN
  have HED := hid eD
  have HHD := hid hd
  clear hg hbW hB ok hsW hzs hA hS hN c0 c9 c10 c11 hc hk0 hm hdd eN eD hd
  go_enter Tryz.func40, Tryz.ntmps40
  go_wp2_with fail
  rw [← hW, ← hz]
  rw [← hz] at HSS
  have HW := hid hW
  have HZ := hid hz
  clear hW hz
  go_region_held2 (fun w1 => w1.cell? ⟨z, 0, none⟩ = some (.int .i64 k) ∧ w1.cell? ⟨z, 1, none⟩ = some (.slice none 0 0) ∧ w1.cell? ⟨z, 2, none⟩ = some (.int .i64 0) ∧ w1.cell? ⟨z, 3, none⟩ = some (.slice none 0 0) ∧ w1.cell? ⟨z, 4, none⟩ = some (.int .i64 mn) ∧ w1.cell? ⟨z, 5, none⟩ = some (.int .i64 mx) ∧ w1.cell? ⟨z, 6, none⟩ = some (.bool lz) ∧ w1.cell? ⟨z, 7, none⟩ = some (.int .i64 ix) ∧ w1.cell? ⟨z, 8, none⟩ = some (.string nm) ∧ w1.cell? ⟨z + 1, 0, none⟩ = some (pt g) ∧ w1.cell? ⟨g, 10, none⟩ = some (.int .i64 (m : Int)) ∧ w1.cell? ⟨g, 11, none⟩ = some (.int .i64 (d : Int)))
    (first | exact HSS.out _ HD.out | exact HSS.out _ (HD.out.alloc (Nat.le_refl _) _))
    (first | (go_at_call 67; (with_reducible refine (HC _).mono ?_); rintro e w1 ⟨rfl, hw1⟩; have hw2 := hw1.symm; clear hw1; subst hw2))
  all_goals
    go_wp2
    go_ret
    have hz := HZ.out
    have hs := HZS.out
    have hnew : Below w.heap.size w (W.alloc (.cells (FV (NO k mn mx lz ix nm) (.func (.func 72) #[] #[pt (z + 1)]) q (1 + d)) 81)).drew := (HBW.out.alloc (by omega) _).trans (Joins.below_le (below_drew _) (by simp; omega))
    have hsz : (W.alloc (.cells (FV (NO k mn mx lz ix nm) (.func (.func 72) #[] #[pt (z + 1)]) q (1 + d)) 81)).drew.heap.size = W.heap.size + 1 := by show (W.alloc _).heap.size = _; simp
    have hnn : (W.alloc (.cells (FV (NO k mn mx lz ix nm) (.func (.func 72) #[] #[pt (z + 1)]) q (1 + d)) 81)).drew.heap[W.heap.size]? = some (.cells (FV (NO k mn mx lz ix nm) (.func (.func 72) #[] #[pt (z + 1)]) q (1 + d)) 81 (0, 0)) := heap_alloc_new W _
    have hold : ∀ b, b < W.heap.size → (W.alloc (.cells (FV (NO k mn mx lz ix nm) (.func (.func 72) #[] #[pt (z + 1)]) q (1 + d)) 81)).drew.heap[b]? = W.heap[b]? := fun b hb => heap_alloc_old W _ hb
    generalize (W.alloc (.cells (FV (NO k mn mx lz ix nm) (.func (.func 72) #[] #[pt (z + 1)]) q (1 + d)) 81)).drew = U at hnew hsz hnn hold ⊢
    refine ⟨W.heap.size, rfl, ?_, hnew⟩
    refine .over (b := z + 1) (g := g) (.inr ⟨by omega, by omega⟩) ?_ HOK.out ((hold _ (by omega)).trans (by rw [hz]; exact HBB.out)) (.inr ⟨by omega, by omega⟩) ?_
    · unfold FC
      rw [HEN.out, HED.out]
      exact hnn
    · exact HG.out.kept (fun b hb => (hold b (by have := HAA.out b hb; omega)).trans (HBW.out.block b (HAA.out b hb))) (fun b hb => .inl hb)
end Go.Proofs.YtpckbpimgoljoaaGreat
