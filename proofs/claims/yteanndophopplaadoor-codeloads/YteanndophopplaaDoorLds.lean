/- PROVED: the law CodeLoads of layer 10 answers true for all bytes, every place and byte: Load answers as the document's Load does, also when it is asked again, and of the same list with one byte turned; what came out stays and is its owner's; and the arguments read afterwards as they read before.
   CONDITIONS: the form's own (each slice at most 2^47 - 4096 bytes); the variable code.words starts as the program's text lays it (the given card ties that); the card speaks of the pruned copy of the project that the seat holds. -/
import Derived.Test.YteanndophopplaaDoorHI
import Derived.Test.YteanndophopplaaDoorOO
import Derived.Test.YteanndophopplaaDoorQQ
import Derived.Test.YteanndophopplaaDoorCards
import Derived.Test.YteanndophopplaaDoorTie
import Derived.Test.YteanndophopplaaDoorLL
/- HELPERS: what the two Loads answer, in one form; what stays whatever becomes of one block. -/
namespace Go.Proofs.YteanndophopplaaDoor
open Go.RowKit Go.Lib
set_option linter.unusedVariables false
set_option linter.unusedSimpArgs false
/-- the program that bytes are loaded as, or the empty one -/
def lr (l : List Nat) : Pr3 := if 8388608 < l.length then ([], 0, 0) else match loadP C3 5000 20000 l with | none => ([], 0, 0) | some p => p
theorem lr_small (l : List Nat) : (lr l).1.length ≤ 20000 ∧ ∀ I ∈ (lr l).1, I.R.length ≤ 20000 := by
  unfold lr
  split
  · simp
  · cases h : loadP C3 5000 20000 l with
    | none => simp
    | some p =>
      obtain ⟨J, s, k⟩ := p
      obtain ⟨h1, _, _, _, _, h6⟩ := may_fit ((loadP_iff (by omega) (by omega) (by omega) l J s k).1 h).1
      refine ⟨h1, fun I hI => ?_⟩
      cases h6 I hI with
      | rune x R _ _ _ hR => have := (right_ok hR).1; show R.length ≤ 20000; omega
      | _ => simp
theorem GR.pi {w : World} {base n c : Nat} {a : Option Addr} {J : List In} {MS : List Iv} (h : GR w base (.slice a n c) MS J) : PI w w.heap.size a n J := by
  have hn : n = J.length := row_len h.row
  subst hn
  refine ⟨rfl, fun hp => ?_⟩
  obtain ⟨g, rfl⟩ := gr_blk h hp
  refine ⟨g, 0, fun j => MS.getD j default, rfl, (h.row.lt g rfl).2, fun i hi => ?_⟩
  have hi' : i < MS.length := by rw [h.lms]; exact hi
  have e : MS.getD i default = MS[i] := by simp [List.getD_eq_getElem?_getD, List.getElem?_eq_getElem hi']
  have hl := (h.lo i hi).im
  show I5 w g 0 i (MS.getD i default) ∧ IM w w.heap.size (MS.getD i default) J[i]
  exact ⟨by rw [e]; exact flat_at hi' rfl h.row h.lms, hl⟩
theorem PO.gr {w : World} {base : Nat} {z : Value} {J : List In} {MS : List Iv} (h : PO w base z J MS) : GR w base z MS J := by
  have e : ∀ j (hj : j < MS.length), MS.getD j default = MS[j] := fun j hj => by simp [List.getD_eq_getElem?_getD, List.getElem?_eq_getElem hj]
  refine ⟨h.len, h.row, fun j hj => ?_, fun j j' b hj hj' hne h1 => ?_⟩
  · have hj' : j < MS.length := by rw [h.len]; exact hj
    rw [e j hj']
    exact h.io j hj' hj
  · have g1 : j < MS.length := by rw [h.len]; exact hj
    have g2 : j' < MS.length := by rw [h.len]; exact hj'
    rw [e j g1] at h1
    rw [e j' g2]
    exact h.apart j j' g1 g2 hne b h1
/-- Load of any bytes, in one form -/
def LdU (l : List Nat) (W : World) (e : Ending) (w' : World) : Prop := Below W.heap.size W w' ∧ ∃ (a : Option Addr) (c : Nat) (MS : List Iv), e = .returned (.tuple #[pv a (lr l).1.length c (lr l).2.1 (lr l).2.2, .int .i64 (lc l)]) ∧ GR w' W.heap.size (.slice a (lr l).1.length c) MS (lr l).1
theorem loadU {w : World} {ad : Option Addr} {n c : Nat} {l : List Nat} (h : BA w w.heap.size ad l) (hn : n = l.length) (hcp : n ≤ c) (hcm : c ≤ 9223372036854775807) (hlt : ∀ x ∈ l, x < 256) : Calls Tryd.prog 19 #[.slice ad n c] w (LdU l w) := by
  refine (load19 h hn hcp hcm hlt).mono ?_
  rintro e w' ⟨hb, ⟨h1, rfl⟩ | ⟨h1, h2, rfl⟩ | ⟨h1, g, s, k, J, MS, h2, rfl, hpo⟩⟩
  · have e1 : lr l = ([], 0, 0) := by unfold lr; rw [if_pos h1]
    have e2 : lc l = 2 := by unfold lc; rw [if_pos h1]
    unfold LdU
    rw [e1, e2]
    exact ⟨hb, none, 0, [], rfl, GR.none _ _⟩
  · have e1 : lr l = ([], 0, 0) := by unfold lr; rw [if_neg (by omega), h2]
    have e2 : lc l = 101 := by unfold lc; rw [if_neg (by omega), if_pos h2]
    unfold LdU
    rw [e1, e2]
    exact ⟨hb, none, 0, [], rfl, GR.none _ _⟩
  · have e1 : lr l = (J, s, k) := by unfold lr; rw [if_neg (by omega), h2]
    have e2 : lc l = 0 := by unfold lc; rw [if_neg (by omega), if_neg (by rw [h2]; simp)]
    unfold LdU
    rw [e1, e2]
    exact ⟨hb, some ⟨g, 0, none⟩, J.length, MS, rfl, hpo.gr⟩
/-- the document's Load of any bytes, in one form -/
def LdD (l : List Nat) (W : World) (e : Ending) (w' : World) : Prop := Below W.heap.size W w' ∧ ∃ (a : Option Addr) (c : Nat), e = .returned (.tuple #[pv a (lr l).1.length c (lr l).2.1 (lr l).2.2, .int .i64 (lc l)]) ∧ PI w' w'.heap.size a (lr l).1.length (lr l).1
theorem loadDU {w : World} {ad : Option Addr} {n c : Nat} {l : List Nat} (h : BA w w.heap.size ad l) (hn : n = l.length) (hcp : n ≤ c) (hlt : ∀ x ∈ l, x < 256) : Calls Tryd.prog 18 #[.slice ad n c] w (LdD l w) := by
  have heq : loadP C5 L5 L5 l = loadP C3 5000 20000 l := loadP_eq (by omega) (by omega) (by decide) (by decide) (by omega) (by omega) l
  refine (load18 h hn hcp hlt).mono ?_
  have hnil : ∀ W : World, PI W W.heap.size none 0 [] := fun W => ⟨rfl, fun h => by omega⟩
  rintro e w' ⟨hb, ⟨h1, rfl⟩ | ⟨h1, h2, rfl⟩ | ⟨h1, a, n', c', s, k, J, h2, rfl, hpi⟩⟩
  · have e1 : lr l = ([], 0, 0) := by unfold lr; rw [if_pos h1]
    have e2 : lc l = 2 := by unfold lc; rw [if_pos h1]
    unfold LdD
    rw [e1, e2]
    exact ⟨hb, none, 0, rfl, hnil _⟩
  · rw [heq] at h2
    have e1 : lr l = ([], 0, 0) := by unfold lr; rw [if_neg (by omega), h2]
    have e2 : lc l = 101 := by unfold lc; rw [if_neg (by omega), if_pos h2]
    unfold LdD
    rw [e1, e2]
    exact ⟨hb, none, 0, rfl, hnil _⟩
  · rw [heq] at h2
    have e1 : lr l = (J, s, k) := by unfold lr; rw [if_neg (by omega), h2]
    have e2 : lc l = 0 := by unfold lc; rw [if_neg (by omega), if_neg (by rw [h2]; simp)]
    unfold LdD
    rw [e1, e2]
    obtain rfl : n' = J.length := hpi.len
    exact ⟨hb, a, c', rfl, hpi⟩
/-- what holds whatever becomes of one block -/
structure Keep (g : Nat) (X : World) (P : World → Prop) : Prop where
  all : ∀ X', Mo X X' g → P X'
theorem Keep.out {g : Nat} {X : World} {P : World → Prop} (h : Keep g X P) : P X := h.all X (Mo.refl _ _)
theorem Keep.mo {g : Nat} {X X' : World} {P : World → Prop} (h : Keep g X P) (hm : Mo X X' g) : Keep g X' P := ⟨fun X2 h2 => h.all X2 (hm.trans h2)⟩
theorem Keep.and {g : Nat} {X : World} {P Q : World → Prop} (h : Keep g X P) (h' : Keep g X Q) : Keep g X (fun V => P V ∧ Q V) := ⟨fun X2 h2 => ⟨h.all X2 h2, h'.all X2 h2⟩⟩
theorem keep_b3 {g : Nat} {X : World} {b : Nat} {v0 v1 v2 : Value} (h : B3 X b v0 v1 v2) (hn : b ≠ g) : Keep g X (fun V => B3 V b v0 v1 v2) := ⟨fun X2 h2 => (h2.block b (Array.getElem?_eq_some_iff.1 h).1 hn).trans h⟩
theorem keep_pi {g : Nat} {X : World} {B : Nat} {a : Option Addr} {n : Nat} {J : List In} (h : PI X B a n J) (hB : B ≤ g) (hX : B ≤ X.heap.size) : Keep g X (fun V => PI V V.heap.size a n J) :=
  ⟨fun X2 h2 => h.kept (h2.below hB hX) (by have := h2.size; omega)⟩
theorem keep_gr {g : Nat} {X : World} {base : Nat} {z : Value} {MS : List Iv} {J : List In} (h : GR X base z MS J) (hB : g < base) : Keep g X (fun V => GR V base z MS J) :=
  ⟨fun X2 h2 => h.kept (fun b hb hl _ => h2.block b hl (by omega))⟩
theorem keep_ba {g : Nat} {X : World} {B : Nat} {a : Option Addr} {l : List Nat} (h : BA X B a l) (hB : B ≤ g) (hX : B ≤ X.heap.size) : Keep g X (fun V => BA V V.heap.size a l) :=
  ⟨fun X2 h2 => h.kept (h2.below hB hX).block (by have := h2.size; omega)⟩
theorem makeB (c : Nat) (hc : c ≤ 281474976710656) (w : World) : (Instr.makeSlice 36 (.int .i64 0) (.int .i64 (c : Int))).run Tryd.prog w = .ok (.slice (some ⟨w.heap.size, 0, none⟩) 0 c) (w.alloc (.cells (madeCells (Value.int .u8 0).cells c) 5)) := by
  obtain ⟨i0, hi0, hz0, hz1, hz2⟩ := info_parts info5
  have h := run_make (P := Tryd.prog) w 36 5 i0 (.int .u8 0) Tryd.underlying36 hi0 hz0 .i64 .i64 0 c (by omega) (by omega) (by rw [hz2]; omega) (by omega)
  simp only [Int.toNat_natCast, Int.toNat_zero, hz1, Nat.mul_one] at h
  exact h
theorem made_rowB (c : Nat) (w : World) (hc : c ≤ maxLen) : (w.alloc (.cells (madeCells (Value.int .u8 0).cells c) 5)).ownsRow w.heap.size 5 1 (.slice (some ⟨w.heap.size, 0, none⟩) 0 c) 0 (U8 []) :=
  ⟨rfl, .inr ⟨w.heap.size, c, _, rfl, Nat.le_refl _, heap_alloc_new w _, Nat.zero_le _, hc, by rw [size_madeCells, Nat.mul_one], rfl⟩⟩
end Go.Proofs.YteanndophopplaaDoor
/- HELPERS: the law CodeLoads: the walk. -/
namespace Go.Proofs.YteanndophopplaaDoor
open Go.RowKit Go.Lib
set_option linter.unusedVariables false
set_option linter.unusedSimpArgs false
/-- the law on its way: one block of bytes of its own, and what stays -/
structure LS (w : World) (g : Nat) (cur : Array Value) (F : World → Prop) (X : World) : Prop where
  be : Below w.heap.size w X
  blk : X.heap[g]? = some (.cells cur 5 (0, 0))
  kp : Keep g X F
  lo : w.heap.size ≤ g
theorem LS.sz {w : World} {g : Nat} {cur : Array Value} {F : World → Prop} {X : World} (h : LS w g cur F X) : g < X.heap.size := (Array.getElem?_eq_some_iff.1 h.blk).1
theorem LS.step {w : World} {g : Nat} {cur : Array Value} {F : World → Prop} {X X' : World} (h : LS w g cur F X) (hb : Below X.heap.size X X') : LS w g cur F X' :=
  ⟨h.be.trans (Joins.below_le hb h.be.size), (hb.block g h.sz).trans h.blk, h.kp.mo (Mo.of_below hb), h.lo⟩
theorem LS.add {w : World} {g : Nat} {cur : Array Value} {F F' : World → Prop} {X : World} (h : LS w g cur F X) (hk : Keep g X F') : LS w g cur (fun V => F V ∧ F' V) X := ⟨h.be, h.blk, h.kp.and hk, h.lo⟩
theorem LS.set {w : World} {g : Nat} {cur : Array Value} {F : World → Prop} {X : World} (h : LS w g cur F X) (i : Nat) (v : Value) : LS w g (cur.setIfInBounds i v) F (X.setCell ⟨g, i, none⟩ v) :=
  ⟨h.be.setCell (by exact h.lo) _, Joins.block_setCell h.blk v, h.kp.mo (Mo.set _ _ _ _), h.lo⟩
theorem cur_BA {X : World} {g N B : Nat} {cur : Array Value} {F : List Nat} (hg : X.heap[g]? = some (.cells cur 5 (0, 0))) (ht : cur.toList.take N = U8 F) (hB : g < B) : BA X B (some ⟨g, 0, none⟩) F := by
  refine .inr ⟨g, 0, rfl, hB, fun j hj => ?_⟩
  have h1 := Joins.cell_of_block hg j
  have hl := congrArg List.length ht
  rw [List.length_take] at hl
  simp [U8] at hl
  have e : cur.toList[j]? = (U8 F)[j]? := by rw [← ht, List.getElem?_take_of_lt (by omega)]
  simp only [Array.getElem?_toList] at e
  rw [Nat.zero_add, h1, e]
  simp [U8, List.getElem?_eq_getElem hj]
theorem cur_take {cur : Array Value} {N M : Nat} {F : List Nat} (ht : cur.toList.take N = U8 F) (hM : M ≤ N) : cur.toList.take M = U8 (F.take M) := by
  have : (cur.toList.take N).take M = (U8 F).take M := by rw [ht]
  rw [List.take_take, Nat.min_eq_left hM] at this
  rw [this]
  simp [U8, List.map_take]
theorem cur_set {cur : Array Value} {N i T : Nat} {F : List Nat} (ht : cur.toList.take N = U8 F) : (cur.setIfInBounds i (.int .u8 (T : Int))).toList.take N = U8 (F.set i T) := by
  rw [Array.toList_setIfInBounds, List.take_set, ht]
  simp [U8, List.map_set]
/-- all bytes, one of them turned -/
def turn1 (l : List Nat) (A : Int) (T : Nat) : List Nat := if 0 < l.length ∧ 0 ≤ A then l.set (A.toNat % l.length) T else l
theorem turn1_len (l : List Nat) (A : Int) (T : Nat) : (turn1 l A T).length = l.length := by unfold turn1; split <;> simp
theorem turn1_lt {l : List Nat} {A : Int} {T : Nat} (h : ∀ x ∈ l, x < 256) (hT : T < 256) : ∀ x ∈ turn1 l A T, x < 256 := by
  unfold turn1
  split
  · intro x hx
    rcases List.mem_or_eq_of_mem_set hx with h1 | h1
    · exact h x h1
    · omega
  · exact h
/-- the blocks of one program -/
def BK1 (z : Value) (MS : List Iv) (n b : Nat) : Prop := z.ownBlock = some b ∨ ∃ j, j < n ∧ (MS.getD j default).rv.ownBlock = some b
theorem bk1_lo {w : World} {base n c b : Nat} {a : Option Addr} {MS : List Iv} {J : List In} (h : GR w base (.slice a n c) MS J) (hb : BK1 (.slice a n c) MS n b) : base ≤ b := by
  obtain rfl : n = J.length := row_len h.row
  rcases hb with hb | ⟨j, hj, hb⟩
  · exact (h.row.lt b hb).1
  · exact (h.low j b hj hb).1
theorem bk1_hi {w : World} {base n c b : Nat} {a : Option Addr} {MS : List Iv} {J : List In} (h : GR w base (.slice a n c) MS J) (hb : BK1 (.slice a n c) MS n b) : b < w.heap.size := by
  obtain rfl : n = J.length := row_len h.row
  rcases hb with hb | ⟨j, hj, hb⟩
  · exact (h.row.lt b hb).2
  · exact (h.low j b hj hb).2
theorem prs3 {w : World} {a0 a1 a2 : Option Addr} {n0 n1 n2 c0 c1 c2 : Nat} {M0 M1 M2 : List Iv} {l0 l1 l2 : List In} (h0 : GR w 0 (.slice a0 n0 c0) M0 l0) (h1 : GR w 0 (.slice a1 n1 c1) M1 l1) (h2 : GR w 0 (.slice a2 n2 c2) M2 l2) (s0 : n0 ≤ 20000) (s1 : n1 ≤ 20000) (s2 : n2 ≤ 20000)
    (r0 : ∀ I ∈ l0, I.R.length ≤ 20000) (r1 : ∀ I ∈ l1, I.R.length ≤ 20000) (r2 : ∀ I ∈ l2, I.R.length ≤ 20000) (d01 : ∀ b, BK1 (.slice a0 n0 c0) M0 n0 b → ¬ BK1 (.slice a1 n1 c1) M1 n1 b) (d02 : ∀ b, BK1 (.slice a0 n0 c0) M0 n0 b → ¬ BK1 (.slice a2 n2 c2) M2 n2 b) (d12 : ∀ b, BK1 (.slice a1 n1 c1) M1 n1 b → ¬ BK1 (.slice a2 n2 c2) M2 n2 b) :
    PrsN 3 w (fun i => if i = 0 then a0 else if i = 1 then a1 else a2) (fun i => if i = 0 then n0 else if i = 1 then n1 else n2) (fun i => if i = 0 then c0 else if i = 1 then c1 else c2) (fun i => if i = 0 then M0 else if i = 1 then M1 else M2) (fun i => if i = 0 then l0 else if i = 1 then l1 else l2) := by
  refine ⟨fun i hi => ?_, fun i hi => ?_, fun i hi => ?_, fun i j b hi hj hne h h' => ?_⟩
  · obtain rfl | rfl | rfl : i = 0 ∨ i = 1 ∨ i = 2 := by omega
    · exact h0
    · exact h1
    · exact h2
  · obtain rfl | rfl | rfl : i = 0 ∨ i = 1 ∨ i = 2 := by omega
    · exact s0
    · exact s1
    · exact s2
  · obtain rfl | rfl | rfl : i = 0 ∨ i = 1 ∨ i = 2 := by omega
    · exact r0
    · exact r1
    · exact r2
  · obtain rfl | rfl | rfl : i = 0 ∨ i = 1 ∨ i = 2 := by omega
    all_goals obtain rfl | rfl | rfl : j = 0 ∨ j = 1 ∨ j = 2 := by omega
    all_goals first
      | exact absurd rfl hne
      | exact d01 b h h'
      | exact d02 b h h'
      | exact d12 b h h'
      | exact d01 b h' h
      | exact d02 b h' h
      | exact d12 b h' h
theorem row_BA {w : World} {base n c : Nat} {a : Option Addr} {l : List Nat} (h : w.ownsRow base 5 1 (.slice a n c) n (U8 l)) (hn : n = l.length) : BA w w.heap.size a l := by
  by_cases h0 : 0 < n
  · obtain ⟨g, c', cur, e, h1, h2, h3, h4, h5, h6⟩ := own_addr h h0
    simp only [Value.slice.injEq] at e
    rw [e.1]
    exact cur_BA h2 h6 (Array.getElem?_eq_some_iff.1 h2).1
  · exact .inl (List.length_eq_zero_iff.1 (by omega))
theorem lit_BA (W : World) (x y : Nat) : BA (W.alloc (.cells #[.int .u8 (x : Int), .int .u8 (y : Int)] 5)) (W.heap.size + 1) (some ⟨W.heap.size, 0, none⟩) [x, y] := by
  refine .inr ⟨W.heap.size, 0, rfl, by omega, fun k hk => ?_⟩
  have h := Joins.cell_of_block (heap_alloc_new W (.cells #[.int .u8 (x : Int), .int .u8 (y : Int)] 5)) k
  rw [Nat.zero_add, h]
  match k, hk with
  | 0, _ => rfl
  | 1, _ => rfl
set_option maxRecDepth 100000 in
set_option maxHeartbeats 8000000 in
theorem loads5 {w : World} {ad : Option Addr} {n c : Nat} {l : List Nat} {A : Int} {T : Nat} (hG : Gw w) (h0 : 0 < w.heap.size) (hB : BA w w.heap.size ad l) (hn : n = l.length) (hcp : n ≤ c) (hnil : ad = none → c = 0) (hz : n ≤ 140737488355328) (hlt : ∀ x ∈ l, x < 256) (hT : T < 256) :
    Calls Tryd.prog 5 #[.slice ad n c, .int .i64 A, .int .u8 (T : Int)] w fun e w' => e = .returned (.bool true) ∧ Below w.heap.size w w' := by
  obtain ⟨⟨J, s, k⟩, hlr⟩ : ∃ p, p = lr l := ⟨_, rfl⟩
  obtain ⟨lcd, hlc⟩ : ∃ q, q = lc l := ⟨_, rfl⟩
  obtain ⟨N, hN⟩ : ∃ q, q = J.length := ⟨_, rfl⟩
  have C8 := awake8 hG h0
  have CD : ∀ (W : World), BA W W.heap.size ad l → Calls Tryd.prog 18 #[.slice ad n c] W fun e w' => Below W.heap.size W w' ∧ ∃ (a : Option Addr) (c : Nat), e = .returned (.tuple #[pv a N c s k, .int .i64 lcd]) ∧ PI w' w'.heap.size a N J := fun W hW => by
    have := loadDU hW hn hcp hlt
    unfold LdD at this
    rw [← hlr, ← hlc] at this
    rw [hN]
    exact this
  have CP : ∀ (W : World) (a : Option Addr) (c' : Nat), BA W W.heap.size a l → n ≤ c' → c' ≤ 9223372036854775807 → Calls Tryd.prog 19 #[.slice a n c'] W fun e w' => Below W.heap.size W w' ∧ ∃ (a : Option Addr) (c : Nat) (MS : List Iv), e = .returned (.tuple #[pv a N c s k, .int .i64 lcd]) ∧ GR w' W.heap.size (.slice a N c) MS J := fun W a c' hW h1 h2 => by
    have := loadU hW hn h1 h2 hlt
    unfold LdU at this
    rw [← hlr, ← hlc] at this
    rw [hN]
    exact this
  have hsm := lr_small l
  rw [← hlr] at hsm
  have HSM := hid hsm
  have hN2 : N ≤ 20000 := by rw [hN]; exact hsm.1
  have HN := hid hn
  have HNN := hid hN
  have HLT := hid hlt
  have HCD := hid CD
  have HCP := hid CP
  have HBA : Hid (∀ W, Below w.heap.size w W → BA W W.heap.size ad l) := fun W hW => hB.kept hW.block hW.size
  clear hG hB hn hlt hlr hlc CD CP hN hsm
  go_enter Tryd.func5, Tryd.ntmps5
  go_upto_region 2 with (go_at_call 8; (with_reducible refine C8.mono ?_); rintro e w1 ⟨rfl, hb1⟩; have HB1 := hid hb1; clear hb1 C8)
  have D18 := HCD.out w1 (HBA.out w1 HB1.out)
  go_upto_region 3 with (go_at_call 18; (with_reducible refine D18.mono ?_); rintro e w2 ⟨hb2, pa, pc, rfl, hpi⟩; have HB2 := hid (HB1.out.trans (Joins.below_le hb2 HB1.out.size)); have HPI := hid hpi; clear hb2 hpi D18)
  obtain ⟨P, hP⟩ : ∃ P, P = w2.heap.size := ⟨_, rfl⟩
  obtain ⟨w3, hw3⟩ : ∃ w3, w3 = w2.alloc (.cells #[.slice pa N pc, .int .i64 s, .int .i64 k] 24) := ⟨_, rfl⟩
  have HPB : Hid (B3 w3 P (.slice pa N pc) (.int .i64 s) (.int .i64 k)) := by rw [hw3, hP]; exact heap_alloc_new w2 _
  have HPI3 : Hid (PI w3 w2.heap.size pa N J) := by rw [hw3]; exact HPI.out.kept (Joins.below_alloc1 w2 _) (Nat.le_refl _)
  have HB3 : Hid (Below w.heap.size w w3) := by rw [hw3]; exact HB2.out.alloc HB2.out.size _
  have hs3 : w2.heap.size < w3.heap.size := by rw [hw3]; simp
  rw [← hw3, ← hP]
  have HPE := hid hP
  clear hw3 hP HPI
  have mk := makeB (n + 2) (by omega)
  rw [show ((n + 2 : Nat) : Int) = (n : Int) + 2 by omega] at mk
  have a1 : IntKind.i64.wrap ((n : Int) + 2) = (n : Int) + 2 := wrap_ok _ (by omega) (by omega)
  have HO4 := hid (made_rowB (n + 2) w3 (by unfold maxLen; omega))
  have HBA4 := hid (HBA.out (w3.alloc (.cells (madeCells (Value.int .u8 0).cells (n + 2)) 5)) (HB3.out.alloc HB3.out.size _))
  go_upto_region 4 with (first
    | (at_builtin; refine wpList_append_ba rfl (.tmp 36) (.tmp 37) rfl w3.heap.size (.slice (some ⟨w3.heap.size, 0, none⟩) 0 (n + 2)) 0 [] rfl HO4.out _ ad n c l rfl HBA4.out HN.out hnil (by omega) (by simp) ?_; intro v5 w5 ho5 hb5; rw [List.nil_append, Nat.zero_add] at ho5; obtain ⟨va, vc, rfl, hvc1, hvc2⟩ := row_shape ho5; have HO5 := hid (ho5.alloc (.cells #[.int .u8 77, .int .u8 78] 5)); have HB5 := hid hb5; have hs5 : w3.heap.size ≤ (w5.alloc (.cells #[.int .u8 77, .int .u8 78] 5)).heap.size := (by have := hb5.size; simp at this ⊢; omega); have HLB := hid (lit_BA w5 77 78); clear ho5 hb5 hvc1 hvc2)
    | (at_builtin; refine wpList_append_ba rfl (.tmp 38) (.tmp 39) rfl w3.heap.size (.slice va n vc) n l rfl HO5.out _ (some ⟨w5.heap.size, 0, none⟩) 2 2 [77, 78] rfl HLB.out rfl (by intro h; cases h) (by omega) hs5 ?_; intro v6 w6 ho6 hb6; obtain ⟨g, gc, cur, rfl, hg1, hg2, hg3, hg4, hg5, hg6⟩ := own_addr ho6 (by omega); have HG6 := hid (And.intro hg1 (And.intro hg2 hg6)); have HB6 := hid hb6; clear ho6 hb6 hg1 hg2 hg5 hg6))
  have hB36 : Below w3.heap.size w3 w6 := by
    have e4 : Below w3.heap.size w3 (w3.alloc (.cells (madeCells (Value.int .u8 0).cells (n + 2)) 5)) := Joins.below_alloc1 w3 _
    exact (e4.trans HB5.out).trans ((Joins.below_le (Joins.below_alloc1 w5 _) (Nat.le_trans (by simp) HB5.out.size)).trans HB6.out)
  have hB06 : Below w.heap.size w w6 := HB3.out.trans (Joins.below_le hB36 HB3.out.size)
  have hgP : P < g := by have := HG6.out.1; have := HPE.out; omega
  have HL0 : Hid (LS w g cur (fun V => (B3 V P (.slice pa N pc) (.int .i64 s) (.int .i64 k) ∧ PI V V.heap.size pa N J) ∧ BA V V.heap.size ad l) w6) :=
    ⟨hB06, HG6.out.2.1, ((keep_b3 ((hB36.block P (by have := HPE.out; omega)).trans HPB.out) (by omega)).and (keep_pi (HPI3.out.kept (Joins.below_le hB36 (by omega)) (Nat.le_refl _)) (by have := HG6.out.1; omega) (by have := hB36.size; omega))).and (keep_ba ((HBA.out w3 HB3.out).kept hB36.block (Nat.le_refl _)) HG6.out.1 hB36.size), by have := HG6.out.1; have := HB3.out.size; omega⟩
  have HCT : Hid (cur.toList.take (n + 2) = U8 (l ++ [77, 78])) := HG6.out.2.2
  have HCN : Hid (cur.toList.take n = U8 l) := by
    have := cur_take HCT.out (show n ≤ n + 2 by omega)
    rw [List.take_left' HN.out.symm] at this
    exact this
  clear HB5 HB6 HO4 HO5 HBA4 HLB HPB HPI3 HB3 HB2 HB1 mk hB36 hB06 hs3 hs5 HG6
  have g1 : (n : Int) ≤ (gc : Int) := by omega
  have g2 : (n : Int) ≤ (n : Int) + 2 := by omega
  go_upto_region 5 with fail
  have C19 := HCP.out w6 (some ⟨g, 0, none⟩) gc (cur_BA HL0.out.blk HCN.out HL0.out.sz) (by omega) hg4
  go_upto_region 6 with (go_at_call 19; (with_reducible refine C19.mono ?_); rintro e w7 ⟨hb7, aa, ac, AM, rfl, hga⟩; have HS7 := hid (HL0.out.step hb7); have HGA := hid hga; have HSa := hid hb7.size; have HAH := hid (fun b (hb : BK1 (.slice aa N ac) AM N b) => bk1_hi hga hb); clear hb7 hga C19)
  obtain ⟨A1, hA1⟩ : ∃ A1, A1 = w7.heap.size := ⟨_, rfl⟩
  obtain ⟨w8, hw8⟩ : ∃ w8, w8 = w7.alloc (.cells #[.slice aa N ac, .int .i64 s, .int .i64 k] 24) := ⟨_, rfl⟩
  have HL1 := hid ((HS7.out.step (show Below w7.heap.size w7 w8 by rw [hw8]; exact Joins.below_alloc1 w7 _)).add ((keep_b3 (show B3 w8 A1 (.slice aa N ac) (.int .i64 s) (.int .i64 k) by rw [hw8, hA1]; exact heap_alloc_new w7 _) (by have := HS7.out.sz; omega)).and (keep_gr (HGA.out.below (show Below w7.heap.size w7 w8 by rw [hw8]; exact Joins.below_alloc1 w7 _)) HL0.out.sz)))
  have HA8 := hid (show w8.heap.size = w7.heap.size + 1 by rw [hw8]; simp)
  rw [← hw8, ← hA1]
  have HA1 := hid hA1
  clear hw8 hA1 HGA HS7
  have C19 := HCP.out w8 (some ⟨g, 0, none⟩) gc (cur_BA HL1.out.blk HCN.out HL1.out.sz) (by omega) hg4
  go_upto_region 7 with (go_at_call 19; (with_reducible refine C19.mono ?_); rintro e w9 ⟨hb9, ca, cc, CM, rfl, hgc⟩; have HS9 := hid (HL1.out.step hb9); have HGC := hid hgc; have HSc := hid hb9.size; have HCH := hid (fun b (hb : BK1 (.slice ca N cc) CM N b) => bk1_hi hgc hb); clear hb9 hgc C19)
  obtain ⟨A2, hA2⟩ : ∃ A2, A2 = w9.heap.size := ⟨_, rfl⟩
  obtain ⟨w10, hw10⟩ : ∃ w10, w10 = w9.alloc (.cells #[.slice ca N cc, .int .i64 s, .int .i64 k] 24) := ⟨_, rfl⟩
  have HL2 := hid ((HS9.out.step (show Below w9.heap.size w9 w10 by rw [hw10]; exact Joins.below_alloc1 w9 _)).add ((keep_b3 (show B3 w10 A2 (.slice ca N cc) (.int .i64 s) (.int .i64 k) by rw [hw10, hA2]; exact heap_alloc_new w9 _) (by have := HS9.out.sz; omega)).and (keep_gr (HGC.out.below (show Below w9.heap.size w9 w10 by rw [hw10]; exact Joins.below_alloc1 w9 _)) HL1.out.sz)))
  have HC10 := hid (show w10.heap.size = w9.heap.size + 1 by rw [hw10]; simp)
  rw [← hw10, ← hA2]
  have HA2 := hid hA2
  clear hw10 hA2 HGC HS9
  have hF := HL2.out.kp.out
  obtain ⟨p0, p1, p2⟩ := three_cells hF.1.1.1.1
  obtain ⟨q0, q1, q2⟩ := three_cells hF.1.2.1
  obtain ⟨r0, r1, r2⟩ := three_cells hF.2.1
  have C12 := same11 (c := ac) (c' := pc) (s := s) (k := k) hF.1.2.2.pi hF.1.1.1.2 (by omega)
  clear hF
  go_upto_region 8 with (go_at_call 12; (with_reducible refine C12.mono ?_); rintro e w11 ⟨rfl, hb11⟩; have HX3 := hid hb11.size; have HL3 := hid (HL2.out.step hb11); clear hb11 C12)
  have hF := HL3.out.kp.out
  obtain ⟨p0, p1, p2⟩ := three_cells hF.1.1.1.1
  obtain ⟨q0, q1, q2⟩ := three_cells hF.1.2.1
  obtain ⟨r0, r1, r2⟩ := three_cells hF.2.1
  have C12 := same11 (c := cc) (c' := pc) (s := s) (k := k) hF.2.2.pi hF.1.1.1.2 (by omega)
  clear hF
  go_upto_region 9 with (go_at_call 12; (with_reducible refine C12.mono ?_); rintro e w12 ⟨rfl, hb12⟩; have HX4 := hid hb12.size; have HL4 := hid (HL3.out.step hb12); clear hb12 C12)
  have C20 := same20 (c := gc) (c' := c) (cur_BA HL4.out.blk HCN.out HL4.out.sz) (HL4.out.kp.out.1.1.2) HN.out HN.out (by omega) (by omega)
  simp only [decide_true] at C20
  go_upto_region 10 with (go_at_call 20; (with_reducible refine C20.mono ?_); rintro e w13 ⟨rfl, dm, rfl⟩; have HL5 := hid (HL4.out.step (below_drewN w12 dm)); clear C20)
  obtain ⟨X, hX⟩ : ∃ X, X = w12.drewN dm := ⟨_, rfl⟩
  rw [← hX] at HL5 ⊢
  have hcell : ∀ (j v : Nat), (l ++ [77, 78])[j]? = some v → X.cell? ⟨g, j, none⟩ = some (.int .u8 (v : Int)) := fun j v hj => by
    have h1 := Joins.cell_of_block HL5.out.blk j
    have hjl := (List.getElem?_eq_some_iff.1 hj).1
    rw [List.length_append, ← HN.out] at hjl
    have e : cur.toList[j]? = (U8 (l ++ [77, 78]))[j]? := by rw [← HCT.out, List.getElem?_take_of_lt (by simpa using hjl)]
    simp only [Array.getElem?_toList] at e
    rw [h1, e]
    show ((l ++ [77, 78]).map fun (x : Nat) => Value.int .u8 (x : Int))[j]? = _
    rw [List.getElem?_map, hj]
    rfl
  have z0 : X.cell? ⟨g, n, none⟩ = some (.int .u8 77) := hcell n 77 (by rw [HN.out]; simp)
  have z1 : X.cell? ⟨g, n + 1, none⟩ = some (.int .u8 78) := hcell (n + 1) 78 (by rw [HN.out]; simp)
  have a3 : IntKind.i64.wrap ((n : Int) + 1) = (n : Int) + 1 := wrap_ok _ (by omega) (by omega)
  have g3 : (n : Int) < (n : Int) + 2 := by omega
  have g4 : (n : Int) + 1 < (n : Int) + 2 := by omega
  have HXS : Hid (w10.heap.size ≤ X.heap.size) := by rw [hX]; exact Nat.le_trans HX3.out HX4.out
  clear hX hcell
  obtain ⟨l2, hl2⟩ : ∃ l2, l2 = turn1 l A T := ⟨_, rfl⟩
  obtain ⟨⟨J2, s2, k2⟩, hlr2⟩ : ∃ p, p = lr l2 := ⟨_, rfl⟩
  obtain ⟨lcd2, hlc2⟩ : ∃ q, q = lc l2 := ⟨_, rfl⟩
  obtain ⟨N2, hNN2⟩ : ∃ q, q = J2.length := ⟨_, rfl⟩
  have HN2 : Hid (n = l2.length) := by show _ = _; rw [hl2, turn1_len]; exact HN.out
  have hlt2 : ∀ x ∈ l2, x < 256 := by rw [hl2]; exact turn1_lt HLT.out hT
  have CD2 : ∀ (W : World) (a : Option Addr) (c' : Nat), BA W W.heap.size a l2 → n ≤ c' → c' ≤ 9223372036854775807 → Calls Tryd.prog 18 #[.slice a n c'] W fun e w' => Below W.heap.size W w' ∧ ∃ (a : Option Addr) (c : Nat), e = .returned (.tuple #[pv a N2 c s2 k2, .int .i64 lcd2]) ∧ PI w' w'.heap.size a N2 J2 := fun W a c' hW h1 h2 => by
    have := loadDU hW HN2.out h1 hlt2
    unfold LdD at this
    rw [← hlr2, ← hlc2] at this
    rw [hNN2]
    exact this
  have CP2 : ∀ (W : World) (a : Option Addr) (c' : Nat), BA W W.heap.size a l2 → n ≤ c' → c' ≤ 9223372036854775807 → Calls Tryd.prog 19 #[.slice a n c'] W fun e w' => Below W.heap.size W w' ∧ ∃ (a : Option Addr) (c : Nat) (MS : List Iv), e = .returned (.tuple #[pv a N2 c s2 k2, .int .i64 lcd2]) ∧ GR w' W.heap.size (.slice a N2 c) MS J2 := fun W a c' hW h1 h2 => by
    have := loadU hW HN2.out h1 h2 hlt2
    unfold LdU at this
    rw [← hlr2, ← hlc2] at this
    rw [hNN2]
    exact this
  have hsm2 := lr_small l2
  rw [← hlr2] at hsm2
  have HSM2 := hid hsm2
  have hN22 : N2 ≤ 20000 := by rw [hNN2]; exact hsm2.1
  have HCD2 := hid CD2
  have HCP2 := hid CP2
  have HL2E := hid hl2
  clear CD2 CP2 hlr2 hlc2 hNN2 hlt2 hsm2 hl2
  go_upto_region 12 with fail
  clear z0 z1 a3 g3 g4 q0 q1 q2 r0 r1 r2 p0 p1 p2
  have HX10 : Hid (w10.heap.size ≤ X.heap.size) := HXS.out
  by_cases hpos : 0 < n ∧ 0 ≤ A
  · obtain ⟨hn0, hA0⟩ := hpos
    obtain ⟨Ai, rfl⟩ : ∃ Ai : Nat, A = (Ai : Int) := ⟨A.toNat, by omega⟩
    have b1 : decide ((n : Int) > 0) = true := by simp; omega
    have b2 : (0 : Int) < (n : Int) := by omega
    have hAn : Ai % n < n := Nat.mod_lt _ hn0
    have m1 : 0 ≤ (Ai : Int) % (n : Int) ∧ (Ai : Int) % (n : Int) < (n : Int) := ⟨by omega, by exact_mod_cast hAn⟩
    have z1 : ∃ v, X.cell? ⟨g, Ai % n, none⟩ = some v := by
      have h1 := Joins.cell_of_block HL5.out.blk (Ai % n)
      have hsz : n ≤ cur.size := by have := congrArg List.length HCN.out; simp [U8, ← HN.out] at this; omega
      exact ⟨_, by rw [h1, Array.getElem?_eq_getElem (by omega)]⟩
    obtain ⟨zv, z1⟩ := z1
    have f1 := Joins.unfrozen_of_block HL5.out.blk (Ai % n)
    have HLt := hid (HL5.out.set (Ai % n) (.int .u8 (T : Int)))
    have HCN2 : Hid ((cur.setIfInBounds (Ai % n) (.int .u8 (T : Int))).toList.take n = U8 l2) := by
      show _ = _
      rw [cur_set HCN.out, HL2E.out]
      unfold turn1
      rw [if_pos ⟨by rw [← HN.out]; exact hn0, by omega⟩, ← HN.out]
      rfl
    have HX17 : Hid (w10.heap.size ≤ (X.setCell ⟨g, Ai % n, none⟩ (.int .u8 (T : Int))).heap.size) := by have := HX10.out; show _ ≤ _; simpa [World.setCell] using this
    go_upto_region 14 with fail
    have hF := HLt.out.kp.out
    obtain ⟨p0, p1, p2⟩ := three_cells hF.1.1.1.1
    obtain ⟨q0, q1, q2⟩ := three_cells hF.1.2.1
    have C12 := same11 (c := ac) (c' := pc) (s := s) (k := k) hF.1.2.2.pi hF.1.1.1.2 (by omega)
    clear hF
    go_upto_region 15 with (go_at_call 12; (with_reducible refine C12.mono ?_); rintro e w14 ⟨rfl, hb14⟩; have HZ14 := hid hb14.size; have HM1 := hid (HLt.out.step hb14); clear hb14 C12)
    have HBN := hid (cur_BA HM1.out.blk HCN2.out HM1.out.sz)
    clear p0 p1 p2 q0 q1 q2
    go_upto_region 17 with (at_builtin; refine wpList_append_ba rfl (.tmp 122) (.tmp 123) rfl w14.heap.size (.slice none 0 0) 0 [] rfl ⟨rfl, .inl ⟨rfl, rfl⟩⟩ w14.heap.size (some ⟨g, 0, none⟩) n gc l2 rfl HBN.out HN2.out (by intro h; cases h) (by omega) (Nat.le_refl _) ?_; intro v15 w15 ho15 hb15; rw [List.nil_append, Nat.zero_add] at ho15; obtain ⟨na, nc, rfl, hnc1, hnc2⟩ := row_shape ho15; have HRB := hid (row_BA ho15 HN2.out); have HZ15 := hid hb15.size; have HM2 := hid (HM1.out.step hb15); clear ho15 hb15)
    have D18 := HCD2.out w15 na nc HRB.out hnc1 (by unfold maxLen at hnc2; omega)
    clear HBN
    go_upto_region 18 with (go_at_call 18; (with_reducible refine D18.mono ?_); rintro e w16 ⟨hb16, qa, qc, rfl, hqi⟩; have HS16 := hid (HM2.out.step hb16); have HQI := hid hqi; have HZ16 := hid hb16.size; clear hb16 hqi D18)
    obtain ⟨Q, hQ⟩ : ∃ Q, Q = w16.heap.size := ⟨_, rfl⟩
    obtain ⟨w17, hw17⟩ : ∃ w17, w17 = w16.alloc (.cells #[.slice qa N2 qc, .int .i64 s2, .int .i64 k2] 24) := ⟨_, rfl⟩
    have hb17 : Below w16.heap.size w16 w17 := by rw [hw17]; exact Joins.below_alloc1 w16 _
    have HM3 := hid ((HS16.out.step hb17).add (keep_b3 (show B3 w17 Q (.slice qa N2 qc) (.int .i64 s2) (.int .i64 k2) by rw [hw17, hQ]; exact heap_alloc_new w16 _) (by have := HS16.out.sz; omega)))
    have HQ17 := hid (HQI.out.kept hb17 hb17.size)
    have HXW := hid (show w10.heap.size ≤ w17.heap.size by have := HX17.out; have := HZ14.out; have := HZ15.out; have := HZ16.out; have := hb17.size; omega)
    have HB17 := hid hb17
    rw [← hw17, ← hQ]
    have HQE := hid hQ
    clear hw17 hQ HS16 hb17 HQI
    have C19 := HCP2.out w17 (some ⟨g, 0, none⟩) gc (cur_BA HM3.out.blk HCN2.out HM3.out.sz) (by omega) hg4
    go_upto_region 19 with (go_at_call 19; (with_reducible refine C19.mono ?_); rintro e w18 ⟨hb18, da, dc, DM, rfl, hgd⟩; have HS18 := hid (HM3.out.step hb18); have HGD := hid hgd; have HQ18 := hid (HQ17.out.kept hb18 hb18.size); have HSd := hid hb18.size; clear hb18 hgd C19)
    obtain ⟨D, hD⟩ : ∃ D, D = w18.heap.size := ⟨_, rfl⟩
    obtain ⟨w19, hw19⟩ : ∃ w19, w19 = w18.alloc (.cells #[.slice da N2 dc, .int .i64 s2, .int .i64 k2] 24) := ⟨_, rfl⟩
    have hb19 : Below w18.heap.size w18 w19 := by rw [hw19]; exact Joins.below_alloc1 w18 _
    have HM4 := hid ((HS18.out.step hb19).add ((keep_b3 (show B3 w19 D (.slice da N2 dc) (.int .i64 s2) (.int .i64 k2) by rw [hw19, hD]; exact heap_alloc_new w18 _) (by have := HS18.out.sz; omega)).and (keep_gr (HGD.out.below hb19) HM3.out.sz)))
    have HQ19 := hid (HQ18.out.kept hb19 hb19.size)
    have HB19 := hid hb19
    have HD19 := hid (show w19.heap.size = w18.heap.size + 1 by rw [hw19]; simp)
    rw [← hw19, ← hD]
    have HDE := hid hD
    clear hw19 hD HS18 hb19 HQ17 HQ18
    have hF := HM4.out.kp.out
    obtain ⟨p0, p1, p2⟩ := three_cells hF.2.1
    obtain ⟨q0, q1, q2⟩ := three_cells hF.1.2
    have C12 := same11 (c := dc) (c' := qc) (s := s2) (k := k2) hF.2.2.pi HQ19.out (by omega)
    clear hF
    go_upto_region 20 with (go_at_call 12; (with_reducible refine C12.mono ?_); rintro e w20 ⟨rfl, hb20⟩; have HM5 := hid (HM4.out.step hb20); have HS20 := hid hb20.size; clear hb20 C12)
    have hF := HM5.out.kp.out
    obtain ⟨p0, p1, p2⟩ := three_cells hF.1.1.1.2.1
    obtain ⟨q0, q1, q2⟩ := three_cells hF.1.1.2.1
    obtain ⟨r0, r1, r2⟩ := three_cells hF.2.1
    obtain ⟨w21, hw21⟩ : ∃ w21, w21 = w20.alloc (.cells #[.slice aa N ac, .int .i64 s, .int .i64 k, .slice ca N cc, .int .i64 s, .int .i64 k, .slice da N2 dc, .int .i64 s2, .int .i64 k2] 24) := ⟨_, rfl⟩
    have hb21 : Below w20.heap.size w20 w21 := by rw [hw21]; exact Joins.below_alloc1 w20 _
    have hG21 : w21.heap[w20.heap.size]? = some (.cells #[.slice aa N ac, .int .i64 s, .int .i64 k, .slice ca N cc, .int .i64 s, .int .i64 k, .slice da N2 dc, .int .i64 s2, .int .i64 k2] 24 (0, 0)) := by rw [hw21]; exact heap_alloc_new w20 _
    have HM6 := hid (HM5.out.step hb21)
    have hF6 := HM6.out.kp.out
    have hga := hF6.1.1.1.2.2
    have hgc := hF6.1.1.2.2
    have hgd := hF6.2.2
    have ba : ∀ b, BK1 (.slice aa N ac) AM N b → w6.heap.size ≤ b ∧ b < w7.heap.size := fun b hb => ⟨bk1_lo hga hb, HAH.out b hb⟩
    have bc : ∀ b, BK1 (.slice ca N cc) CM N b → w8.heap.size ≤ b ∧ b < w9.heap.size := fun b hb => ⟨bk1_lo hgc hb, HCH.out b hb⟩
    have bd : ∀ b, BK1 (.slice da N2 dc) DM N2 b → w17.heap.size ≤ b := fun b hb => bk1_lo hgd hb
    have hord : w7.heap.size ≤ w8.heap.size ∧ w9.heap.size ≤ w17.heap.size := by have := HA8.out; have := HC10.out; have := HXW.out; omega
    have hPrs : PrsN 3 w21 (fun i => if i = 0 then aa else if i = 1 then ca else da) (fun i => if i = 0 then N else if i = 1 then N else N2) (fun i => if i = 0 then ac else if i = 1 then cc else dc) (fun i => if i = 0 then AM else if i = 1 then CM else DM) (fun i => if i = 0 then J else if i = 1 then J else J2) := by
      refine prs3 (hga.mono (Nat.zero_le _)) (hgc.mono (Nat.zero_le _)) (hgd.mono (Nat.zero_le _)) hN2 hN2 hN22 HSM.out.2 HSM.out.2 HSM2.out.2 ?_ ?_ ?_
      · intro b h1 h2; have := ba b h1; have := bc b h2; omega
      · intro b h1 h2; have := ba b h1; have := bd b h2; have := HSc.out; omega
      · intro b h1 h2; have := bc b h1; have := bd b h2; omega
    have C17 := own17N (np := 3) (g := w20.heap.size) (by omega) hPrs (fun i hi => by
      obtain rfl | rfl | rfl : i = 0 ∨ i = 1 ∨ i = 2 := by omega
      · exact Joins.cell_of_block hG21 0
      · exact Joins.cell_of_block hG21 3
      · exact Joins.cell_of_block hG21 6) ((Array.getElem?_eq_some_iff.1 hG21).1)
    have C17' : Calls Tryd.prog 17 #[.slice (some ⟨w20.heap.size, 0, none⟩) 3 3] w21 fun e w' => e = .returned (.bool true) ∧ Below w.heap.size w w' := C17.mono (by
      rintro e w' ⟨rfl, hc⟩
      refine ⟨rfl, hc.os.trans HM6.out.be.os, hc.tape.trans HM6.out.be.tape, hc.output.trans HM6.out.be.output, Nat.le_trans HM6.out.be.size hc.size, fun b hb => (hc.block b (by have := HM6.out.be.size; omega) ?_).trans (HM6.out.be.block b hb)⟩
      rintro ⟨i, hi, hbk⟩
      have hlo := HL0.out.be.size
      obtain rfl | rfl | rfl : i = 0 ∨ i = 1 ∨ i = 2 := by omega
      · have := ba b hbk; omega
      · have := bc b hbk; have := HA8.out; have := HSa.out; omega
      · have := bd b hbk; have := HXW.out; have := HC10.out; have := HSc.out; have := HA8.out; have := HSa.out; omega)
    rw [hw21] at C17'
    clear hF hF6 hga hgc hgd ba bc bd hord hPrs C17 hb21 hG21 hw21
    go_wp2_with (go_at_call 17; (with_reducible refine C17'.mono ?_); rintro e w22 ⟨rfl, hbF⟩; have HBF := hid hbF; clear hbF C17')
    all_goals go_ret
    all_goals exact ⟨rfl, HBF.out⟩
  · have HCN2 : Hid (cur.toList.take n = U8 l2) := by
      show _ = _
      rw [HCN.out, HL2E.out]
      unfold turn1
      rw [if_neg (by rw [← HN.out]; exact hpos)]
    have HLt := HL5
    have HX17 := HX10
    have b12 : (decide ((n : Int) > 0) = false ∧ ¬ (0 : Int) < (n : Int)) ∨ (decide ((n : Int) > 0) = true ∧ (0 : Int) < (n : Int) ∧ decide (A ≥ 0) = false ∧ ¬ 0 ≤ A) := by
      by_cases h1 : 0 < n
      · right
        have h2 : ¬ 0 ≤ A := fun h => hpos ⟨h1, h⟩
        refine ⟨by simp; omega, by omega, by simp; omega, h2⟩
      · left
        exact ⟨by simp; omega, by omega⟩
    rcases b12 with ⟨b1, b2⟩ | ⟨b1, b2, b3, b4⟩
    all_goals
      go_upto_region 14 with fail
      have hF := HLt.out.kp.out
      obtain ⟨p0, p1, p2⟩ := three_cells hF.1.1.1.1
      obtain ⟨q0, q1, q2⟩ := three_cells hF.1.2.1
      have C12 := same11 (c := ac) (c' := pc) (s := s) (k := k) hF.1.2.2.pi hF.1.1.1.2 (by omega)
      clear hF
      go_upto_region 15 with (go_at_call 12; (with_reducible refine C12.mono ?_); rintro e w14 ⟨rfl, hb14⟩; have HZ14 := hid hb14.size; have HM1 := hid (HLt.out.step hb14); clear hb14 C12)
      have HBN := hid (cur_BA HM1.out.blk HCN2.out HM1.out.sz)
      clear p0 p1 p2 q0 q1 q2
      go_upto_region 17 with (at_builtin; refine wpList_append_ba rfl (.tmp 122) (.tmp 123) rfl w14.heap.size (.slice none 0 0) 0 [] rfl ⟨rfl, .inl ⟨rfl, rfl⟩⟩ w14.heap.size (some ⟨g, 0, none⟩) n gc l2 rfl HBN.out HN2.out (by intro h; cases h) (by omega) (Nat.le_refl _) ?_; intro v15 w15 ho15 hb15; rw [List.nil_append, Nat.zero_add] at ho15; obtain ⟨na, nc, rfl, hnc1, hnc2⟩ := row_shape ho15; have HRB := hid (row_BA ho15 HN2.out); have HZ15 := hid hb15.size; have HM2 := hid (HM1.out.step hb15); clear ho15 hb15)
      have D18 := HCD2.out w15 na nc HRB.out hnc1 (by unfold maxLen at hnc2; omega)
      clear HBN
      go_upto_region 18 with (go_at_call 18; (with_reducible refine D18.mono ?_); rintro e w16 ⟨hb16, qa, qc, rfl, hqi⟩; have HS16 := hid (HM2.out.step hb16); have HQI := hid hqi; have HZ16 := hid hb16.size; clear hb16 hqi D18)
      obtain ⟨Q, hQ⟩ : ∃ Q, Q = w16.heap.size := ⟨_, rfl⟩
      obtain ⟨w17, hw17⟩ : ∃ w17, w17 = w16.alloc (.cells #[.slice qa N2 qc, .int .i64 s2, .int .i64 k2] 24) := ⟨_, rfl⟩
      have hb17 : Below w16.heap.size w16 w17 := by rw [hw17]; exact Joins.below_alloc1 w16 _
      have HM3 := hid ((HS16.out.step hb17).add (keep_b3 (show B3 w17 Q (.slice qa N2 qc) (.int .i64 s2) (.int .i64 k2) by rw [hw17, hQ]; exact heap_alloc_new w16 _) (by have := HS16.out.sz; omega)))
      have HQ17 := hid (HQI.out.kept hb17 hb17.size)
      have HXW := hid (show w10.heap.size ≤ w17.heap.size by have := HX17.out; have := HZ14.out; have := HZ15.out; have := HZ16.out; have := hb17.size; omega)
      have HB17 := hid hb17
      rw [← hw17, ← hQ]
      have HQE := hid hQ
      clear hw17 hQ HS16 hb17 HQI
      have C19 := HCP2.out w17 (some ⟨g, 0, none⟩) gc (cur_BA HM3.out.blk HCN2.out HM3.out.sz) (by omega) hg4
      go_upto_region 19 with (go_at_call 19; (with_reducible refine C19.mono ?_); rintro e w18 ⟨hb18, da, dc, DM, rfl, hgd⟩; have HS18 := hid (HM3.out.step hb18); have HGD := hid hgd; have HQ18 := hid (HQ17.out.kept hb18 hb18.size); have HSd := hid hb18.size; clear hb18 hgd C19)
      obtain ⟨D, hD⟩ : ∃ D, D = w18.heap.size := ⟨_, rfl⟩
      obtain ⟨w19, hw19⟩ : ∃ w19, w19 = w18.alloc (.cells #[.slice da N2 dc, .int .i64 s2, .int .i64 k2] 24) := ⟨_, rfl⟩
      have hb19 : Below w18.heap.size w18 w19 := by rw [hw19]; exact Joins.below_alloc1 w18 _
      have HM4 := hid ((HS18.out.step hb19).add ((keep_b3 (show B3 w19 D (.slice da N2 dc) (.int .i64 s2) (.int .i64 k2) by rw [hw19, hD]; exact heap_alloc_new w18 _) (by have := HS18.out.sz; omega)).and (keep_gr (HGD.out.below hb19) HM3.out.sz)))
      have HQ19 := hid (HQ18.out.kept hb19 hb19.size)
      have HB19 := hid hb19
      have HD19 := hid (show w19.heap.size = w18.heap.size + 1 by rw [hw19]; simp)
      rw [← hw19, ← hD]
      have HDE := hid hD
      clear hw19 hD HS18 hb19 HQ17 HQ18
      have hF := HM4.out.kp.out
      obtain ⟨p0, p1, p2⟩ := three_cells hF.2.1
      obtain ⟨q0, q1, q2⟩ := three_cells hF.1.2
      have C12 := same11 (c := dc) (c' := qc) (s := s2) (k := k2) hF.2.2.pi HQ19.out (by omega)
      clear hF
      go_upto_region 20 with (go_at_call 12; (with_reducible refine C12.mono ?_); rintro e w20 ⟨rfl, hb20⟩; have HM5 := hid (HM4.out.step hb20); have HS20 := hid hb20.size; clear hb20 C12)
      have hF := HM5.out.kp.out
      obtain ⟨p0, p1, p2⟩ := three_cells hF.1.1.1.2.1
      obtain ⟨q0, q1, q2⟩ := three_cells hF.1.1.2.1
      obtain ⟨r0, r1, r2⟩ := three_cells hF.2.1
      obtain ⟨w21, hw21⟩ : ∃ w21, w21 = w20.alloc (.cells #[.slice aa N ac, .int .i64 s, .int .i64 k, .slice ca N cc, .int .i64 s, .int .i64 k, .slice da N2 dc, .int .i64 s2, .int .i64 k2] 24) := ⟨_, rfl⟩
      have hb21 : Below w20.heap.size w20 w21 := by rw [hw21]; exact Joins.below_alloc1 w20 _
      have hG21 : w21.heap[w20.heap.size]? = some (.cells #[.slice aa N ac, .int .i64 s, .int .i64 k, .slice ca N cc, .int .i64 s, .int .i64 k, .slice da N2 dc, .int .i64 s2, .int .i64 k2] 24 (0, 0)) := by rw [hw21]; exact heap_alloc_new w20 _
      have HM6 := hid (HM5.out.step hb21)
      have hF6 := HM6.out.kp.out
      have hga := hF6.1.1.1.2.2
      have hgc := hF6.1.1.2.2
      have hgd := hF6.2.2
      have ba : ∀ b, BK1 (.slice aa N ac) AM N b → w6.heap.size ≤ b ∧ b < w7.heap.size := fun b hb => ⟨bk1_lo hga hb, HAH.out b hb⟩
      have bc : ∀ b, BK1 (.slice ca N cc) CM N b → w8.heap.size ≤ b ∧ b < w9.heap.size := fun b hb => ⟨bk1_lo hgc hb, HCH.out b hb⟩
      have bd : ∀ b, BK1 (.slice da N2 dc) DM N2 b → w17.heap.size ≤ b := fun b hb => bk1_lo hgd hb
      have hord : w7.heap.size ≤ w8.heap.size ∧ w9.heap.size ≤ w17.heap.size := by have := HA8.out; have := HC10.out; have := HXW.out; omega
      have hPrs : PrsN 3 w21 (fun i => if i = 0 then aa else if i = 1 then ca else da) (fun i => if i = 0 then N else if i = 1 then N else N2) (fun i => if i = 0 then ac else if i = 1 then cc else dc) (fun i => if i = 0 then AM else if i = 1 then CM else DM) (fun i => if i = 0 then J else if i = 1 then J else J2) := by
        refine prs3 (hga.mono (Nat.zero_le _)) (hgc.mono (Nat.zero_le _)) (hgd.mono (Nat.zero_le _)) hN2 hN2 hN22 HSM.out.2 HSM.out.2 HSM2.out.2 ?_ ?_ ?_
        · intro b h1 h2; have := ba b h1; have := bc b h2; omega
        · intro b h1 h2; have := ba b h1; have := bd b h2; have := HSc.out; omega
        · intro b h1 h2; have := bc b h1; have := bd b h2; omega
      have C17 := own17N (np := 3) (g := w20.heap.size) (by omega) hPrs (fun i hi => by
        obtain rfl | rfl | rfl : i = 0 ∨ i = 1 ∨ i = 2 := by omega
        · exact Joins.cell_of_block hG21 0
        · exact Joins.cell_of_block hG21 3
        · exact Joins.cell_of_block hG21 6) ((Array.getElem?_eq_some_iff.1 hG21).1)
      have C17' : Calls Tryd.prog 17 #[.slice (some ⟨w20.heap.size, 0, none⟩) 3 3] w21 fun e w' => e = .returned (.bool true) ∧ Below w.heap.size w w' := C17.mono (by
        rintro e w' ⟨rfl, hc⟩
        refine ⟨rfl, hc.os.trans HM6.out.be.os, hc.tape.trans HM6.out.be.tape, hc.output.trans HM6.out.be.output, Nat.le_trans HM6.out.be.size hc.size, fun b hb => (hc.block b (by have := HM6.out.be.size; omega) ?_).trans (HM6.out.be.block b hb)⟩
        rintro ⟨i, hi, hbk⟩
        have hlo := HL0.out.be.size
        obtain rfl | rfl | rfl : i = 0 ∨ i = 1 ∨ i = 2 := by omega
        · have := ba b hbk; omega
        · have := bc b hbk; have := HA8.out; have := HSa.out; omega
        · have := bd b hbk; have := HXW.out; have := HC10.out; have := HSc.out; have := HA8.out; have := HSa.out; omega)
      rw [hw21] at C17'
      clear hF hF6 hga hgc hgd ba bc bd hord hPrs C17 hb21 hG21 hw21
      go_wp2_with (go_at_call 17; (with_reducible refine C17'.mono ?_); rintro e w22 ⟨rfl, hbF⟩; have HBF := hid hbF; clear hbF C17')
      all_goals go_ret
      all_goals exact ⟨rfl, HBF.out⟩
end Go.Proofs.YteanndophopplaaDoor
namespace Go.Proofs.YteanndophopplaaDoor
open Go.ChangeShapes Go.WideShapes Go.ChangeAt Go.RowKit
set_option linter.unusedVariables false
set_option linter.unusedSimpArgs false
theorem ownG : ownKnob Tryd.prog.godebug = none := by kernel_rfl
set_option maxRecDepth 100000 in
theorem loadsContract (H : Type) (enc : TypeId × Value → H) (W : World) (base : Nat) (args : Array Value) (ds gs : List (DataW H)) (before : List MemPlace)
    (hval : ∀ (j : Nat) t v, Tryd.f5.params[j]? = some t → args[j]? = some v → Value.okWide Tryd.prog W .any base t v)
    (hW : DataW.Whole enc Tryd.prog Tryd.f5.params.toList Rows.codeLoadsSpec.vars false W args.toList ds gs before)
    (hsz0 : (DataW.weightsEach Tryd.prog (Tryd.f5.params.toList ++ Rows.codeLoadsSpec.plain.varTypes Tryd.prog) (ds ++ gs)).all (· ≤ reachBytes) = true)
    (hL : laidMetH Tryd.prog Rows.codeLoadsRow.laid W) :
    Calls Tryd.prog 5 args W fun e W' => ∃ v, e = .returned v ∧ Rows.codeLoadsSpec.post enc Tryd.prog Tryd.f5 false true false false W args v W' := by
  have hW' := hW
  obtain ⟨p, q, hA0, hV, rfl, hfz, hnd⟩ := hW
  have hA : DataW.TrodAll enc Tryd.prog W 0 (fun _ => true) true Tryd.f5.params.toList args.toList ds p := hA0
  have hsz : ∀ n ∈ DataW.weightsEach Tryd.prog (Tryd.f5.params.toList ++ Rows.codeLoadsSpec.plain.varTypes Tryd.prog) (ds ++ gs), n ≤ reachBytes := fun n hn => by simpa using List.all_eq_true.1 hsz0 n hn
  rw [Tryd.params5] at hA hval hsz
  obtain ⟨v0, vs0, d0, ds0, p0, q0, hargs, rfl, rfl, h0, r0⟩ := trodAll_cons hA
  obtain ⟨v1, vs1, d1, ds1, p1, q1, rfl, rfl, rfl, h1, r1⟩ := trodAll_cons r0
  obtain ⟨v2, vs2, d2, ds2, p2, q2, rfl, rfl, rfl, h2, r2⟩ := trodAll_cons r1
  obtain ⟨rfl, rfl, rfl⟩ := trodAll_nil r2
  obtain rfl : args = #[v0, v1, v2] := by cases args; simp_all
  obtain ⟨rfl, rfl⟩ := trodVars_none hV
  have hlt0 : ∀ x ∈ p0, x.block < W.heap.size := fun x hx => by have := hW'.lt x (by simp [hx]); simpa using this
  obtain ⟨zs, za, zn, zc, rfl, hzn, hzc, hzB, hnil, hZ, hzb⟩ := bytes_argW (hval 0 36 v0 rfl rfl) h0 (fun n hn => hsz n (DataW.weights_mem_each (j := 0) (by simp) (by simp) n hn))
  obtain ⟨A, rfl, rfl, rfl, hwA⟩ := open_int Tryd.underlying3 (hval 1 3 v1 rfl rfl) h1
  obtain ⟨T, rfl, rfl, rfl, hwT⟩ := open_int Tryd.underlying5 (hval 2 5 v2 rfl rfl) h2
  obtain ⟨hG, hpos⟩ := gw_of_laid hL
  obtain ⟨t, rfl⟩ : ∃ t : Nat, T = (t : Int) := ⟨T.toNat, by have := (bounds_u8 hwT).1; omega⟩
  refine (loads5 hG hpos hZ hzn hzc hnil hzB hzb (by have := (bounds_u8 hwT).2; omega)).mono fun e W' ⟨he, hb⟩ => ?_
  subst he
  exact ⟨_, rfl, _, _, _, [], p0 ++ ([] ++ ([] ++ [])), [], hW', trodAll_cons_mk (shut_bool Tryd.underlying4 _) trodAll_mk0,
    trodAll_cons_mk (Below.trod laidOut (by kernel_rfl) (of_decide_eq_true (by kernel_rfl)) h0 hb hlt0) (trodAll_cons_mk (shut_int Tryd.underlying3 hwA) (trodAll_cons_mk (shut_int Tryd.underlying5 hwT) trodAll_mk0)), rfl, hb.frame _, fun h => by cases h⟩
abbrev loadsArgs : Array Value := #[.slice none 0 0, .int .i64 0, .int .u8 0]
theorem loadsLaid (os : Os) : laidMet Tryd.prog Rows.codeLoadsRow.laid ((fixWorld (World.holding Tryd.prog os ⟨#[], #[], []⟩)).forCall (fun _ _ => 0) ⟨#[], loadsArgs, []⟩).memory :=
  laidMet_of_run' 8 (by kernel_rfl) (by kernel_rfl)
theorem loadsReads (os : Os) {H : Type} (enc : TypeId × Value → H) : ∃ places, DataW.whole enc Tryd.prog ((fixWorld (World.holding Tryd.prog os ⟨#[], #[], []⟩)).forCall (fun _ _ => 0) ⟨#[], loadsArgs, []⟩).memory Tryd.f5.params.toList Rows.codeLoadsSpec.vars false loadsArgs.toList 8 = some ([.nil, .lit (.int .i64 0), .lit (.int .u8 0)], [], places) :=
  ⟨[], by kernel_rfl⟩
set_option maxRecDepth 100000 in
theorem loadsLifted (os : Os) (started : os.Started) (H : Type) (enc : TypeId × Value → H) (F : Stop.Interp) :
    ReturnsInHanded {} Tryd.checked os 5 .any ((OpenSpec.ofChange Rows.codeLoadsSpec).preRow enc Tryd.prog Tryd.f5 Rows.codeLoadsRow.domain false Rows.codeLoadsRow.laid) (((OpenSpec.ofChange Rows.codeLoadsSpec).at F).post enc Tryd.prog Tryd.f5 false true false false) := by
  obtain ⟨places, hx⟩ := loadsReads os enc
  refine returnsInHanded_of_row (C := Tryd.checked) (s := OpenSpec.ofChange Rows.codeLoadsSpec) ownG started (by kernel_rfl) Tryd.func5
    (witness_row_at (enc := enc) (C := Tryd.checked) false (fixWorld (World.holding Tryd.prog os ⟨#[], #[], []⟩)) loadsArgs rfl (by kernel_rfl) (by kernel_rfl) (by kernel_rfl)
      (OpenSpec.preRow_of_cond 8 hx (by kernel_rfl) (fun k hk => by cases hk) (by kernel_rfl) (loadsLaid os))) ?_
  intro W base args ds gs before hval hW _ _ hsz hL _ _
  exact loadsContract H enc W base args ds gs before hval hW hsz hL
theorem loadsSaid : Rows.CodeLoadsSaid :=
  OpenClaim.holds_of_cond 5 Tryd.f5 rfl rfl rfl rfl rfl rfl rfl ⟨rfl, rfl, rfl, rfl, rfl⟩ rfl rfl rfl rfl rfl (by kernel_rfl) Tryd.func5 (by kernel_rfl)
    (of_decide_eq_true (by kernel_rfl)) (by unfold Func.isWrapper; first | (rw [if_pos (by decide +kernel)]; kernel_rfl) | (rw [if_neg (by decide +kernel)]; exact ⟨rfl, rfl⟩))
    (fun os started H enc _ F => by rw [OpenClaim.pre_eq_preRow]; exact loadsLifted os started H enc F)
theorem loadsPlain (f : FuncId) (fn : Func) (hf : Tryd.pinned.checked.prog.funcNamed Tryd.f5.name = some f) (hfn : Tryd.pinned.checked.prog.funcs[f]? = some fn) :
    true = Tryd.pinned.checked.prog.looks [] ∧ ∀ (j : Nat) t, fn.params[j]? = some t → Tryd.pinned.checked.prog.wantsStandIn t = false := by
  obtain rfl : f = 5 := Option.some.inj ((show Tryd.prog.funcNamed Tryd.f5.name = some 5 by kernel_rfl).symm.trans hf) |>.symm
  obtain rfl : fn = Tryd.f5 := (Option.some.inj (Tryd.func5.symm.trans hfn)).symm
  refine ⟨by kernel_rfl, fun j t ht => ?_⟩
  rw [Tryd.params5] at ht
  have hm : t = 36 ∨ t = 3 ∨ t = 5 := by
    rcases j with _ | _ | _ | j
    · exact .inl (by simpa using ht.symm)
    · exact .inr (.inl (by simpa using ht.symm))
    · exact .inr (.inr (by simpa using ht.symm))
    · simp at ht
  rcases hm with rfl | rfl | rfl
  · exact (show Tryd.prog.wantsStandIn 36 = false by kernel_rfl)
  · exact (show Tryd.prog.wantsStandIn 3 = false by kernel_rfl)
  · exact (show Tryd.prog.wantsStandIn 5 = false by kernel_rfl)
theorem codeLoads_holds : Rows.CodeLoadsCardSaid :=
  Claim7.holds_tied_plain_at .later [] _ _ _ _ loadsSaid (fun _ h => by cases h) (by kernel_rfl) (fun _ h => by cases h) codeLoads_row_tie rfl ⟨rfl, rfl⟩ (by kernel_rfl) rfl loadsPlain (by kernel_rfl)
end Go.Proofs.YteanndophopplaaDoor
