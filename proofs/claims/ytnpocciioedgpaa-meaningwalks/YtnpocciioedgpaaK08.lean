/- HELPERS: Xi, Al, Xe, Xm, Xp, Uc, Xq, Xn, Rl, Rm, Rn. -/
import Derived.Test.YtnpocciioedgpaaK07
import Derived.Deep.CutBlock
import Derived.Deep.CutRange
/- HELPERS: a region that draws its order: what only reads is taken first, in an order that is given, where the rest keeps what it reads, but for the last operation, which waits for all. -/
namespace Go.Proofs.Ytnpocciioedgpaa
open Go Go.RowKit
set_option linter.unusedVariables false
section
variable {P : Program} {ops : Array Oper} {Q : Exit → Act → World → Prop} {md : Region.Mode} {S : World → Prop} {L : Nat}
def lexK (md : Region.Mode) (ops : Array Oper) (L : Nat) : List Nat → Array Bool → Bool
  | [], _ => true
  | k :: ks, listed => (Region.ready md ops listed).contains k && Region.free md ops listed k && Region.waitsFor md ops L k && lexK md ops L ks (listed.setIfInBounds k true)
def marksK : List Nat → Array Bool → Array Bool
  | [], listed => listed
  | k :: ks, listed => marksK ks (listed.setIfInBounds k true)
def seqK (md : Region.Mode) (ops : Array Oper) : List Nat → Array Bool → Bool
  | [], listed => (Region.ready md ops listed).isEmpty
  | k :: ks, listed => decide (Region.ready md ops listed = [k]) && seqK md ops ks (listed.setIfInBounds k true)
def opsAt (ops : Array Oper) : List Nat → List Oper
  | [] => []
  | k :: ks => match ops[k]? with | some o => o :: opsAt ops ks | none => opsAt ops ks
def opsNo (ops : Array Oper) : List Nat → List (Nat × Oper)
  | [] => []
  | k :: ks => match ops[k]? with | some o => (k, o) :: opsNo ops ks | none => opsNo ops ks
theorem wpAnyX_lexK {g : Nat} {w : World} (hsel : Region.noSelect ops = true) (hS : S w) :
    ∀ (ks : List Nat) (listed : Array Bool) (a : Act), lexK md ops L ks listed = true →
    wpLex P ops Q S (fun a' => wpAnyX P md ops Q S L g (marksK ks listed) a' w) (opsAt ops ks) a → wpAnyX P md ops Q S L (ks.length + g) listed a w
  | [], listed, a, _, h => by simpa [marksK, opsAt, wpLex] using h
  | k :: ks, listed, a, hB, h => by
    simp only [lexK, Bool.and_eq_true] at hB
    obtain ⟨⟨⟨hr, hf⟩, hL⟩, hB'⟩ := hB
    have hr' : k ∈ Region.ready md ops listed := by simpa using hr
    obtain ⟨_, o, h0, _⟩ := mem_ready.1 hr'
    simp only [opsAt, h0] at h
    obtain ⟨v, hy, hQ, hK⟩ := h
    rw [show (k :: ks).length + g = (ks.length + g) + 1 by simp only [List.length_cons]; omega]
    exact wpAnyX_first h0 (Region.noSelect_spec hsel) hQ hL (ks.length + g) listed a w (Region.free_spec h0 hf) hr' hy hS
      (wpAnyX_lexK hsel hS ks _ _ hB' hK)
/-- the tail: one operation behind the other -/
def wpTailK (P : Program) (ops : Array Oper) (Q : Exit → Act → World → Prop) (S : World → Prop) (L : Nat) : List (Nat × Oper) → Act → World → Prop
  | [], a, w => Q .normal a w
  | (k, o) :: l, a, w => ∀ K : Act → World → Prop, Hid (∀ a' w', (k ≠ L → S w') → wpTailK P ops Q S L l a' w' → K a' w') → if Region.wanted o (yielded ops a.tmps) = true then Oper.wp P o a w K Q else K (a.put o.dst undef) w
theorem tailK_cons {o : Oper} {l : List (Nat × Oper)} {k : Nat} {a : Act} {w : World} (h : ∀ K : Act → World → Prop, Hid (∀ a' w', (k ≠ L → S w') → wpTailK P ops Q S L l a' w' → K a' w') → if Region.wanted o (yielded ops a.tmps) = true then Oper.wp P o a w K Q else K (a.put o.dst undef) w) : wpTailK P ops Q S L ((k, o) :: l) a w := h
theorem tailK_nil {a : Act} {w : World} (h : Q .normal a w) : wpTailK P ops Q S L [] a w := h
theorem wpAnyX_of_tailK : ∀ (js : List Nat) (listed : Array Bool) (a : Act) (w : World),
    seqK md ops js listed = true → wpTailK P ops Q S L (opsNo ops js) a w → wpAnyX P md ops Q S L js.length listed a w
  | [], _, _, _, hB, h => ⟨by simpa [seqK] using hB, h⟩
  | k :: js, listed, a, w, hB, h => by
    simp only [seqK, Bool.and_eq_true, decide_eq_true_eq] at hB
    have hr : k ∈ Region.ready md ops listed := by rw [hB.1]; simp
    obtain ⟨_, o, h0, _⟩ := mem_ready.1 hr
    simp only [opsNo, h0] at h
    refine ⟨fun h1 => absurd (hB.1.symm.trans h1) (by simp), fun j hj => ?_⟩
    rw [hB.1] at hj
    have : j = k := by simpa using hj
    subst this
    have h1 := h (fun a' w' => (j ≠ L → S w') ∧ wpAnyX P md ops Q S L js.length (listed.setIfInBounds j true) a' w') ((fun a' w' h1 h2 => ⟨h1, wpAnyX_of_tailK js _ a' w' hB.2 h2⟩))
    unfold wpOp
    simp only [h0]
    split
    · rename_i hw; rw [if_pos hw] at h1; exact .inl h1
    · rename_i hw; rw [if_neg hw] at h1; exact h1
theorem wp_region_lexK {id : Nat} {a : Act} {w : World} (ks js : List Nat) (L : Nat) (S : World → Prop) (hm : P.follows .mixedOrders = true) (hsel : Region.noSelect ops = true) (hn : ks.length + js.length = ops.size) (hB : lexK .any ops L ks (Array.replicate ops.size false) = true)
    (hT : seqK .any ops js (marksK ks (Array.replicate ops.size false)) = true) (hS : S w.drew)
    (h : wpLex P ops Q S (fun a' => wpTailK P ops Q S L (opsNo ops js) a' w.drew) (opsAt ops ks) a) : (Code.region id ops true).wp P Q a w := by
  have hlex : ∀ (l' : List Oper) (a : Act), wpLex P ops Q S (fun a' => wpTailK P ops Q S L (opsNo ops js) a' w.drew) l' a → wpLex P ops Q S (fun a' => wpAnyX P .any ops Q S L js.length (marksK ks (Array.replicate ops.size false)) a' w.drew) l' a := by
    intro l'
    induction l' with
    | nil => intro a h; exact wpAnyX_of_tailK (md := .any) js _ a w.drew hT h
    | cons o l' ih => rintro a ⟨v, h1, h2, h3⟩; exact ⟨v, h1, h2, ih _ h3⟩
  have H := wpAnyX_lexK (md := .any) (L := L) (Q := Q) (g := js.length) (P := P) (w := w.drew) hsel hS ks (Array.replicate ops.size false) a hB (hlex _ _ h)
  rw [hn] at H
  exact wp_region_any hm (by simpa using wpAny_of_X _ _ _ _ H)
end
end Go.Proofs.Ytnpocciioedgpaa
/- HELPERS: rows of bools: which places the parses end at; are two rows alike? -/
namespace Go.Proofs.Ytnpocciioedgpaa
open Go.RowKit
set_option linter.unusedVariables false
set_option linter.unusedSimpArgs false
/-- a row of bools in memory -/
def BR (w : World) (b n : Nat) (f : Nat → Bool) : Prop := ∃ arr : Array Value, w.heap[b]? = some (.cells arr 4 (0, 0)) ∧ arr.size = n ∧ ∀ i, i < n → arr[i]? = some (.bool (f i))
theorem BR.cell {w : World} {b n : Nat} {f : Nat → Bool} (h : BR w b n f) {i : Nat} (hi : i < n) : w.cell? ⟨b, i, none⟩ = some (.bool (f i)) := by
  obtain ⟨arr, h1, h2, h3⟩ := h
  rw [Joins.cell_of_block h1 i]
  exact h3 i hi
theorem BR.free {w : World} {b n : Nat} {f : Nat → Bool} (h : BR w b n f) (i : Nat) : w.frozen? ⟨b, i, none⟩ = false := by
  obtain ⟨arr, h1, h2, h3⟩ := h
  exact Joins.unfrozen_of_block h1 i
theorem BR.kept {w w' : World} {b n : Nat} {f : Nat → Bool} (h : BR w b n f) (hk : w'.heap[b]? = w.heap[b]?) : BR w' b n f := by
  obtain ⟨arr, h1, h2, h3⟩ := h
  exact ⟨arr, hk.trans h1, h2, h3⟩
theorem BR.as {w : World} {b n : Nat} {f g : Nat → Bool} (h : BR w b n f) (he : ∀ i, i < n → f i = g i) : BR w b n g := by
  obtain ⟨arr, h1, h2, h3⟩ := h
  exact ⟨arr, h1, h2, fun i hi => by rw [← he i hi]; exact h3 i hi⟩
theorem BR.lt {w : World} {b n : Nat} {f : Nat → Bool} (h : BR w b n f) : b < w.heap.size := by
  obtain ⟨arr, h1, h2, h3⟩ := h
  exact (Array.getElem?_eq_some_iff.1 h1).1
theorem BR.set {w : World} {b n : Nat} {f : Nat → Bool} (h : BR w b n f) (i : Nat) (x : Bool) : BR (w.setCell ⟨b, i, none⟩ (.bool x)) b n (fun j => if j = i then x else f j) := by
  obtain ⟨arr, h1, h2, h3⟩ := h
  refine ⟨arr.setIfInBounds i (.bool x), Joins.block_setCell (i := i) h1 _, by simp [h2], fun j hj => ?_⟩
  by_cases e : j = i
  · subst e; simp [h2, hj]
  · rw [Array.getElem?_setIfInBounds_ne (by omega)]; simp [e]; exact h3 j hj
theorem info4 : (Try.prog.info? 4).map (fun i => (i.zero, i.size, i.bytes)) = some (some (.bool false), 1, 1) := by kernel_rfl
theorem makeB (c : Nat) (hc : c ≤ 10000) (w : World) : (Instr.makeSlice 47 (.int .i64 (c : Int)) (.int .i64 (c : Int))).run Try.prog w = .ok (.slice (some ⟨w.heap.size, 0, none⟩) c c) (w.alloc (.cells (madeCells #[.bool false] c) 4)) :=
  run_make_row' (P := Try.prog) 47 4 (.bool false) 1 Try.underlying47 info4 rfl .i64 .i64 c (by omega) (by omega) w
theorem BR.made (w : World) (c : Nat) : BR (w.alloc (.cells (madeCells #[.bool false] c) 4)) w.heap.size c (fun _ => false) :=
  ⟨_, heap_alloc_new w _, by simp [madeCells], fun i hi => by simp [madeCells, hi, Nat.mod_one]⟩
/-- the ends of parses in memory -/
theorem PR.ends {N : Nat} {w : World} {cs : List Value} {l : List (Int × List Int)} {F : List Nat} (h : PR N w cs l F) : ∀ (i : Nat) (hi : i < l.length), cs[i * 2]? = some (.int .i64 l[i].1) := by
  induction h with
  | nil => intro i hi; simp at hi
  | cons h hl ih =>
    intro i hi
    cases i with
    | zero => simp
    | succ i =>
      have := ih i (by simpa using hi)
      rw [show (i + 1) * 2 = i * 2 + 1 + 1 by omega]
      simpa using this
theorem Parsed.ends {N : Nat} {w : World} {pv : Value} {l : List (Int × List Int)} (h : Parsed N w pv l) : (pv = .slice none 0 0 ∧ l = []) ∨ ∃ b cap, pv = .slice (some ⟨b, 0, none⟩) l.length cap ∧ b < w.heap.size ∧ N ≤ b ∧ ∀ i (hi : i < l.length), w.cell? ⟨b, i * 2, none⟩ = some (.int .i64 l[i].1) := by
  obtain ⟨cs, F, h1, h2⟩ := h
  rcases Joins.ownsRow_forms h1 with ⟨e, h0⟩ | ⟨b, cap, e⟩
  · exact .inl ⟨e, List.length_eq_zero_iff.1 h0⟩
  · have hlt := h1.lt b (by rw [e]; rfl)
    rw [e] at h1
    refine .inr ⟨b, cap, e, hlt.2, hlt.1, fun i hi => ?_⟩
    have hl : cs.length = l.length * 2 := h1.1
    rw [h1.cellAt (i * 2) (by omega), h2.ends i hi]
set_option maxRecDepth 100000 in
set_option maxHeartbeats 4000000 in
theorem ends22 (N : Nat) (pv : Value) (l : List (Int × List Int)) (n : Nat) (hn : n ≤ 64) (hl : l.length ≤ 65) (w : World) (hP : Parsed N w pv l) :
    Calls Try.prog 22 #[pv, .int .i64 (n : Int)] w fun e w' => e = .returned (.slice (some ⟨w.heap.size, 0, none⟩) (n + 1) (n + 1)) ∧ BR w' w.heap.size (n + 1) (fun q => decide ((q : Int) ∈ l.map Prod.fst)) ∧ Below w.heap.size w w' := by
  obtain ⟨pa, pc, rfl, hE⟩ : ∃ pa pc, pv = .slice pa l.length pc ∧ (0 < l.length → ∃ b, pa = some ⟨b, 0, none⟩ ∧ b < w.heap.size ∧ ∀ i (hi : i < l.length), w.cell? ⟨b, i * 2, none⟩ = some (.int .i64 l[i].1)) := by
    rcases hP.ends with ⟨rfl, rfl⟩ | ⟨b, cap, rfl, h1, _, h2⟩
    · exact ⟨none, 0, rfl, fun h => by simp at h⟩
    · exact ⟨_, cap, rfl, fun _ => ⟨b, rfl, h1, h2⟩⟩
  clear hP
  obtain ⟨m, hm⟩ : ∃ m, m = l.length := ⟨_, rfl⟩
  rw [← hm]
  have hmk := makeB (n + 1) (by omega) w
  rw [show ((n + 1 : Nat) : Int) = (n : Int) + 1 by push_cast; rfl] at hmk
  have ad : IntKind.i64.wrap ((n : Int) + 1) = (n : Int) + 1 := by simp [IntKind.wrap, IntKind.bits, IntKind.signed]; omega
  have h0 := BR.made w (n + 1)
  have hB0 := Joins.below_alloc1 w (.cells (madeCells #[.bool false] (n + 1)) 4)
  obtain ⟨V0, hV0⟩ : ∃ V, V = w.alloc (.cells (madeCells #[.bool false] (n + 1)) 4) := ⟨_, rfl⟩
  rw [← hV0] at h0 hB0 hmk
  obtain ⟨nb, hnb⟩ : ∃ nb, nb = w.heap.size := ⟨_, rfl⟩
  rw [← hnb] at h0 hmk ⊢
  have H0 := hid h0
  have HB0 := hid hB0
  have HM := hid hm
  have HE := hid hE
  have HNB := hid hnb
  have hml : m ≤ 65 := by omega
  clear h0 hB0 hV0 hm hE hnb hl
  go_enter Try.func22, Try.ntmps22
  go_wp2
  go_loopw [6] (fun x wq => ∃ i : Nat, x = .int .i64 (i : Int) ∧ i ≤ m ∧ Hid (BR wq nb (n + 1) (fun q => decide ((q : Int) ∈ (l.take i).map Prod.fst)) ∧ Below w.heap.size w wq)) (fun x _ => m - (intOf x).toNat)
  case atStart => exact ⟨0, rfl, by omega, by exact ⟨H0.out.as (by intro i hi; simp), by have := HB0.out; rw [HNB.out] at *; exact this⟩⟩
  case round =>
    obtain ⟨i, rfl, hi, HI⟩ := hrel
    by_cases hlt : i < m
    · have b1 : decide ((i : Int) < (m : Int)) = true := by simp; omega
      have b2 : (i : Int) < (m : Int) := by omega
      have hil : i < l.length := by rw [← HM.out]; exact hlt
      obtain ⟨b, rfl, hbs, hc⟩ := HE.out (by omega)
      have c0 := ((HI.out.2.cell (p := ⟨b, i * 2, none⟩) hbs).trans (hc i hil))
      have htk : l.take (i + 1) = l.take i ++ [l[i]] := List.take_succ_eq_append_getElem hil
      obtain ⟨x, hx⟩ : ∃ x, x = l[i].1 := ⟨_, rfl⟩
      rw [← hx] at c0
      have hmem : ∀ q : Int, q ∈ (l.take (i + 1)).map Prod.fst ↔ q ∈ (l.take i).map Prod.fst ∨ q = x := fun q => by
        rw [htk, List.map_append, List.mem_append, List.map_cons, List.map_nil, List.mem_singleton, hx]
      have HMEM := hid hmem
      have ad1 : IntKind.i64.wrap ((i : Int) + 1) = (i : Int) + 1 := by simp [IntKind.wrap, IntKind.bits, IntKind.signed]; omega
      clear hc htk hx hmem
      by_cases hr : 0 ≤ x ∧ x ≤ (n : Int)
      · have g1 : decide (x ≥ 0) = true := by simp; omega
        have g1' : decide (0 ≤ x) = true := by simp; omega
        have g2 : decide (x ≤ (n : Int)) = true := by simp; omega
        obtain ⟨xn, rfl⟩ : ∃ xn : Nat, x = (xn : Int) := ⟨x.toNat, by omega⟩
        have g3 : (xn : Int) < ((n + 1 : Nat) : Int) := by omega
        have c1 := HI.out.1.cell (i := xn) (by omega)
        have f1 := HI.out.1.free xn
        obtain ⟨z, hz⟩ : ∃ z, z = decide (((xn : Nat) : Int) ∈ (l.take i).map Prod.fst) := ⟨_, rfl⟩
        simp only [← hz] at c1
        clear hz
        go_wp2
        refine ⟨⟨i + 1, by push_cast; rfl, by omega, ?_⟩, by simp [intOf]; omega⟩
        refine ⟨(HI.out.1.set xn true).as (fun q hq => ?_), HI.out.2.setCell (by show w.heap.size ≤ nb; have := HNB.out; omega) _⟩
        by_cases e : q = xn
        · subst e
          rw [if_pos rfl]
          exact (decide_eq_true ((HMEM.out _).2 (.inr rfl))).symm
        · rw [if_neg e]
          rw [Bool.eq_iff_iff, decide_eq_true_eq, decide_eq_true_eq, HMEM.out]
          exact ⟨.inl, fun h => h.elim id (fun h => absurd h (by omega))⟩
      · have hnot : ∀ q : Nat, q < n + 1 → (q : Int) ≠ x := fun q hq e => hr (by omega)
        have HNOT := hid hnot
        have hfin : BR wr nb (n + 1) (fun q => decide ((q : Int) ∈ (l.take (i + 1)).map Prod.fst)) := HI.out.1.as (fun q hq => by
          have := HNOT.out q hq
          rw [Bool.eq_iff_iff, decide_eq_true_eq, decide_eq_true_eq, HMEM.out]
          exact ⟨.inl, fun h => h.elim id (fun h => absurd h this)⟩)
        have HFIN := hid hfin
        clear hfin hnot
        by_cases hr1 : 0 ≤ x
        · have g1 : decide (x ≥ 0) = true := by simp; omega
          have g1' : decide (0 ≤ x) = true := by simp; omega
          have g2 : decide (x ≤ (n : Int)) = false := by simp; omega
          clear hr
          go_wp2
          exact ⟨⟨i + 1, by push_cast; rfl, by omega, by exact ⟨HFIN.out, HI.out.2⟩⟩, by simp [intOf]; omega⟩
        · have g1 : decide (x ≥ 0) = false := by simp; omega
          have g1' : decide (0 ≤ x) = false := by simp; omega
          clear hr
          go_wp2
          exact ⟨⟨i + 1, by push_cast; rfl, by omega, by exact ⟨HFIN.out, HI.out.2⟩⟩, by simp [intOf]; omega⟩
    · have b1 : decide ((i : Int) < (m : Int)) = false := by simp; omega
      obtain rfl : i = m := by omega
      have hfin := HI.out
      rw [HM.out, List.take_length] at hfin
      have HF := hid hfin
      clear hfin HI
      go_wp2
      go_ret
      exact ⟨rfl, HF.out.1, by rw [HNB.out]; exact HF.out.2⟩
set_option maxRecDepth 100000 in
set_option maxHeartbeats 4000000 in
theorem alike21 (a b n ca cb : Nat) (f g : Nat → Bool) (hn : n ≤ 10000) (w : World) (ha : BR w a n f) (hb : BR w b n g) :
    Calls Try.prog 21 #[.slice (some ⟨a, 0, none⟩) n ca, .slice (some ⟨b, 0, none⟩) n cb] w fun e w' => e = .returned (.bool (decide (∀ i, i < n → f i = g i))) ∧ Below w.heap.size w w' := by
  have HA := hid ha
  have HB := hid hb
  obtain ⟨R, hR⟩ : ∃ R, R = decide (∀ i, i < n → f i = g i) := ⟨_, rfl⟩
  rw [← hR]
  have HR := hid hR
  clear ha hb hR
  go_enter Try.func21, Try.ntmps21
  go_wp2
  go_loopw [5] (fun x wq => ∃ i : Nat, x = .int .i64 (i : Int) ∧ i ≤ n ∧ Hid (∀ j, j < i → f j = g j) ∧ Hid (BR wq a n f) ∧ Hid (BR wq b n g) ∧ Hid (Below w.heap.size w wq)) (fun x _ => n - (intOf x).toNat)
  case atStart => exact ⟨0, rfl, by omega, by intro j hj; omega, HA, HB, by exact Below.refl _ _⟩
  case round =>
    obtain ⟨i, rfl, hi, HS, HA', HB', HW⟩ := hrel
    by_cases hlt : i < n
    · have b1 : decide ((i : Int) < (n : Int)) = true := by simp; omega
      have b2 : (i : Int) < (n : Int) := by omega
      have ad1 : IntKind.i64.wrap ((i : Int) + 1) = (i : Int) + 1 := by simp [IntKind.wrap, IntKind.bits, IntKind.signed]; omega
      have c0 := HA'.out.cell hlt
      have c1 := HB'.out.cell hlt
      by_cases he : f i = g i
      · have hs1 : ∀ j, j < i + 1 → f j = g j := fun j hj => by
          by_cases e : j = i
          · subst e; exact he
          · exact HS.out j (by omega)
        have HS1 := hid hs1
        rw [he] at c0
        obtain ⟨z, hz⟩ : ∃ z, z = g i := ⟨_, rfl⟩
        rw [← hz] at c0 c1
        have g1 : (z != z) = false := by simp
        clear he hs1 hz
        go_wp2_with fail
        go_quiet (fail)
        go_wp2
        exact ⟨⟨i + 1, by push_cast; rfl, by omega, HS1, HA', HB', by exact below_drewN HW.out _⟩, by simp [intOf]; omega⟩
      · have e0 : R = false := by rw [HR.out]; simp; exact ⟨i, hlt, he⟩
        have g1 : (f i != g i) = true := by simpa using he
        subst e0
        obtain ⟨z, hz⟩ : ∃ z, z = g i := ⟨_, rfl⟩
        obtain ⟨y, hy⟩ : ∃ y, y = f i := ⟨_, rfl⟩
        rw [← hz] at c1 g1
        rw [← hy] at c0 g1
        have hyz : (y = true ∧ z = false) ∨ (y = false ∧ z = true) := by cases y <;> cases z <;> simp_all
        clear he hz hy g1
        rcases hyz with ⟨rfl, rfl⟩ | ⟨rfl, rfl⟩
        · go_wp2_with fail
          go_quiet (fail)
          go_wp2
          go_ret
          exact ⟨rfl, below_drewN HW.out _⟩
        · go_wp2_with fail
          go_quiet (fail)
          go_wp2
          go_ret
          exact ⟨rfl, below_drewN HW.out _⟩
    · have b1 : decide ((i : Int) < (n : Int)) = false := by simp; omega
      obtain rfl : i = n := by omega
      have e0 : R = true := by rw [HR.out]; simp; exact HS.out
      subst e0
      have g2 : ((i : Int) == (i : Int)) = true := by simp
      go_wp2
      go_ret
      exact ⟨by first | rfl | simp, HW.out⟩
end Go.Proofs.Ytnpocciioedgpaa
/- HELPERS: the hunt: on, behind the whole. -/
namespace Go.Proofs.Ytnpocciioedgpaa
open Go.RowKit
set_option linter.unusedVariables false
set_option linter.unusedSimpArgs false
theorem step_call3 {P : Program} {ops : Array Oper} {o : Oper} {a : Act} {w : World} {K : Act → World → Prop} {Q : Exit → Act → World → Prop} {E : Prop} (hg : o.guard = none) (f : FuncId) (x y z : Operand) (t u v : TypeId)
    (hop : o.op = Op.call { callee := Callee.value (.func f), args := #[x, y, z], argTypes := #[t, u, v] }) (hen : ∀ args w, (callFunc f args).run P w = .ok (.enter f args) w)
    (hc : Calls P f #[a.eval x, a.eval y, a.eval z] w fun e w' => ∃ v, e = .returned v ∧ K (a.put o.dst v) w') :
    if Region.wanted o (yielded ops a.tmps) = true then Oper.wp P o a w K Q else E := by
  have hw : Region.wanted o (yielded ops a.tmps) = true := by simp [Region.wanted, hg]
  rw [if_pos hw]
  have h2 := hen #[a.eval x, a.eval y, a.eval z] w
  unfold Oper.wp
  have ev : a.eval (.func f) = .func (.func f) #[] #[] := rfl
  simp [execOp, hop, resolve, invoke, ev, Deferred.ofValue, h2, Result.andThen]
  show Calls P f #[a.eval x, a.eval y, a.eval z] w _
  refine hc.mono fun e w' h => ?_
  obtain ⟨v, rfl, hk⟩ := h
  exact hk
theorem en39 : ∀ (args : Array Value) (w : World), (callFunc 39 args).run Try.prog w = .ok (.enter 39 args) w := enter_of Try.func39 (by kernel_rfl) rfl
theorem step_append {P : Program} {w : World} {ops : Array Oper} {o : Oper} {a : Act} {K : Act → World → Prop} {Q : Exit → Act → World → Prop} {E : Prop} (hgd : o.guard = none) (s x : Operand) (t : TypeId)
    (ho : o.op = .call { callee := .builtin .append, args := #[s, x], argTypes := #[t, t] })
    (base : Nat) (e : TypeId) (i : TypeInfo) (z : Value) (size bytes : Nat) (ht : P.underlying t = some (.slice e)) (hi : P.info? e = some i) (hz : i.zero = some z)
    (hsize : i.size = size) (hby : i.bytes = bytes) (hzs : z.cells.size = size) (hpos : 0 < size)
    (v : Value) (n : Nat) (xs : List Value) (hs : a.eval s = v) (hown : w.ownsRow base e size v n xs)
    (ad : Addr) (m c : Nat) (news : List Value) (hx : a.eval x = .slice (some ad) m c) (hl : news.length = m * size) (hm : 0 < m) (hnews : ∀ j u, news[j]? = some u → w.cell? (ad.add j) = some u) (h1 : ∀ u ∈ news, u.oneCell' = true)
    (h63 : n + m ≤ maxLen) (hbytes : (n + m) * bytes ≤ 140737488355328) (hbase : base ≤ w.heap.size)
    (h : ∀ v' w', Hid (w'.ownsRow base e size v' (n + m) (xs ++ news)) → Hid (Moved w w' v v') → K (a.put o.dst v') w') : if Region.wanted o (yielded ops a.tmps) = true then Oper.wp P o a w K Q else E := by
  have hw : Region.wanted o (yielded ops a.tmps) = true := by simp [Region.wanted, hgd]
  rw [if_pos hw]
  obtain ⟨v', w', hr, h2, h3⟩ := run_append_moveN (P := P) w base t o.type e i z size bytes ht hi hz hsize hby hzs hpos v n xs hown ad m c news hl hm hnews h1 h63 hbytes hbase
  unfold Oper.wp execOp
  simp only [ho, resolve, invoke, builtin, Sem.run_bind, Sem.run_pure, Result.andThen_ok, List.map_toArray, List.map_cons, List.map_nil, hs, hx, hr]
  exact h v' w' h2 h3
/-- one more was found -/
theorem HM.push {C : HC} {W1 W2 W3 : World} {left : Int} {out : List (Int × List Int)} (h : HM C W1 left out) {v v' : Value} {cs : List Value} {F : List Nat} (hbx : W1.heap[C.hb]? = some (.cells #[.slice (some ⟨C.pb, 0, none⟩) C.n C.pc, .slice C.tad C.tn C.tc, .int .i64 C.frm, .int .i64 left, v] 42 (0, 0)))
    (ho : W1.ownsRow C.NB 53 2 v out.length cs) (hP : PR C.NB W1 cs out F) (hb : Below W1.heap.size W1 W2) {e : Int} {cp : List Int} {cv : Value} {base : Nat} (hc : W2.ownsRow base 3 1 cv cp.length (I64 cp)) (hbase : C.NB ≤ base) {o : Obj}
    (hm : Moved (W2.alloc o) W3 v v') (ho3 : W3.ownsRow C.NB 53 2 v' (out.length + 1) (cs ++ [.int .i64 e, cv])) (hol : (out.length : Int) + 1 + left ≤ 4000) :
    HM C (W3.setCell ⟨C.hb, 4, none⟩ v') left (out ++ [(e, cp)]) ∧ Fr C W1 (W3.setCell ⟨C.hb, 4, none⟩ v') := by
  have hs := hb.size
  have hs3 : W2.heap.size ≤ W3.heap.size := by rcases hm with ⟨_, h⟩ | ⟨_, h⟩ <;> (have := h.size; simp at this; omega)
  have hbl := (Array.getElem?_eq_some_iff.1 hbx).1
  have old2 : ∀ k, k < W2.heap.size → v.ownBlock ≠ some k → W3.heap[k]? = W2.heap[k]? := fun k hk hne => (moved_old' hm (by simp; omega) hne).trans (heap_alloc_old W2 _ hk)
  have old : ∀ k, k < W1.heap.size → v.ownBlock ≠ some k → W3.heap[k]? = W1.heap[k]? := fun k hk hne => (old2 k (by omega) hne).trans (hb.block k hk)
  have hb3 : W3.heap[C.hb]? = some (.cells #[.slice (some ⟨C.pb, 0, none⟩) C.n C.pc, .slice C.tad C.tn C.tc, .int .i64 C.frm, .int .i64 left, v] 42 (0, 0)) := (old C.hb hbl (own_ne ho hbx (by decide))).trans hbx
  have set : ∀ k, k ≠ C.hb → (W3.setCell ⟨C.hb, 4, none⟩ v').heap[k]? = W3.heap[k]? := fun k hk => Below.heap_setCell _ _ _ _ hk
  have typ : ∀ (b : Nat) (cur : Array Value) (T : Nat), T ≠ 42 → T ≠ 53 → W1.heap[b]? = some (.cells cur T (0, 0)) → (W3.setCell ⟨C.hb, 4, none⟩ v').heap[b]? = some (.cells cur T (0, 0)) := fun b cur T h1 h2 hx =>
    (set b (fun e => by rw [e, hbx] at hx; simp at hx; exact h1 hx.2.symm)).trans ((old b (Array.getElem?_eq_some_iff.1 hx).1 (own_ne ho hx h2)).trans hx)
  have fr : Fr C W1 (W3.setCell ⟨C.hb, 4, none⟩ v') := by
    refine ⟨?_, ?_, ?_, by simp [World.setCell]; omega, fun b hb1 hb2 => ?_, fun b cur hx => typ b cur 3 (by decide) (by decide) hx, fun b cur hx => typ b cur 64 (by decide) (by decide) hx⟩
    · rcases hm with ⟨_, h⟩ | ⟨_, h⟩ <;> exact h.os.trans hb.os
    · rcases hm with ⟨_, h⟩ | ⟨_, h⟩ <;> exact h.tape.trans hb.tape
    · rcases hm with ⟨_, h⟩ | ⟨_, h⟩ <;> exact h.output.trans hb.output
    · exact (set b hb2).trans (old b (by have := h.nb; omega) (fun e => by have := (ho.lt b e).1; omega))
  refine ⟨h.next fr ⟨v', Joins.block_setCell (i := 4) hb3 _, cs ++ [.int .i64 e, cv], F ++ cv.ownBlock.toList, ?_, ?_⟩ (by simp; omega), fr⟩
  · rw [List.length_append]
    exact own_setCell ho3 (own_ne ho3 hb3 (by decide))
  · refine (hP.kept fun k hk => ?_).snoc ?_
    · obtain ⟨cur, hx⟩ := hP.typ k hk
      exact (typ k cur 3 (by decide) (by decide) hx).trans hx.symm
    · refine row_kept (Joins.ownsRow_le hc hbase) fun b hb' => ?_
      obtain ⟨cur, hx⟩ : ∃ cur, W2.heap[b]? = some (.cells cur 3 (0, 0)) := by
        rcases hc.2 with ⟨e, _⟩ | ⟨b2, cap, cur, e, _, hgg, _⟩
        · subst e; simp [Value.ownBlock] at hb'
        · subst e; simp [Value.ownBlock] at hb'; subst hb'; exact ⟨cur, hgg⟩
      have hbl2 := (Array.getElem?_eq_some_iff.1 hx).1
      refine (set b (fun e => ?_)).trans (old2 b hbl2 (fun e => ?_))
      · rw [e, hb.block C.hb hbl, hbx] at hx; simp at hx
      · rcases ho.2 with ⟨e2, _⟩ | ⟨b2, cap, cur2, e2, _, hgg, _⟩
        · subst e2; simp [Value.ownBlock] at e
        · subst e2
          simp [Value.ownBlock] at e
          subst e
          rw [hb.block _ (Array.getElem?_eq_some_iff.1 hgg).1, hgg] at hx
          simp at hx
set_option maxRecDepth 100000 in
set_option maxHeartbeats 8000000 in
theorem on_root {C : HC} (hk : HCk C) {f : Nat} (hf : f ≤ 10000) {W : World} {left : Int} {out : List (Int × List Int)} {lb : Nat} {k : Int} {R : List (Int × Int)} {a : Int} {s : List Lt} {mn mx : Int} {lz : Bool} {ix : Int} {nm : ByteArray} {up : Int} {nth : Nat} {p : Nat} {caps : List Int} {cv : Value} {was : List (Int × Int)} {KW : List Int} {wv : Value}
    (he : (⟨.mk lb k R a s mn mx lz ix nm, .once 1 .through, up, nth⟩ : Pl) ∈ C.L) (hup : up < 0) (hu9 : -9223372036854775808 ≤ up) (h : HIn C W left out p caps cv was KW wv (f + 1)) :
    Calls Try.prog 37 #[.pointer (some ⟨C.hb, 0, none⟩), .int .i64 (lb : Int), .int .i64 (p : Int), cv, wv] W (HPost C (f + 1) (.once 1 .through) p was caps left out W) := by
  have hlb := hk.num _ he
  have hnn := hk.nn
  have htn := hk.tn64
  have hp := h.p64
  simp only [Lt.lb] at hlb
  obtain ⟨-, -, -, -, -, -, k3, -, ku, -, -⟩ := h.hm.cells
  have u3 := ku 3
  obtain ⟨W1, hW1⟩ : ∃ W1, W1 = W.setCell ⟨C.hb, 3, none⟩ (.int .i64 (left - 1)) := ⟨_, rfl⟩
  obtain ⟨hm1, fr1⟩ := h.hm.dec
  rw [← hW1] at hm1 fr1
  obtain ⟨a4, n4, c4, l0, -, l2, l3, l4, lu, hPa, hn4⟩ := hm1.cells
  obtain ⟨r1, r3, s1, s2, s3, sa, sc, hP, -, -, -, -⟩ := hm1.at he
  simp only [P12] at hP
  obtain ⟨-, -, -, -, -, -, -, -, -, -, p10, -⟩ := hP
  have HHM := hid hm1
  have HF1 := hid fr1
  have hcv := fr1.row h.cap
  have HCV := hid hcv
  have HCL := hid h.capl
  have HK2 := hid hk.k2
  have HNB := hid hm1.nb
  have hr3 : -100000000000 ≤ left ∧ left ≤ 20000 := ⟨h.lo, by have := h.fuel; omega⟩
  have hol : (out.length : Int) ≤ 100000004001 := by have := hm1.ol; omega
  have hlb3 : (lb : Int) < (C.n : Int) := by omega
  have hlb4 : (lb : Int) ≤ 300000 := by omega
  have hp64 : (p : Int) ≤ 64 := by omega
  have HW1 := hid hW1
  have HPA := hid hPa
  have HN4 := hid hn4
  have HCE : Hid (∀ i (hil : i < out.length), ∃ b, a4 = some ⟨b, 0, none⟩ ∧ W1.cell? ⟨b, i * 2, none⟩ = some (.int .i64 out[i].1)) := fun i hil => by
    rcases hPa.ends with ⟨_, e⟩ | ⟨b, cap, e, _, _, hc⟩
    · subst e; simp at hil
    · simp only [Value.slice.injEq] at e
      exact ⟨b, e.1, (hc i hil)⟩
  have HBX : Hid (∃ cs F, W1.heap[C.hb]? = some (.cells #[.slice (some ⟨C.pb, 0, none⟩) C.n C.pc, .slice C.tad C.tn C.tc, .int .i64 C.frm, .int .i64 (left - 1), .slice a4 n4 c4] 42 (0, 0)) ∧ W1.ownsRow C.NB 53 2 (.slice a4 n4 c4) out.length cs ∧ PR C.NB W1 cs out F) := by
    obtain ⟨v, h1, cs, F, h2, h3⟩ := hm1.box
    have e : v = .slice a4 n4 c4 := by
      have := Joins.cell_of_block h1 4
      rw [l4] at this
      simpa using this.symm
    subst e
    exact ⟨cs, F, h1, h2, h3⟩
  have HOL : Hid ((out.length : Int) + 1 + (left - 1) ≤ 4000) := by have := h.hm.ol; exact hid (by omega)
  have HS0 : Hid (∀ (V : World), SrcOf V cv caps → Calls Try.prog 39 #[cv, .int .i64 ((0 : Nat) : Int), .int .i64 C.frm] V fun e w' => ∃ v', e = .returned v' ∧ w'.ownsRow V.heap.size 3 1 v' caps.length (I64 (caps.set 0 C.frm)) ∧ Below V.heap.size V w') := fun V hS => set39 caps cv 0 C.frm V hS (by have := h.capl; have := hk.k2; omega) (by have := h.capl; have := hk.k2; omega)
  have HS1 : Hid (∀ (V : World) (v' : Value), SrcOf V v' (caps.set 0 C.frm) → Calls Try.prog 39 #[v', .int .i64 ((1 : Nat) : Int), .int .i64 (p : Int)] V fun e w' => ∃ v'', e = .returned v'' ∧ w'.ownsRow V.heap.size 3 1 v'' (caps.set 0 C.frm).length (I64 ((caps.set 0 C.frm).set 1 (p : Int))) ∧ Below V.heap.size V w') := fun V v' hS => set39 _ v' 1 (p : Int) V hS (by have := h.capl; have := hk.k2; simp; omega) (by have := h.capl; have := hk.k2; simp; omega)
  have hn4b : (n4 : Int) ≤ 100000004001 := by omega
  have HH := hid h
  have HLU := hid lu
  clear hk hf he hlb hnn htn hp hm1 fr1 hcv h hW1 ku hPa hn4 lu
  go_enter Try.func37, Try.ntmps37
  go_upto_region 1 with fail
  rw [← HW1.out]
  clear k3 u3
  by_cases hl : left - 1 < 0
  · go_wp2_with fail
    refine bodyPost_ret (results_none rfl _ _ _) rfl ?_
    exact stop_post HHM.out HF1.out (fun h => by omega)
  · go_wp2_with fail
    go_loopw [11] (fun y wq => ∃ i : Nat, y = .int .i64 (i : Int) ∧ i ≤ n4 ∧ Hid ((p : Int) ∉ (out.map Prod.fst).take i) ∧ wq = W1) (fun y _ => n4 - (intOf y).toNat)
    case atStart => exact ⟨0, rfl, by omega, by exact fun h => by simp at h, rfl⟩
    case round =>
      obtain ⟨i, rfl, hi, HI, rfl⟩ := hrel
      by_cases hlt : i < n4
      · have b1 : decide ((i : Int) < (n4 : Int)) = true := by simp; omega
        have b2 : (i : Int) < (n4 : Int) := by omega
        have ad1 : IntKind.i64.wrap ((i : Int) + 1) = (i : Int) + 1 := by simp [IntKind.wrap, IntKind.bits, IntKind.signed]; omega
        have hil : i < out.length := by rw [← HN4.out]; exact hlt
        obtain ⟨b, rfl, hc⟩ := HCE.out i hil
        obtain ⟨y, hy⟩ : ∃ y, y = out[i].1 := ⟨_, rfl⟩
        rw [← hy] at hc
        by_cases he : y = (p : Int)
        · have g1 : (y == (p : Int)) = true := by simpa using he
          have hin : (p : Int) ∈ out.map Prod.fst := by rw [← he, hy]; exact List.mem_map.2 ⟨_, List.getElem_mem hil, rfl⟩
          have HIN := hid hin
          clear hin hy
          go_wp2_with fail
          refine bodyPost_ret (results_none rfl _ _ _) rfl ?_
          exact stop_post HHM.out HF1.out (fun h => .there HIN.out)
        · have g1 : (y == (p : Int)) = false := by simpa using he
          have hnx : (p : Int) ∉ (out.map Prod.fst).take (i + 1) := by
            rw [List.take_succ_eq_append_getElem (by simpa using hil), List.mem_append, List.mem_singleton]
            rintro (h | h)
            · exact HI.out h
            · simp at h; exact he (by rw [hy]; exact h.symm)
          have HNX := hid hnx
          clear hnx hy he
          go_wp2_with fail
          exact ⟨⟨i + 1, by push_cast; rfl, by omega, HNX, by first | rfl | trivial⟩, by simp [intOf]; omega⟩
      · have b1 : decide ((i : Int) < (n4 : Int)) = false := by simp; omega
        have hnot : (p : Int) ∉ out.map Prod.fst := by
          have := HI.out
          rw [show i = out.length by have := HN4.out; omega, List.take_of_length_le (by simp)] at this
          exact this
        have HNOT := hid hnot
        clear hnot
        go_upto_region 8 with fail
        have HSW : Hid (∀ V, Below wr.heap.size wr V → V.cell? ⟨C.hb, 4, none⟩ = some (.slice a4 n4 c4) ∧ V.cell? ⟨C.hb, 2, none⟩ = some (.int .i64 C.frm)) := fun V hV => by
          obtain ⟨cs, F, h1, _⟩ := HBX.out
          have e := hV.block C.hb (Array.getElem?_eq_some_iff.1 h1).1
          exact ⟨(cell_eq e _).trans l4, (cell_eq e _).trans l2⟩
        obtain ⟨i0, hi0, hz0, hz1, hz2⟩ := info_parts info53
        refine wp_region_lexK [0, 1, 2, 3, 4, 5, 6, 7, 8, 9, 10, 12] [11, 13, 14, 15, 16, 17, 18, 19] 19 (fun V => V.cell? ⟨C.hb, 4, none⟩ = some (.slice a4 n4 c4) ∧ V.cell? ⟨C.hb, 2, none⟩ = some (.int .i64 C.frm)) (by kernel_rfl) (by kernel_rfl) rfl (by kernel_rfl) (by kernel_rfl) ⟨l4, l2⟩ ?_
        simp only [opsAt, opsNo, List.getElem?_toArray, List.getElem?_cons_zero, List.getElem?_cons_succ]
        iterate 12
          refine lex_cons ?_ rfl (fun V hV => ?_) (fun _ _ _ h => h) ?_
          rotate_left
          · obtain ⟨s0, s1⟩ := hV
            go_simp <;> with_reducible rfl
          simp only [Act.put, List.setIfInBounds_toArray, List.set_cons_zero, List.set_cons_succ]
        refine lex_nil (tailK_cons fun K hK => ?_)
        refine step_call3 rfl 39 (.tmp 61) (.const (.int .i64 0)) (.tmp 65) 29 3 3 rfl en39 ?_
        refine (HS0.out wr.drew ?_).mono ?_
        · exact HCV.out.src
        rintro e w2 ⟨v1, rfl, ho1, hb1⟩
        have hB2 : Below wr.heap.size wr w2 := (show Below wr.heap.size wr wr.drew from ⟨rfl, rfl, rfl, Nat.le_refl _, fun _ _ => rfl⟩).trans hb1
        refine ⟨_, rfl, hK.out _ _ (fun _ => HSW.out w2 hB2) (tailK_cons fun K hK => ?_)⟩
        refine step_call3 rfl 39 (.tmp 66) (.const (.int .i64 1)) (.tmp 67) 29 3 3 rfl en39 ?_
        refine (HS1.out w2 v1 (Rw.of ho1 (by have := HCL.out; have := HK2.out; omega)).src).mono ?_
        rintro e w3 ⟨v2, rfl, ho2, hb2⟩
        obtain ⟨vb, vc, rfl⟩ := Joins.ownsRow_form ho2 (by have := HCL.out; have := HK2.out; simp; omega)
        have hB3 : Below wr.heap.size wr w3 := hB2.trans (Joins.below_le hb2 hB2.size)
        obtain ⟨cl, hcl⟩ : ∃ cl, cl = (caps.set 0 C.frm).length := ⟨_, rfl⟩
        rw [← hcl] at ho2 ⊢
        have HCLL := hid hcl
        have HO2 := hid ho2
        have HB3 := hid hB3
        have hs2 := hB2.size
        have hs3 := hB3.size
        clear hcl ho2 hb1 hb2 ho1 hB2 hB3
        refine ⟨_, rfl, hK.out _ _ (fun _ => HSW.out w3 HB3.out) (tailK_cons fun K hK => ?_)⟩
        simp only [Act.put, List.setIfInBounds_toArray, List.set_cons_zero, List.set_cons_succ]
        go_simp
        refine hK.out _ _ (fun _ => HSW.out w3 HB3.out) (tailK_cons fun K hK => ?_)
        simp only [Act.put, List.setIfInBounds_toArray, List.set_cons_zero, List.set_cons_succ]
        go_simp
        have hBA : Below wr.heap.size wr (w3.alloc (.cells #[.int .i64 (p : Int), .slice (some ⟨vb, 0, none⟩) cl vc] 53)) := HB3.out.trans (Joins.below_le (Joins.below_alloc1 w3 _) hs3)
        refine hK.out _ _ (fun _ => HSW.out _ hBA) (tailK_cons fun K hK => ?_)
        clear hBA
        obtain ⟨cs, F, hbx, hrow, hPR⟩ := HBX.out
        have hrow3 : w3.ownsRow C.NB 53 2 (.slice a4 n4 c4) out.length cs := row_kept hrow fun b hb => HB3.out.block b (hrow.lt b hb).2
        refine step_append rfl (.tmp 59) (.tmp 70) 35 rfl C.NB 53 i0 (.agg #[.int .i64 0, .slice none 0 0]) 2 32 Try.underlying35 hi0 hz0 hz1 hz2 rfl (by decide) (.slice a4 n4 c4) out.length cs rfl (hrow3.alloc _) ⟨w3.heap.size, 0, none⟩ 1 1 [.int .i64 (p : Int), .slice (some ⟨vb, 0, none⟩) cl vc] rfl rfl (by decide) ?_ ?_ (by unfold maxLen; omega) (by omega) (by have := HNB.out; simp; omega) ?_
        · intro j u hj
          match j, hj with
          | 0, hj => simp at hj; subst hj; simp [Addr.add]
          | 1, hj => simp at hj; subst hj; simp [Addr.add]
        · intro u hu
          simp at hu
          rcases hu with rfl | rfl <;> rfl
        intro v' w4 ho4 hm4
        obtain ⟨vb4, vc4, rfl⟩ := Joins.ownsRow_form ho4.out (by omega)
        have HPU := hid (HHM.out.push (e := (p : Int)) (cp := (caps.set 0 C.frm).set 1 (p : Int)) (cv := .slice (some ⟨vb, 0, none⟩) cl vc) hbx hrow hPR HB3.out (by rw [List.length_set, ← HCLL.out]; exact HO2.out) (by have := HNB.out; omega) hm4.out ho4.out HOL.out)
        have hb4 : w4.heap[C.hb]? = some (.cells #[.slice (some ⟨C.pb, 0, none⟩) C.n C.pc, .slice C.tad C.tn C.tc, .int .i64 C.frm, .int .i64 (left - 1), .slice a4 n4 c4] 42 (0, 0)) := by
          have hbl := (Array.getElem?_eq_some_iff.1 hbx).1
          exact (moved_old' hm4.out (by simp; omega) (own_ne hrow hbx (by decide))).trans ((heap_alloc_old w3 _ (by omega)).trans ((HB3.out.block C.hb hbl).trans hbx))
        obtain ⟨-, -, q2, -, q4⟩ := box5 hb4
        have uq4 := Joins.unfrozen_of_block hb4 4
        clear hbx hrow hPR hrow3 ho4 hm4 hb4
        refine hK.out _ _ (fun _ => ⟨q4, q2⟩) (tailK_cons fun K hK => ?_)
        simp only [Act.put, List.setIfInBounds_toArray, List.set_cons_zero, List.set_cons_succ]
        go_simp
        refine hK.out _ _ (fun _ => ⟨q4, q2⟩) (tailK_cons fun K hK => ?_)
        simp only [Act.put, List.setIfInBounds_toArray, List.set_cons_zero, List.set_cons_succ]
        go_simp
        refine hK.out _ _ (fun _ => ⟨q4, q2⟩) (tailK_cons fun K hK => ?_)
        simp only [Act.put, List.setIfInBounds_toArray, List.set_cons_zero, List.set_cons_succ]
        go_simp
        refine hK.out _ _ (fun h => absurd rfl h) (tailK_nil ?_)
        try simp only [Act.put, List.setIfInBounds_toArray, List.set_cons_zero, List.set_cons_succ]
        clear q2 q4 uq4 l0 l2 l3 l4
        go_wp2_with fail
        refine bodyPost_ret (results_none rfl _ _ _) rfl ?_
        exact ⟨rfl, left - 1, _, HPU.out.1, fun _ => rfl, fun _ => ⟨by omega, by simp only [LBv]; omega⟩, fun _ => .new HNOT.out, HF1.out.trans HPU.out.2⟩
end Go.Proofs.Ytnpocciioedgpaa
/- HELPERS: the places' numbers. -/
namespace Go.Proofs.Ytnpocciioedgpaa
open Go.RowKit
set_option linter.unusedVariables false
set_option linter.unusedSimpArgs false
theorem range_app (n a b : Nat) : List.range' n a ++ List.range' (n + a) b = List.range' n (a + b) := by
  rw [List.range'_append_1]
mutual
theorem num_lbs : ∀ (t : Tn) (n : Nat), (t.num n).lbs = List.range' n t.nodes
  | .mk k R a s mn mx lz ix nm, n => by
    simp only [Tn.num, Lt.lbs, Tn.nodes]
    rw [numL_lbs s (n + 1), Nat.add_comm 1 (nodesL s), List.range'_succ]
theorem numL_lbs : ∀ (ts : List Tn) (n : Nat), lbsL (numL ts n) = List.range' n (nodesL ts)
  | [], n => by simp [numL, lbsL, nodesL]
  | t :: ts, n => by
    simp only [numL, lbsL, nodesL]
    rw [num_lbs t n, numL_lbs ts (n + t.nodes), range_app]
end
mutual
theorem ents_lbs : ∀ (t : Tn) (n : Nat) (B : Way) (up : Int) (nth : Nat), ((t.num n).ents B up nth).map (fun e => e.t.lb) = List.range' n t.nodes
  | .mk k R a s mn mx lz ix nm, n, B, up, nth => by
    simp only [Tn.num, Lt.ents, Tn.nodes, List.map_cons]
    rw [entsL_lbs s (n + 1), Nat.add_comm 1 (nodesL s), List.range'_succ]
    rfl
theorem entsL_lbs : ∀ (ts : List Tn) (n : Nat) (p : Lt) (B : Way) (i : Nat), (entsL p B (numL ts n) i).map (fun e => e.t.lb) = List.range' n (nodesL ts)
  | [], n, p, B, i => by simp [numL, entsL, nodesL]
  | t :: ts, n, p, B, i => by
    simp only [numL, entsL, nodesL, List.map_append]
    rw [ents_lbs t n, entsL_lbs ts (n + t.nodes), range_app]
end
theorem num_nodup (t : Tn) (n : Nat) : (t.num n).lbs.Nodup := by rw [num_lbs]; exact List.nodup_range' ..
theorem ents_len (t : Tn) (n : Nat) (B : Way) (up : Int) (nth : Nat) : ((t.num n).ents B up nth).length = t.nodes := by
  have := congrArg List.length (ents_lbs t n B up nth)
  simpa using this
theorem ents_lt {t : Tn} {n : Nat} {B : Way} {up : Int} {nth : Nat} {e : Pl} (he : e ∈ (t.num n).ents B up nth) : n ≤ e.t.lb ∧ e.t.lb < n + t.nodes := by
  have h : e.t.lb ∈ List.range' n t.nodes := by rw [← ents_lbs t n B up nth]; exact List.mem_map.2 ⟨e, he, rfl⟩
  rw [List.mem_range'_1] at h
  exact h
/-- the place of that number -/
theorem ents_at (t : Tn) (n : Nat) (B : Way) (up : Int) (nth : Nat) (j : Nat) (hj : j < ((t.num n).ents B up nth).length) : (((t.num n).ents B up nth)[j]).t.lb = n + j := by
  have h := congrArg (fun l => l[j]?) (ents_lbs t n B up nth)
  have hn : j < t.nodes := by rw [ents_len] at hj; exact hj
  simp only [List.getElem?_map, List.getElem?_eq_getElem hj, Option.map_some] at h
  rw [List.getElem?_range' hn] at h
  simpa using h
end Go.Proofs.Ytnpocciioedgpaa
/- HELPERS: the places as they are laid, one behind the other; what laying leaves. -/
namespace Go.Proofs.Ytnpocciioedgpaa
open Go.RowKit
set_option linter.unusedVariables false
set_option linter.unusedSimpArgs false
/-- two lists, one by one -/
inductive A2 {α β : Type} (R : α → β → Prop) : List α → List β → Prop
  | nil : A2 R [] []
  | cons {a : α} {b : β} {l : List α} {m : List β} (h : R a b) (t : A2 R l m) : A2 R (a :: l) (b :: m)
theorem A2.mono {α β : Type} {R R' : α → β → Prop} (hR : ∀ a b, R a b → R' a b) {l : List α} {m : List β} (h : A2 R l m) : A2 R' l m := by
  induction h with
  | nil => exact .nil
  | cons h _ ih => exact .cons (hR _ _ h) ih
theorem A2.app {α β : Type} {R : α → β → Prop} {l l' : List α} {m m' : List β} (h : A2 R l m) (h' : A2 R l' m') : A2 R (l ++ l') (m ++ m') := by
  induction h with
  | nil => exact h'
  | cons h _ ih => exact .cons h ih
theorem A2.len {α β : Type} {R : α → β → Prop} {l : List α} {m : List β} (h : A2 R l m) : l.length = m.length := by
  induction h with
  | nil => rfl
  | cons h _ ih => simp [ih]
theorem A2.get {α β : Type} {R : α → β → Prop} {l : List α} {m : List β} (h : A2 R l m) : ∀ (j : Nat) (hj : j < m.length), ∃ (hl : j < l.length), R l[j] m[j] := by
  induction h with
  | nil => intro j hj; simp at hj
  | cons h _ ih =>
    intro j hj
    cases j with
    | zero => exact ⟨by simp, h⟩
    | succ j =>
      obtain ⟨h1, h2⟩ := ih j (by simpa using hj)
      exact ⟨by simp; omega, h2⟩
/-- what is laid of a place -/
structure Pq where
  M : Nv
  sv : Value
  up : Int
  nth : Int
abbrev Pq.cs (q : Pq) : List Value := [.int .i64 q.M.k, .slice q.M.r1 q.M.r2 q.M.r3, .int .i64 q.M.a2, .slice q.M.s1 q.M.s2 q.M.s3, .int .i64 q.M.a4, .int .i64 q.M.a5, .bool q.M.a6, .int .i64 q.M.a7, .string q.M.a8, q.sv, .int .i64 q.up, .int .i64 q.nth]
theorem flat12_len (L : List Pq) : (L.flatMap Pq.cs).length = L.length * 12 := by
  induction L with
  | nil => rfl
  | cons M L ih =>
    have e : (Pq.cs M).length = 12 := rfl
    rw [List.flatMap_cons, List.length_append, ih, e, List.length_cons]
    omega
theorem flat12 (L : List Pq) : ∀ (j k : Nat) (hj : j < L.length), k < 12 → (L.flatMap Pq.cs)[j * 12 + k]? = (Pq.cs L[j])[k]? := by
  induction L with
  | nil => intro j k hj; simp at hj
  | cons M L ih =>
    intro j k hj hk
    rw [List.flatMap_cons]
    have e9 : (Pq.cs M).length = 12 := rfl
    cases j with
    | zero => rw [List.getElem?_append_left (by rw [e9]; omega)]; simp
    | succ j =>
      rw [List.getElem?_append_right (by rw [e9]; omega)]
      have := ih j k (by simpa using hj) hk
      rw [e9, show (j + 1) * 12 + k - 12 = j * 12 + k by omega, this]
      rfl
/-- a place's subs set -/
theorem flat12_set (L L' : List Pq) (q : Pq) (v : Value) : ((L ++ q :: L').flatMap Pq.cs).set (L.length * 12 + 9) v = (L ++ { q with sv := v } :: L').flatMap Pq.cs := by
  rw [List.flatMap_append, List.flatMap_append, List.flatMap_cons, List.flatMap_cons]
  rw [List.set_append_right _ _ (by rw [flat12_len]; omega), flat12_len, show L.length * 12 + 9 - L.length * 12 = 9 by omega]
  rfl
theorem row_setN {w : World} {base e size n b cap : Nat} {xs : List Value} (h : w.ownsRow base e size (.slice (some ⟨b, 0, none⟩) n cap) n xs) (k : Nat) (x : Value) : (w.setCell ⟨b, k, none⟩ x).ownsRow base e size (.slice (some ⟨b, 0, none⟩) n cap) n (xs.set k x) ∧ w.frozen? ⟨b, k, none⟩ = false := by
  have hl := h.1
  rcases h.2 with ⟨h, _⟩ | ⟨g, cap', cur, he, hb, hgg, h1, h2, h3, h4⟩
  · cases h
  · simp only [Value.slice.injEq, Option.some.injEq, Addr.mk.injEq] at he
    obtain ⟨⟨rfl, _⟩, _, rfl⟩ := he
    refine ⟨⟨by simp [hl], .inr ⟨b, cap, cur.setIfInBounds k x, rfl, hb, Joins.block_setCell hgg _, h1, h2, by simpa using h3, ?_⟩⟩, Joins.unfrozen_of_block hgg k⟩
    simp only [Array.toList_setIfInBounds]
    rw [List.take_set, h4]
/-- the hunt while its places are laid -/
structure LM (hb B0 : Nat) (c1 c2 c3 c4 : Value) (W : World) (v : Value) (L : List Pq) : Prop where
  box : W.heap[hb]? = some (.cells #[v, c1, c2, c3, c4] 42 (0, 0))
  row : W.ownsRow B0 64 12 v L.length (L.flatMap Pq.cs)
  hbl : hb < B0
  bs : B0 ≤ W.heap.size
/-- what laying leaves -/
structure LF (hb B0 : Nat) (W W' : World) : Prop where
  os : W'.os = W.os
  tape : W'.tape = W.tape
  output : W'.output = W.output
  size : W.heap.size ≤ W'.heap.size
  low : ∀ (b : Nat), b < B0 → b ≠ hb → W'.heap[b]? = W.heap[b]?
  typ : ∀ (b : Nat) (cur : Array Value) (T : Nat), (T = 3 ∨ T = 28) → W.heap[b]? = some (.cells cur T (0, 0)) → W'.heap[b]? = some (.cells cur T (0, 0))
theorem LF.refl (hb B0 : Nat) (W : World) : LF hb B0 W W := ⟨rfl, rfl, rfl, Nat.le_refl _, fun _ _ _ => rfl, fun _ _ _ _ h => h⟩
theorem LF.trans {hb B0 : Nat} {a b c : World} (h : LF hb B0 a b) (k : LF hb B0 b c) : LF hb B0 a c := ⟨k.os.trans h.os, k.tape.trans h.tape, k.output.trans h.output, Nat.le_trans h.size k.size, fun i hi hn => (k.low i hi hn).trans (h.low i hi hn), fun i cur T hT x => k.typ i cur T hT (h.typ i cur T hT x)⟩
theorem LF.of_below {hb B0 : Nat} {W W' : World} (h : Below W.heap.size W W') (hN : B0 ≤ W.heap.size) : LF hb B0 W W' :=
  ⟨h.os, h.tape, h.output, h.size, fun b hb _ => h.block b (by omega), fun b cur T _ hx => (h.block b (Array.getElem?_eq_some_iff.1 hx).1).trans hx⟩
/-- nothing but blocks that were not there -/
theorem LF.of_new {hb B0 : Nat} {W a c : World} (h : LF hb B0 W a) (hN : B0 ≤ W.heap.size) (k : Below W.heap.size a c) : LF hb B0 W c :=
  ⟨k.os.trans h.os, k.tape.trans h.tape, k.output.trans h.output, Nat.le_trans h.size k.size, fun b hb hn => (k.block b (by omega)).trans (h.low b hb hn), fun b cur T hT hx => (k.block b (Array.getElem?_eq_some_iff.1 hx).1).trans (h.typ b cur T hT hx)⟩
theorem LF.rw {hb B0 : Nat} {W W' : World} {v : Value} {L : List Int} (f : LF hb B0 W W') (h : Rw W v L) : Rw W' v L := by
  rcases h with h | ⟨h0, h⟩
  · exact .inl h
  · refine .inr ⟨h0, h.1, ?_⟩
    rcases h.2 with hn | ⟨g, cap, cur, hv, hb, hg, rest⟩
    · exact .inl hn
    · exact .inr ⟨g, cap, cur, hv, hb, f.typ g cur 3 (.inl rfl) hg, rest⟩
theorem LF.own {hb B0 base n : Nat} {W W' : World} {v : Value} {xs : List Value} (f : LF hb B0 W W') (h : W.ownsRow base 3 1 v n xs) : W'.ownsRow base 3 1 v n xs := by
  refine ⟨h.1, ?_⟩
  rcases h.2 with hn | ⟨g, cap, cur, hv, hb, hg, rest⟩
  · exact .inl hn
  · exact .inr ⟨g, cap, cur, hv, hb, f.typ g cur 3 (.inl rfl) hg, rest⟩
/-- a place that was laid -/
structure Lq (A : Nat → Prop) (W : World) (q : Pq) (e : Pl) : Prop where
  tp : TP W A q.M e.t.tn
  sv : ∃ sa sc, q.sv = .slice sa e.t.sub.length sc
  rw : Rw W q.sv (e.t.sub.map fun t => (t.lb : Int))
  up : q.up = e.up
  nth : q.nth = (e.nth : Int)
theorem Lq.kept {A : Nat → Prop} {hb B0 : Nat} {W W' : World} {q : Pq} {e : Pl} (h : Lq A W q e) (f : LF hb B0 W W') (hA : ∀ b, A b → b < B0 ∧ b ≠ hb) : Lq A W' q e :=
  ⟨h.tp.kept (fun b hb => f.low b (hA b hb).1 (hA b hb).2) (fun b hb => hb), h.sv, f.rw h.rw, h.up, h.nth⟩
/-- one place more, while the hunt's box is set -/
theorem LM.push {hb B0 : Nat} {c1 c2 c3 c4 : Value} {W W3 : World} {v v' : Value} {L : List Pq} {q : Pq} {o : Obj} (h : LM hb B0 c1 c2 c3 c4 W v L) (hm : Moved (W.alloc o) W3 v v') (ho : W3.ownsRow B0 64 12 v' (L.length + 1) (L.flatMap Pq.cs ++ Pq.cs q)) :
    LM hb B0 c1 c2 c3 c4 (W3.setCell ⟨hb, 0, none⟩ v') v' (L ++ [q]) ∧ LF hb B0 W (W3.setCell ⟨hb, 0, none⟩ v') := by
  have hbl := (Array.getElem?_eq_some_iff.1 h.box).1
  have hs3 : W.heap.size + 1 ≤ W3.heap.size := by have := moved_size hm; simpa using this
  have old : ∀ k, k < W.heap.size → v.ownBlock ≠ some k → W3.heap[k]? = W.heap[k]? := fun k hk hne => (moved_old' hm (by simp; omega) hne).trans (heap_alloc_old W _ hk)
  have hb3 : W3.heap[hb]? = some (.cells #[v, c1, c2, c3, c4] 42 (0, 0)) := (old hb hbl (own_ne h.row h.box (by decide))).trans h.box
  have set : ∀ k, k ≠ hb → (W3.setCell ⟨hb, 0, none⟩ v').heap[k]? = W3.heap[k]? := fun k hk => Below.heap_setCell _ _ _ _ hk
  have hbs := h.bs
  refine ⟨⟨Joins.block_setCell (i := 0) hb3 _, ?_, h.hbl, by simp [World.setCell]; omega⟩, ?_, ?_, ?_, by simp [World.setCell]; omega, fun b hb1 hb2 => ?_, fun b cur T hT hx => ?_⟩
  · rw [List.length_append, List.flatMap_append]
    simp only [List.length_cons, List.length_nil, List.flatMap_cons, List.flatMap_nil, List.append_nil]
    exact own_setCell ho (own_ne ho hb3 (by decide))
  · rcases hm with ⟨_, h⟩ | ⟨_, h⟩ <;> exact h.os
  · rcases hm with ⟨_, h⟩ | ⟨_, h⟩ <;> exact h.tape
  · rcases hm with ⟨_, h⟩ | ⟨_, h⟩ <;> exact h.output
  · exact (set b hb2).trans (old b (by omega) (fun e => by have := (h.row.lt b e).1; omega))
  · refine (set b (fun e => ?_)).trans ((old b (Array.getElem?_eq_some_iff.1 hx).1 (own_ne h.row hx (by rcases hT with rfl | rfl <;> decide))).trans hx)
    rw [e, h.box] at hx
    simp at hx
    rcases hT with rfl | rfl <;> exact absurd hx.2 (by decide)
/-- a place's subs are set -/
theorem LM.setSub {hb B0 pb n vc : Nat} {c1 c2 c3 c4 : Value} {W : World} {L L' : List Pq} {q : Pq} (h : LM hb B0 c1 c2 c3 c4 W (.slice (some ⟨pb, 0, none⟩) n vc) (L ++ q :: L')) (hn : n = (L ++ q :: L').length) (u : Value) :
    LM hb B0 c1 c2 c3 c4 (W.setCell ⟨pb, L.length * 12 + 9, none⟩ u) (.slice (some ⟨pb, 0, none⟩) n vc) (L ++ { q with sv := u } :: L') ∧ LF hb B0 W (W.setCell ⟨pb, L.length * 12 + 9, none⟩ u) := by
  have hrow := h.row
  rw [← hn] at hrow
  obtain ⟨h1, h2⟩ := row_setN hrow (L.length * 12 + 9) u
  have hpb := (h.row.lt pb rfl)
  have hne : hb ≠ pb := by have := h.hbl; omega
  have set : ∀ k, k ≠ pb → (W.setCell ⟨pb, L.length * 12 + 9, none⟩ u).heap[k]? = W.heap[k]? := fun k hk => Below.heap_setCell _ _ _ _ hk
  refine ⟨⟨(set hb hne).trans h.box, ?_, h.hbl, by simp [World.setCell]; exact h.bs⟩, rfl, rfl, rfl, by simp [World.setCell], fun b hb1 hb2 => set b (by omega), fun b cur T hT hx => ?_⟩
  · rw [flat12_set] at h1
    rw [show (L ++ { q with sv := u } :: L').length = n by rw [hn]; simp]
    exact h1
  · refine (set b (fun e => ?_)).trans hx
    exact own_ne h.row hx (by rcases hT with rfl | rfl <;> decide) (by rw [e]; rfl)
/-- what is read of a place -/
theorem LM.at {hb B0 pb n vc : Nat} {c1 c2 c3 c4 : Value} {W : World} {L : List Pq} (h : LM hb B0 c1 c2 c3 c4 W (.slice (some ⟨pb, 0, none⟩) n vc) L) (j : Nat) (hj : j < L.length) : P12 W pb j L[j].M L[j].sv L[j].up L[j].nth := by
  have hn : n = L.length := by
    obtain ⟨a, c, e, _⟩ := row_form h.row
    simp only [Value.slice.injEq] at e
    exact e.2.1
  have hrow := h.row
  rw [← hn] at hrow
  have c : ∀ k, k < 12 → W.cell? ⟨pb, j * 12 + k, none⟩ = (Pq.cs L[j])[k]? := fun k hk => by
    rw [hrow.cellAt (j * 12 + k) (by omega), flat12 L j k hj hk]
  exact ⟨c 0 (by omega), c 1 (by omega), c 2 (by omega), c 3 (by omega), c 4 (by omega), c 5 (by omega), c 6 (by omega), c 7 (by omega), c 8 (by omega), c 9 (by omega), c 10 (by omega), c 11 (by omega)⟩
theorem numL_snoc : ∀ (ts : List Tn) (t : Tn) (n : Nat), numL (ts ++ [t]) n = numL ts n ++ [t.num (n + nodesL ts)]
  | [], t, n => by simp [numL, nodesL]
  | u :: ts, t, n => by
    simp only [List.cons_append, numL, nodesL]
    rw [numL_snoc ts t (n + u.nodes), Nat.add_assoc]
theorem numL_len : ∀ (ts : List Tn) (n : Nat), (numL ts n).length = ts.length
  | [], n => rfl
  | t :: ts, n => by simp only [numL, List.length_cons, numL_len ts]
theorem entsL_snoc (p : Lt) (B : Way) (t : Lt) : ∀ (ts : List Lt) (i : Nat), entsL p B (ts ++ [t]) i = entsL p B ts i ++ t.ents (subB p B (i + ts.length)) (p.lb : Int) (i + ts.length)
  | [], i => by simp [entsL]
  | u :: ts, i => by
    simp only [List.cons_append, entsL, List.length_cons]
    rw [entsL_snoc p B t ts (i + 1), List.append_assoc, show i + 1 + ts.length = i + (ts.length + 1) by omega]
theorem num_lb (t : Tn) (n : Nat) : (t.num n).lb = n := by cases t; simp [Tn.num, Lt.lb]
theorem num_sub (k : Int) (R : List (Int × Int)) (a : Int) (ts : List Tn) (mn mx : Int) (lz : Bool) (ix : Int) (nm : ByteArray) (n : Nat) : ((Tn.mk k R a ts mn mx lz ix nm).num n).sub = numL ts (n + 1) := by simp [Tn.num, Lt.sub]
theorem info64 : (Try.prog.info? 64).map (fun i => (i.zero, i.size, i.bytes)) = some (some (.agg #[.int .i64 0, .slice none 0 0, .int .i64 0, .slice none 0 0, .int .i64 0, .int .i64 0, .bool false, .int .i64 0, .string ⟨#[]⟩, .slice none 0 0, .int .i64 0, .int .i64 0]), 12, 152) := by kernel_rfl
end Go.Proofs.Ytnpocciioedgpaa
/- HELPERS: a tree turned: alternatives the other way round, loops lazy or not. -/
namespace Go.Proofs.Ytnpocciioedgpaa
open Go.RowKit
set_option linter.unusedVariables false
set_option linter.unusedSimpArgs false
theorem nodesL_take : ∀ (ts : List Tn) (i : Nat) (hi : i < ts.length), nodesL (ts.take (i + 1)) = nodesL (ts.take i) + ts[i].nodes := fun ts i hi => by
  rw [List.take_succ_eq_append_getElem hi, nodesL_app]
  simp [nodesL]
theorem nodesL_take_le (ts : List Tn) (i : Nat) : nodesL (ts.take i) ≤ nodesL ts := by
  have := nodesL_app (ts.take i) (ts.drop i)
  rw [List.take_append_drop] at this
  omega
theorem TrnL.snoc {t t' : Tn} (h : Trn t t') : ∀ {ts ts' : List Tn}, TrnL ts ts' → TrnL (ts ++ [t]) (ts' ++ [t']) := by
  intro ts
  induction ts with
  | nil => intro ts' hs; cases hs; exact .cons h .nil
  | cons u us ih => intro ts' hs; cases hs with | cons h1 h2 => exact .cons h1 (ih h2)
theorem TrnL.len : ∀ {ts ts' : List Tn}, TrnL ts ts' → ts.length = ts'.length := by
  intro ts
  induction ts with
  | nil => intro ts' hs; cases hs; rfl
  | cons u us ih => intro ts' hs; cases hs with | cons h1 h2 => simp [ih h2]
theorem res23 (tmps : Array Value) (w : World) (tb : Nat) (cs : Array Value) (v : Value) (h6 : tmps.getD 6 undef = .pointer (some ⟨tb, 0, none⟩)) (h7 : tmps.getD 7 undef = v) (ht : w.heap[tb]? = some (.cells cs 28 (0, 0))) (h9 : cs.size = 9) :
    (results Try.f23 tmps).run Try.prog w = .ok (.tuple #[.agg cs, v]) w := by
  have h28 : (Try.prog.info? 28).map (fun i => i.size) = some cs.size := by
    rw [h9]
    kernel_rfl
  have hl := run_loadVar_row (P := Try.prog) w tb 28 28 cs (0, 0) _ ht Try.underlying28 rfl h28
  have h6' : tmps[6]?.getD undef = .pointer (some ⟨tb, 0, none⟩) := by simpa using h6
  have h7' : tmps[7]?.getD undef = v := by simpa using h7
  simp [results, Try.results23, h6', h7', asAddr, hl, Result.andThen]
/-- one more, with the node's own box between -/
theorem RowN.next' {base B : Nat} {w w2 X w3 : World} {uv v' : Value} {MS : List Nv} {us : List Tn} {A : Nat → Prop} (h : RowN base B w uv MS us A) {M : Nv} {u : Tn} (hb : Below w.heap.size w w2) (hM : TP w2 (fun b => b < B ∨ w.heap.size ≤ b ∧ b < w2.heap.size) M u) (hX : Below w2.heap.size w2 X) (o : Obj)
    (ho : w3.ownsRow base 28 9 v' (MS.length + 1) (MS.flatMap Nv.cs ++ Nv.cs M)) (hm : Moved (X.alloc o) w3 uv v') : RowN base B w3 v' (MS ++ [M]) (us ++ [u]) (fun b => A b ∨ w.heap.size ≤ b ∧ b < X.heap.size) := by
  have hs := hX.size
  have hs2 := hb.size
  have hBs : ∀ b, b < B → b < w.heap.size := fun b hb => h.low b (h.inA b hb)
  refine h.next (Nat.le_refl _) (fun b hb => rfl) (hb.trans (Joins.below_le hX hb.size)) (hM.kept (fun b hb => ?_) (fun b hb => ?_)) o ho hm
  · exact hX.block b (by rcases hb with hb | hb; have := hBs b hb; omega; omega)
  · rcases hb with hb | hb
    · exact .inl hb
    · exact .inr ⟨hb.1, by omega⟩
/-- one more that is there already -/
theorem RowN.push {base B : Nat} {w w3 : World} {uv v' : Value} {MS : List Nv} {us : List Tn} {A : Nat → Prop} (h : RowN base B w uv MS us A) {M : Nv} {u : Tn} (hM : TP w A M u) (o : Obj)
    (ho : w3.ownsRow base 28 9 v' (MS.length + 1) (MS.flatMap Nv.cs ++ Nv.cs M)) (hm : Moved (w.alloc o) w3 uv v') : RowN base B w3 v' (MS ++ [M]) (us ++ [u]) A := by
  have e3 : ∀ k, k < w.heap.size → uv.ownBlock ≠ some k → w3.heap[k]? = w.heap[k]? := fun k hk hn => (moved_old' hm (by simp; omega) hn).trans (heap_alloc_old w o hk)
  have hs3 : w.heap.size ≤ w3.heap.size := by rcases hm with ⟨_, h⟩ | ⟨_, h⟩ <;> (have := h.size; simp at this; omega)
  have hk : ∀ b, A b → w3.heap[b]? = w.heap[b]? := fun b hA => e3 b (h.low b hA) (fun e => h.out b e hA)
  have hl := h.len
  refine ⟨?_, by simp [h.len], fun j hj hj' => ?_, h.inA, fun b hA => by have := h.low b hA; omega, fun b hb hA => ?_⟩
  · rw [List.length_append, List.flatMap_append]
    simpa using ho
  · by_cases hjl : j < us.length
    · rw [List.getElem_append_left (by omega), List.getElem_append_left hjl]
      exact (h.tp j hjl (by omega)).kept hk (fun b hA => hA)
    · simp only [List.length_append, List.length_cons, List.length_nil] at hj hj'
      have e : j = us.length := by omega
      subst e
      rw [List.getElem_append_right (by omega), List.getElem_append_right (Nat.le_refl _)]
      simp only [Nat.sub_self, hl, List.getElem_cons_zero]
      exact hM.kept hk (fun b hA => hA)
  · rcases hm with ⟨h0, _⟩ | ⟨h0, _⟩
    · rw [h0] at hb
      exact h.out b hb hA
    · rw [h0] at hb
      simp at hb
      have := h.low b hA
      omega
/-- the node that is handed back -/
theorem fin23 {w wr X Y : World} {B base : Nat} {k a2 a4 a5 a7 : Int} {a6 lz : Bool} {a8 : ByteArray} {r1 u1 s1 : Option Addr} {r2 r3 n u3 s2 s3 : Nat} {R : List (Int × Int)} {us : List Tn} {MS : List Nv} {A : Nat → Prop} (hB : B ≤ w.heap.size) (hbase : w.heap.size + 1 + 1 ≤ base)
    (hRN : RowN base B wr (.slice u1 n u3) MS us A) (hA : ∀ b, A b → b < B ∨ w.heap.size + 1 + 1 ≤ b) (ok : Nv.ok ⟨k, r1, r2, r3, a2, s1, s2, s3, a4, a5, a6, a7, a8⟩) (hr : r2 = R.length) (hR : RP wr (fun b => b < B) r1 R) (hRk : ∀ x ∈ R, I64ok x.1 ∧ I64ok x.2)
    (hX : ∀ j, j ≠ w.heap.size → X.heap[j]? = wr.heap[j]?) (hY : ∀ j, j ≠ w.heap.size + 1 → Y.heap[j]? = X.heap[j]?) (hYs : Y.heap.size = wr.heap.size) :
    TP Y (fun b => b < B ∨ w.heap.size ≤ b ∧ b < Y.heap.size) ⟨k, r1, r2, r3, a2, u1, n, u3, a4, a5, lz, a7, a8⟩ (.mk k R a2 us a4 a5 lz a7 a8) := by
  have hkeep : ∀ k, k ≠ w.heap.size → k ≠ w.heap.size + 1 → Y.heap[k]? = wr.heap[k]? := fun k h1 h2 => (hY k h2).trans (hX k h1)
  have hAk : ∀ k, A k → Y.heap[k]? = wr.heap[k]? := fun k hk => by
    rcases hA k hk with h | h
    · exact hkeep k (by omega) (by omega)
    · exact hkeep k (by omega) (by omega)
  have hcap : n ≤ u3 ∧ u3 ≤ maxLen := by
    rcases hRN.row.2 with ⟨e, h0⟩ | ⟨g, cap, cur, e, _, _, h2, h3, _⟩
    · simp only [Value.slice.injEq] at e
      obtain ⟨_, rfl, rfl⟩ := e
      exact ⟨Nat.le_refl _, by simp [maxLen]⟩
    · simp only [Value.slice.injEq] at e
      obtain ⟨_, e2, rfl⟩ := e
      exact ⟨by omega, h3⟩
  have hTP := hRN.node (N := ⟨k, r1, r2, r3, a2, u1, n, u3, a4, a5, lz, a7, a8⟩) (R := R) ⟨ok.k, ok.a2, ok.a4, ok.a5, ok.a7, ok.a8, ok.r, hcap⟩ hr (hR.kept (fun _ _ => rfl) (fun b hb => hRN.inA b hb)) hRk rfl
  refine hTP.kept (fun b hb => ?_) (fun b hb => ?_)
  · rcases hb with hb | hb
    · exact hAk b hb
    · have := (hRN.row.lt b hb).1
      exact hkeep b (by omega) (by omega)
  · rcases hb with hb | hb
    · rcases hA b hb with h | h
      · exact .inl h
      · right; have := hRN.low b hb; omega
    · right; have := hRN.row.lt b hb; omega
/-- a node of a row, cell by cell -/
theorem RowN.cells {base B : Nat} {w : World} {b n cap : Nat} {MS : List Nv} {us : List Tn} {A : Nat → Prop} (h : RowN base B w (.slice (some ⟨b, 0, none⟩) n cap) MS us A) (p : Nat) (hp : p < MS.length) : N9 w b 0 p MS[p] := by
  have hrow := h.row
  have hn : n = MS.length := by
    rcases hrow.2 with ⟨e, h0⟩ | ⟨g, cap, cur, e, _⟩
    · cases e
    · simp only [Value.slice.injEq] at e
      exact e.2.1
  subst hn
  have c : ∀ k, k < 9 → w.cell? ⟨b, 0 + p * 9 + k, none⟩ = (Nv.cs MS[p])[k]? := fun k hk => by
    rw [Nat.zero_add, hrow.cellAt (p * 9 + k) (by omega), flat9 MS p k hp hk]
  exact ⟨c 0 (by omega), c 1 (by omega), c 2 (by omega), c 3 (by omega), c 4 (by omega), c 5 (by omega), c 6 (by omega), c 7 (by omega), c 8 (by omega)⟩
set_option maxRecDepth 100000 in
set_option maxHeartbeats 8000000 in
theorem turned23 {w0 : World} {B : Nat} {N : Nv} {t : Tn} (h : TI w0 B N t) (raw : List Int) (rad : Option Addr) (rn rcap : Nat) (hraw : Look.TextAt B w0 rad rn raw) : t.fine = true → ∀ (n0 : Int), 0 ≤ n0 → n0 + t.nodes ≤ 1000000 → ∀ (w : World), B ≤ w.heap.size → (∀ b, b < B → w.heap[b]? = w0.heap[b]?) →
    Calls Try.prog 23 #[N.v, .slice rad rn rcap, .int .i64 n0] w fun e w' => ∃ (M : Nv) (u : Tn) (m : Int), e = .returned (.tuple #[M.v, .int .i64 m]) ∧ TP w' (fun b => b < B ∨ w.heap.size ≤ b ∧ b < w'.heap.size) M u ∧ Trn t u ∧ (n0 ≤ m ∧ m ≤ n0 + t.nodes) ∧ Below w.heap.size w w' := by
  induction h with
  | @mk N R ts ND ok hr hR hRk hs hS hk ih =>
  intro hf n0 hn0 hno w hB hw
  simp only [Tn.fine, Bool.and_eq_true] at hf
  simp only [Tn.nodes] at hno ⊢
  have hfg := fineL_get hf.2
  have IH : ∀ i (hi : i < ts.length) (n : Int), 0 ≤ n → n + ts[i].nodes ≤ 1000000 → ∀ (w : World), B ≤ w.heap.size → (∀ b, b < B → w.heap[b]? = w0.heap[b]?) → Calls Try.prog 23 #[(ND i).v, .slice rad rn rcap, .int .i64 n] w fun e w' => ∃ (M : Nv) (u : Tn) (m : Int), e = .returned (.tuple #[M.v, .int .i64 m]) ∧ TP w' (fun b => b < B ∨ w.heap.size ≤ b ∧ b < w'.heap.size) M u ∧ Trn ts[i] u ∧ (n ≤ m ∧ m ≤ n + ts[i].nodes) ∧ Below w.heap.size w w' := fun i hi => ih i hi (hfg i hi)
  have hlen : ts.length ≤ 1000000 := by have := nodes_ge ts; omega
  have hRw : ∀ w1 : World, (∀ b, b < B → w1.heap[b]? = w0.heap[b]?) → RP w1 (fun b => b < B) N.r1 R := fun w1 h1 => (show RP w0 (fun b => b < B) N.r1 R from hR).kept h1 (fun b hb => hb)
  have hok := ok
  have HRL0 := hid hr
  obtain ⟨k, r1, r2, r3, a2, s1, s2, s3, a4, a5, a6, a7, a8⟩ := N
  simp only at hs hS
  have hflip : ∃ (x : Int) (rb ro : Nat), n0 < (rn : Int) → rad = some ⟨rb, ro, none⟩ ∧ rb < B ∧ w.cell? ⟨rb, ro + n0.toNat, none⟩ = some (.int .i64 x) := by
    by_cases hl : n0 < (rn : Int)
    · rcases hraw.2.2 with h0 | ⟨b, off, ha, hb, hc⟩
      · omega
      · exact ⟨_, b, off, fun _ => ⟨ha, hb, (cell_eq (hw b hb) _).trans (hc n0.toNat (by omega))⟩⟩
    · exact ⟨0, 0, 0, fun h => absurd h hl⟩
  have HW := hid hw
  have HS := hid hS
  have HIH := hid IH
  have HL := hid hs
  have HRW := hid hRw
  have HNO := hid hno
  have HFL := hid hflip
  obtain ⟨i0, hi0, hz0, hz1, hz2⟩ := info_parts info28
  have HOK := hid hok
  have HRL : Hid (r2 = R.length) := HRL0.out
  have hn1 : n0 ≤ 1000000 := by omega
  have hm2 : s2 ≤ 1000000 := by omega
  clear HRL0 ok hr hR hk hS hw ih hs hf hfg IH hRw hlen hok hno hflip hraw
  have ad0 : IntKind.i64.wrap (n0 + 1) = n0 + 1 := by simp [IntKind.wrap, IntKind.bits, IntKind.signed]; omega
  go_enter Try.func23, Try.ntmps23
  go_upto_region 1 with fail
  go_cut [8] from 15 to 26 (fun x wx => ∃ fl : Bool, x = .bool fl ∧ wx = (w.alloc (.cells #[.int .i64 k, .slice r1 r2 r3, .int .i64 a2, .slice s1 s2 s3, .int .i64 a4, .int .i64 a5, .bool a6, .int .i64 a7, .string a8] 28)).alloc (.cells #[.int .i64 0, .slice none 0 0, .int .i64 0, .slice none 0 0, .int .i64 0, .int .i64 0, .bool false, .int .i64 0, .string ⟨#[]⟩] 28))
  case first =>
    by_cases hl : n0 < (rn : Int)
    · obtain ⟨x, rb, ro, hx⟩ := HFL.out
      obtain ⟨rfl, hrb, hc⟩ := hx hl
      have b1 : decide (n0 < (rn : Int)) = true := by simp; omega
      have hrb2 : rb < w.heap.size := by omega
      have b0 : (0 : Int) ≤ n0 := hn0
      go_wp2
      go_meet
      exact ⟨_, rfl, rfl⟩
    · have b1 : decide (n0 < (rn : Int)) = false := by simp; omega
      go_wp2
      go_meet
      exact ⟨_, rfl, rfl⟩
  case rest =>
  obtain ⟨fl, rfl, rfl⟩ := hcut
  clear HFL
  go_wp2_with fail
  go_loopw [2, 9, 10] (fun nx u y wq => ∃ (i : Nat) (m : Int) (u1 : Option Addr) (u3 : Nat), nx = .int .i64 m ∧ u = .slice u1 i u3 ∧ y = .int .i64 (i : Int) ∧ i ≤ s2 ∧ (n0 + 1 ≤ m ∧ m ≤ 1000000) ∧ Hid (m ≤ n0 + 1 + (nodesL (ts.take i) : Nat)) ∧ Hid (∃ MS us A, RowN (w.heap.size + 1 + 1) B wq (.slice u1 i u3) MS us A ∧ TrnL (ts.take i) us ∧ ∀ b, A b → b < B ∨ w.heap.size + 1 + 1 ≤ b) ∧ Hid (Below w.heap.size w wq) ∧ Hid (wq.heap[w.heap.size]? = some (.cells #[.int .i64 k, .slice r1 r2 r3, .int .i64 a2, .slice s1 s2 s3, .int .i64 a4, .int .i64 a5, .bool a6, .int .i64 a7, .string a8] 28 (0, 0))) ∧ Hid (wq.heap[w.heap.size + 1]? = some (.cells #[.int .i64 0, .slice none 0 0, .int .i64 0, .slice none 0 0, .int .i64 0, .int .i64 0, .bool false, .int .i64 0, .string ⟨#[]⟩] 28 (0, 0)))) (fun _ _ y _ => s2 - (intOf y).toNat)
  case atStart => exact ⟨0, n0 + 1, none, 0, rfl, rfl, rfl, by omega, by have := HNO.out; omega, by show _ ≤ _; simp [nodesL], by exact ⟨[], [], _, RowN.nil _ B _ (by simp; omega), .nil, fun b hb => .inl hb⟩, below_two' w _ _, (heap_alloc_old _ _ (by simp)).trans (heap_alloc_new w _), two_new w _ _ _⟩
  case round =>
    obtain ⟨i, m, u1, u3, rfl, rfl, rfl, hi, hmb, HMB, HI, BK, BX, BY⟩ := hrel
    obtain ⟨o0, o1, o2, o3, o4, o5, o6, o7, o8⟩ := nine' BX.out
    by_cases hil : i < s2
    · have b1 : decide ((i : Int) < (s2 : Int)) = true := by simp; omega
      have b2 : (i : Int) < (s2 : Int) := by omega
      have hlt : i < ts.length := by rw [← HL.out]; exact hil
      obtain ⟨b, o, hs1, hb, hc⟩ := HS.out (by omega)
      subst hs1
      have hwk : ∀ b, b < B → wr.heap[b]? = w0.heap[b]? := fun b hb => (BK.out.block b (by omega)).trans (HW.out b hb)
      obtain ⟨n0', n1', n2', n3', n4', n5', n6', n7', n8'⟩ := (hc i hlt).kept (hwk b hb)
      have HC := HIH.out i hlt m (by omega) (by have := HMB.out; have := HNO.out; have h1 := nodesL_take ts i hlt; have h2 := nodesL_take_le ts (i + 1); omega) wr (by have := BK.out.size; omega) hwk
      obtain ⟨MS, us, A, hRN, hTL, hA⟩ := HI.out
      obtain ⟨P, hP⟩ : ∃ P, P = ND i := ⟨_, rfl⟩
      rw [← hP] at HC n0' n1' n2' n3' n4' n5' n6' n7' n8'
      have ad1 : IntKind.i64.wrap ((i : Int) + 1) = (i : Int) + 1 := by simp [IntKind.wrap, IntKind.bits, IntKind.signed]; omega
      have hml : MS.length = i := by have := hRN.len; have h1 := hTL.len; simp at h1; omega
      have HRN := hid hRN
      have HTL := hid hTL
      have HA := hid hA
      have HML := hid hml
      clear hP hwk hc hRN hA hml HI hTL
      go_upto_region 8 with (first | (go_at_call 23; (with_reducible refine HC.mono ?_); rintro e w2 ⟨M, u, m2, rfl, hM, hT, hm2', hb2⟩; have HM := hid hM; have HT := hid hT; have HB2 := hid hb2; have HM2 := hid hm2'; clear hM hT hb2 hm2' HC))
      obtain ⟨X, hX⟩ : ∃ X, X = w2.alloc (.cells #[.int .i64 M.k, .slice M.r1 M.r2 M.r3, .int .i64 M.a2, .slice M.s1 M.s2 M.s3, .int .i64 M.a4, .int .i64 M.a5, .bool M.a6, .int .i64 M.a7, .string M.a8] 28) := ⟨_, rfl⟩
      rw [← hX]
      have hXb : Below w2.heap.size w2 X := by rw [hX]; exact Joins.below_alloc1 w2 _
      have hXs : X.heap.size = w2.heap.size + 1 := by rw [hX]; simp
      have hXn : X.heap[w2.heap.size]? = some (.cells #[.int .i64 M.k, .slice M.r1 M.r2 M.r3, .int .i64 M.a2, .slice M.s1 M.s2 M.s3, .int .i64 M.a4, .int .i64 M.a5, .bool M.a6, .int .i64 M.a7, .string M.a8] 28 (0, 0)) := by rw [hX]; exact heap_alloc_new w2 _
      obtain ⟨x0, x1, x2, x3, x4, x5, x6, x7, x8⟩ := nine' hXn
      have hrow2 : X.ownsRow (w.heap.size + 1 + 1) 28 9 (.slice u1 i u3) i (MS.flatMap Nv.cs) := by
        have h := row_kept HRN.out.row (w' := X) (fun b hb => (hXb.block b (by have := (HRN.out.row.lt b hb).2; have := HB2.out.size; omega)).trans (HB2.out.block b (HRN.out.row.lt b hb).2))
        rw [HML.out] at h
        exact h
      have HR2 := hid hrow2
      have HXB := hid hXb
      have HXS := hid hXs
      have hsX : w.heap.size + 1 + 1 ≤ X.heap.size := by have := HB2.out.size; have := (Array.getElem?_eq_some_iff.1 BY.out).1; omega
      clear hX hXb hXs hXn hrow2
      go_wp2_with (first | (at_builtin; refine wpList_append_moveN rfl (.tmp 48) (.tmp 50) 26 rfl (w.heap.size + 1 + 1) 28 i0 Z9 9 112 Try.underlying26 hi0 hz0 hz1 hz2 rfl (by decide) (.slice u1 i u3) i (MS.flatMap Nv.cs) rfl (HR2.out.alloc _) ⟨X.heap.size, 0, none⟩ 1 1 (Nv.cs M) rfl rfl (by decide) (news9 X M) (one9 M) (by unfold maxLen; omega) (by omega) (by simp; omega) ?_; intro v' w3 ho3 hm3; obtain ⟨vb, vc, rfl⟩ := Joins.ownsRow_form ho3.out (by omega)))
      have hold : ∀ k, k < w.heap.size + 1 + 1 → w3.heap[k]? = wr.heap[k]? := fun k hk => by
        have hyl := (Array.getElem?_eq_some_iff.1 BY.out).1
        have hne : (Value.slice u1 i u3).ownBlock ≠ some k := fun e => by have := (HRN.out.row.lt k e).1; omega
        have := HB2.out.size
        have := HXS.out
        exact (moved_old' hm3.out (by simp; omega) hne).trans ((heap_alloc_old X _ (by omega)).trans ((HXB.out.block k (by omega)).trans (HB2.out.block k (by omega))))
      have hs3 : X.heap.size ≤ w3.heap.size := by rcases hm3.out with ⟨_, h⟩ | ⟨_, h⟩ <;> (have := h.size; simp at this; omega)
      have hbel : Below w.heap.size w w3 := by
        have hsz := BK.out.size
        have hsz2 := HB2.out.size
        have hsx := HXS.out
        refine ⟨?_, ?_, ?_, by omega, fun k hk => (hold k (by omega)).trans (BK.out.block k hk)⟩
        · rcases hm3.out with ⟨_, h⟩ | ⟨_, h⟩ <;> exact h.os.trans (HXB.out.os.trans (HB2.out.os.trans BK.out.os))
        · rcases hm3.out with ⟨_, h⟩ | ⟨_, h⟩ <;> exact h.tape.trans (HXB.out.tape.trans (HB2.out.tape.trans BK.out.tape))
        · rcases hm3.out with ⟨_, h⟩ | ⟨_, h⟩ <;> exact h.output.trans (HXB.out.output.trans (HB2.out.output.trans BK.out.output))
      have hnx := HRN.out.next' HB2.out HM.out HXB.out _ (by rw [HML.out]; exact ho3.out) hm3.out
      have hex : ∃ MS us A, RowN (w.heap.size + 1 + 1) B w3 (.slice (some ⟨vb, 0, none⟩) (i + 1) vc) MS us A ∧ TrnL (ts.take (i + 1)) us ∧ ∀ b, A b → b < B ∨ w.heap.size + 1 + 1 ≤ b := by
        refine ⟨MS ++ [M], us ++ [u], _, hnx, ?_, fun b hb => ?_⟩
        · rw [List.take_succ_eq_append_getElem hlt]
          exact HTL.out.snoc HT.out
        · rcases hb with hb | hb
          · exact HA.out b hb
          · right; have := (Array.getElem?_eq_some_iff.1 BY.out).1; omega
      have hmb2 : m2 ≤ n0 + 1 + (nodesL (ts.take (i + 1)) : Nat) := by have := HM2.out.2; have := HMB.out; have h1 := nodesL_take ts i hlt; omega
      have hmb3 : m2 ≤ 1000000 := by have h2 := nodesL_take_le ts (i + 1); have := HNO.out; omega
      exact ⟨⟨i + 1, m2, _, _, rfl, rfl, by push_cast; rfl, by omega, ⟨by have := HM2.out.1; omega, hmb3⟩, hmb2, hex, hbel, (hold _ (by omega)).trans BX.out, (hold _ (by omega)).trans BY.out⟩, by simp [intOf]; omega⟩
    · have b1 : decide ((i : Int) < (s2 : Int)) = false := by simp; omega
      obtain rfl : i = s2 := by omega
      obtain ⟨MS, us, A, hRN, hTL, hA⟩ := HI.out
      have htk : ts.take i = ts := by rw [HL.out, List.take_length]
      rw [htk] at hTL
      have hmb2 : m ≤ n0 + ((1 + nodesL ts : Nat) : Int) := by have := HMB.out; rw [htk] at this; push_cast; omega
      have hml : MS.length = i := by have := hRN.len; have h1 := hTL.len; have := HL.out; omega
      have HRN := hid hRN
      have HTL := hid hTL
      have HA := hid hA
      have HML := hid hml
      clear HI hRN hTL hA hml htk HMB HIH HNO
      by_cases c5 : fl = true ∧ k = 5
      · obtain ⟨rfl, rfl⟩ := c5
        obtain ⟨W1, hW1⟩ : ∃ W1, W1 = wr := ⟨_, rfl⟩
        subst hW1
        have hul := HRN.out.len
        have HUL := hid hul
        clear hul
        have sb : IntKind.i64.wrap ((i : Int) - 1) = (i : Int) - 1 := by simp [IntKind.wrap, IntKind.bits, IntKind.signed]; omega
        go_wp2_with fail
        go_loopw [13, 14] (fun u y wq => ∃ (j q : Nat) (z : Int) (v1 : Option Addr) (v3 : Nat), u = .slice v1 j v3 ∧ y = .int .i64 z ∧ Hid (z = (q : Int) - 1) ∧ (-1 ≤ z ∧ z < 1000000) ∧ Hid (j + q = i) ∧ Hid (∃ MS' us', RowN W1.heap.size B wq (.slice v1 j v3) MS' us' A ∧ MS' = MS.reverse.take j ∧ us' = us.reverse.take j) ∧ Hid (RowN (w.heap.size + 1 + 1) B wq (.slice u1 i u3) MS us A) ∧ Hid (Below w.heap.size w wq) ∧ Hid (Below W1.heap.size W1 wq)) (fun _ y _ => ((intOf y) + 1).toNat)
        case atStart => exact ⟨0, i, (i : Int) - 1, none, 0, rfl, rfl, by exact rfl, by omega, by show _ = _; omega, by exact ⟨[], [], ⟨World.ownsRow_nil _ _ _ _, rfl, fun j h => by simp at h, HRN.out.inA, HRN.out.low, fun b hb => by cases hb⟩, by simp, by simp⟩, HRN, BK, by exact Below.refl _ _⟩
        case round =>
          obtain ⟨j, q, z, v1, v3, rfl, rfl, HZ', hzb, HJQ, HO, HRN', BK2, BW⟩ := hrel
          cases q with
          | zero =>
            have hz : z = -1 := by have := HZ'.out; omega
            subst hz
            have hj : j = i := by have := HJQ.out; omega
            subst hj
            obtain ⟨MS', us', hR2, hM', hU'⟩ := HO.out
            have e1 : us.reverse.take j = us.reverse := by rw [List.take_of_length_le]; simp; have := HUL.out; have := HML.out; omega
            rw [e1] at hU'
            subst hU'
            have hXX := (Array.getElem?_eq_some_iff.1 BX.out).1
            have hYY := (Array.getElem?_eq_some_iff.1 BY.out).1
            have bx2 := (BW.out.block _ hXX).trans BX.out
            have by2 := (BW.out.block _ hYY).trans BY.out
            have BY2 := hid by2
            obtain ⟨o0, o1, o2, o3, o4, o5, o6, o7, o8⟩ := nine' bx2
            obtain ⟨q0, q1, q2, q3, q4, q5, q6, q7, q8⟩ := nine' by2
            have fx3 := Joins.unfrozen_of_block bx2 3
            have f0 := Joins.unfrozen_of_block by2 0
            have f1 := Joins.unfrozen_of_block by2 1
            have f2 := Joins.unfrozen_of_block by2 2
            have f3 := Joins.unfrozen_of_block by2 3
            have f4 := Joins.unfrozen_of_block by2 4
            have f5 := Joins.unfrozen_of_block by2 5
            have f6 := Joins.unfrozen_of_block by2 6
            have f7 := Joins.unfrozen_of_block by2 7
            have f8 := Joins.unfrozen_of_block by2 8
            have HR2 := hid hR2
            clear HZ' hzb HJQ HO hM' e1 bx2 by2 hR2
            go_wp2
            obtain ⟨X, hX⟩ : ∃ X, X = wr.setCell ⟨w.heap.size, 3, none⟩ (.slice v1 j v3) := ⟨_, rfl⟩
            rw [← hX]
            have hXo : ∀ k, k ≠ w.heap.size → X.heap[k]? = wr.heap[k]? := fun k hk => by rw [hX]; exact Below.heap_setCell _ _ _ _ hk
            have hXs : X.heap.size = wr.heap.size := by rw [hX]; simp [World.setCell]
            have hXb : Below w.heap.size w X := by rw [hX]; exact BK2.out.setCell (by exact Nat.le_refl _) _
            obtain ⟨y1, y2, y3, y4⟩ := nineSet X (w.heap.size + 1) (.int .i64 5) (.slice r1 r2 r3) (.int .i64 a2) (.slice v1 j v3) (.int .i64 a4) (.int .i64 a5) (.bool a6) (.int .i64 a7) (.string a8) ((hXo _ (by omega)).trans BY2.out)
            obtain ⟨Y, hY⟩ : ∃ Y, Y = ((((((((((((((((((X).setCell ⟨w.heap.size + 1, 0, none⟩ (.int .i64 5))).setCell ⟨w.heap.size + 1, 1, none⟩ (.slice r1 r2 r3))).setCell ⟨w.heap.size + 1, 2, none⟩ (.int .i64 a2))).setCell ⟨w.heap.size + 1, 3, none⟩ (.slice v1 j v3))).setCell ⟨w.heap.size + 1, 4, none⟩ (.int .i64 a4))).setCell ⟨w.heap.size + 1, 5, none⟩ (.int .i64 a5))).setCell ⟨w.heap.size + 1, 6, none⟩ (.bool a6))).setCell ⟨w.heap.size + 1, 7, none⟩ (.int .i64 a7))).setCell ⟨w.heap.size + 1, 8, none⟩ (.string a8)) := ⟨_, rfl⟩
            rw [← hY] at y1 y2 y3 y4
            have y4' := y4 hXb (by omega)
            rw [← hY]
            refine bodyPost_ret (res23 _ _ (w.heap.size + 1) _ (.int .i64 m) rfl rfl y1 rfl) rfl ?_
            have hwk : ∀ b, b < B → wr.heap[b]? = w0.heap[b]? := fun b hb => (BK2.out.block b (by omega)).trans (HW.out b hb)
            exact ⟨⟨5, r1, r2, r3, a2, v1, j, v3, a4, a5, a6, a7, a8⟩, .mk 5 R a2 us.reverse a4 a5 a6 a7 a8, m, rfl, fin23 hB (by omega) HR2.out HA.out HOK.out HRL.out (HRW.out wr hwk) hRk hXo y2 (y3.trans hXs), .mk HTL.out (.inr ⟨rfl, rfl⟩) (fun _ => rfl), ⟨by omega, hmb2⟩, y4'⟩
          | succ p =>
            have hz : z = (p : Int) := by have := HZ'.out; omega
            subst hz
            have hjp : j + (p + 1) = i := HJQ.out
            have hp1 : p < MS.length := by have := HML.out; omega
            have hp2 : p < us.length := by have := HUL.out; omega
            have HRNo := HRN'.out
            obtain ⟨b, cap, hfm⟩ : ∃ b cap, Value.slice u1 i u3 = .slice (some ⟨b, 0, none⟩) i cap := by
              have := Joins.ownsRow_forms HRNo.row
              rw [HML.out] at this
              rcases this with ⟨e, h0⟩ | ⟨b, cap, e⟩
              · omega
              · exact ⟨b, cap, e⟩
            simp only [Value.slice.injEq] at hfm
            obtain ⟨hu1, _, hu3⟩ := hfm
            subst hu1 hu3
            obtain ⟨n0', n1', n2', n3', n4', n5', n6', n7', n8'⟩ := HRNo.cells p hp1
            simp only [Nat.zero_add] at n0' n1' n2' n3' n4' n5' n6' n7' n8'
            have htp := HRNo.tp p hp2 hp1
            obtain ⟨MS', us', hR2, hM', hU'⟩ := HO.out
            have em : MS.reverse.take (j + 1) = MS.reverse.take j ++ [MS[p]] := by
              rw [List.take_succ_eq_append_getElem (by simp; have := HML.out; omega), List.getElem_reverse]
              congr 3
              have := HML.out; omega
            have eu : us.reverse.take (j + 1) = us.reverse.take j ++ [us[p]] := by
              rw [List.take_succ_eq_append_getElem (by simp; have := HML.out; have := HUL.out; omega), List.getElem_reverse]
              congr 3
              have := HML.out; have := HUL.out; omega
            obtain ⟨M, hMp⟩ : ∃ M, M = MS[p] := ⟨_, rfl⟩
            obtain ⟨u, hup⟩ : ∃ u, u = us[p] := ⟨_, rfl⟩
            rw [← hMp] at n0' n1' n2' n3' n4' n5' n6' n7' n8' htp em
            rw [← hup] at htp eu
            have hml2 : MS'.length = j := by rw [hM']; simp; have := HML.out; omega
            have HR2 := hid hR2
            have HTP := hid htp
            have HEM := hid em
            have HEU := hid eu
            have HM' := hid hM'
            have HU' := hid hU'
            have HML2 := hid hml2
            have hrow2 : wr.ownsRow W1.heap.size 28 9 (.slice v1 j v3) j (MS'.flatMap Nv.cs) := by have h := hR2.row; rw [hml2] at h; exact h
            have HROW := hid hrow2
            have g1 : decide ((p : Int) ≥ 0) = true := by simp
            have g1' : decide (0 ≤ (p : Int)) = true := by simp
            have g2 : (p : Int) < (i : Int) := by omega
            have ad2 : IntKind.i64.wrap ((p : Int) - 1) = (p : Int) - 1 := by simp [IntKind.wrap, IntKind.bits, IntKind.signed]; omega
            have hsW : W1.heap.size ≤ wr.heap.size := BW.out.size
            clear hMp hup hR2 htp em eu hM' hU' hml2 hrow2 HZ' HRNo hp1 hp2 HO
            go_wp2_with (first | (at_builtin; refine wpList_append_moveN rfl (.tmp 65) (.tmp 70) 26 rfl W1.heap.size 28 i0 Z9 9 112 Try.underlying26 hi0 hz0 hz1 hz2 rfl (by decide) (.slice v1 j v3) j (MS'.flatMap Nv.cs) rfl (HROW.out.alloc _) ⟨wr.heap.size, 0, none⟩ 1 1 (Nv.cs M) rfl rfl (by decide) (news9 wr M) (one9 M) (by unfold maxLen; omega) (by omega) (by simp; omega) ?_; intro v' w3 ho3 hm3; obtain ⟨vb, vc, rfl⟩ := Joins.ownsRow_form ho3.out (by omega)))
            have hold : ∀ k, k < W1.heap.size → w3.heap[k]? = wr.heap[k]? := fun k hk => by
              have hne : (Value.slice v1 j v3).ownBlock ≠ some k := fun e => by have := (HROW.out.lt k e).1; omega
              exact (moved_old' hm3.out (by simp; omega) hne).trans (heap_alloc_old wr _ (by omega))
            have hs3 : wr.heap.size ≤ w3.heap.size := by rcases hm3.out with ⟨_, h⟩ | ⟨_, h⟩ <;> (have := h.size; simp at this; omega)
            have hbw : Below W1.heap.size wr w3 := by
              refine ⟨?_, ?_, ?_, hs3, fun k hk => hold k hk⟩
              · rcases hm3.out with ⟨_, h⟩ | ⟨_, h⟩ <;> exact h.os
              · rcases hm3.out with ⟨_, h⟩ | ⟨_, h⟩ <;> exact h.tape
              · rcases hm3.out with ⟨_, h⟩ | ⟨_, h⟩ <;> exact h.output
            have hnx := HR2.out.push HTP.out _ (by rw [HML2.out]; exact ho3.out) hm3.out
            have hR1 := HRN'.out
            have hrn2 : RowN (w.heap.size + 1 + 1) B w3 (.slice (some ⟨b, 0, none⟩) i u3) MS us A := by
              have hbl : b < W1.heap.size := (HRN.out.row.lt b rfl).2
              refine ⟨row_kept hR1.row (fun b' hb' => ?_), hR1.len, fun j h h' => (hR1.tp j h h').kept (fun b' hb' => hold b' (HRN.out.low b' hb')) (fun _ h => h), hR1.inA, fun b' hb' => by have := hR1.low b' hb'; omega, hR1.out⟩
              have : b = b' := by simpa [Value.ownBlock] using hb'
              subst this
              exact hold b hbl
            refine ⟨⟨j + 1, p, _, _, _, rfl, rfl, by exact rfl, by omega, by show _ = _; omega, by exact ⟨_, _, hnx, by rw [HEM.out, HM'.out], by rw [HEU.out, HU'.out]⟩, hrn2, by exact BK2.out.trans (hbw.mono (by have := BK.out.size; omega)), by exact BW.out.trans hbw⟩, by simp [intOf] <;> omega⟩
      · obtain ⟨q0, q1, q2, q3, q4, q5, q6, q7, q8⟩ := nine' BY.out
        have fx := fun j => Joins.unfrozen_of_block BX.out j
        have fx3 := fx 3
        have fx6 := fx 6
        have fy := fun j => Joins.unfrozen_of_block BY.out j
        have f0 := fy 0
        have f1 := fy 1
        have f2 := fy 2
        have f3 := fy 3
        have f4 := fy 4
        have f5 := fy 5
        have f6 := fy 6
        have f7 := fy 7
        have f8 := fy 8
        clear fx fy
        by_cases c6 : fl = true ∧ k = 6
        · obtain ⟨rfl, rfl⟩ := c6
          have hRN := HRN.out
          clear HRN c5
          have k6 : ((6 : Int) == 5) = false := by decide
          go_wp2
          obtain ⟨X, hX⟩ : ∃ X, X = (wr.setCell ⟨w.heap.size, 6, none⟩ (.bool (!a6))).setCell ⟨w.heap.size, 3, none⟩ (.slice u1 i u3) := ⟨_, rfl⟩
          rw [← hX]
          have hXo : ∀ k, k ≠ w.heap.size → X.heap[k]? = wr.heap[k]? := fun k hk => by rw [hX]; exact (Below.heap_setCell _ _ _ _ hk).trans (Below.heap_setCell _ _ _ _ hk)
          have hXs : X.heap.size = wr.heap.size := by rw [hX]; simp [World.setCell]
          have hXb : Below w.heap.size w X := by rw [hX]; exact (BK.out.setCell (by exact Nat.le_refl _) _).setCell (by exact Nat.le_refl _) _
          obtain ⟨y1, y2, y3, y4⟩ := nineSet X (w.heap.size + 1) (.int .i64 6) (.slice r1 r2 r3) (.int .i64 a2) (.slice u1 i u3) (.int .i64 a4) (.int .i64 a5) (.bool (!a6)) (.int .i64 a7) (.string a8) ((hXo _ (by omega)).trans BY.out)
          obtain ⟨Y, hY⟩ : ∃ Y, Y = ((((((((((((((((((X).setCell ⟨w.heap.size + 1, 0, none⟩ (.int .i64 6))).setCell ⟨w.heap.size + 1, 1, none⟩ (.slice r1 r2 r3))).setCell ⟨w.heap.size + 1, 2, none⟩ (.int .i64 a2))).setCell ⟨w.heap.size + 1, 3, none⟩ (.slice u1 i u3))).setCell ⟨w.heap.size + 1, 4, none⟩ (.int .i64 a4))).setCell ⟨w.heap.size + 1, 5, none⟩ (.int .i64 a5))).setCell ⟨w.heap.size + 1, 6, none⟩ (.bool (!a6)))).setCell ⟨w.heap.size + 1, 7, none⟩ (.int .i64 a7))).setCell ⟨w.heap.size + 1, 8, none⟩ (.string a8)) := ⟨_, rfl⟩
          rw [← hY] at y1 y2 y3 y4
          have y4' := y4 hXb (by omega)
          rw [← hY]
          refine bodyPost_ret (res23 _ _ (w.heap.size + 1) _ (.int .i64 m) rfl rfl y1 rfl) rfl ?_
          have hwk : ∀ b, b < B → wr.heap[b]? = w0.heap[b]? := fun b hb => (BK.out.block b (by omega)).trans (HW.out b hb)
          exact ⟨⟨6, r1, r2, r3, a2, u1, i, u3, a4, a5, (!a6), a7, a8⟩, .mk 6 R a2 us a4 a5 (!a6) a7 a8, m, rfl, fin23 hB (Nat.le_refl _) hRN HA.out HOK.out HRL.out (HRW.out wr hwk) hRk hXo y2 (y3.trans hXs), .mk HTL.out (.inl rfl) (fun h => absurd rfl h), ⟨by omega, hmb2⟩, y4'⟩
        · have hRN := HRN.out
          have kk : fl = false ∨ (fl = true ∧ (k == 5) = false ∧ (k == 6) = false) := by
            cases fl with
            | false => exact .inl rfl
            | true => right; simp at c5 c6; simp [c5, c6]
          clear HRN c5 c6
          rcases kk with rfl | ⟨rfl, k5, k6⟩
          · go_wp2
            obtain ⟨X, hX⟩ : ∃ X, X = wr.setCell ⟨w.heap.size, 3, none⟩ (.slice u1 i u3) := ⟨_, rfl⟩
            rw [← hX]
            have hXo : ∀ k, k ≠ w.heap.size → X.heap[k]? = wr.heap[k]? := fun k hk => by rw [hX]; exact Below.heap_setCell _ _ _ _ hk
            have hXs : X.heap.size = wr.heap.size := by rw [hX]; simp [World.setCell]
            have hXb : Below w.heap.size w X := by rw [hX]; exact BK.out.setCell (by exact Nat.le_refl _) _
            obtain ⟨y1, y2, y3, y4⟩ := nineSet X (w.heap.size + 1) (.int .i64 k) (.slice r1 r2 r3) (.int .i64 a2) (.slice u1 i u3) (.int .i64 a4) (.int .i64 a5) (.bool a6) (.int .i64 a7) (.string a8) ((hXo _ (by omega)).trans BY.out)
            obtain ⟨Y, hY⟩ : ∃ Y, Y = ((((((((((((((((((X).setCell ⟨w.heap.size + 1, 0, none⟩ (.int .i64 k))).setCell ⟨w.heap.size + 1, 1, none⟩ (.slice r1 r2 r3))).setCell ⟨w.heap.size + 1, 2, none⟩ (.int .i64 a2))).setCell ⟨w.heap.size + 1, 3, none⟩ (.slice u1 i u3))).setCell ⟨w.heap.size + 1, 4, none⟩ (.int .i64 a4))).setCell ⟨w.heap.size + 1, 5, none⟩ (.int .i64 a5))).setCell ⟨w.heap.size + 1, 6, none⟩ (.bool a6))).setCell ⟨w.heap.size + 1, 7, none⟩ (.int .i64 a7))).setCell ⟨w.heap.size + 1, 8, none⟩ (.string a8)) := ⟨_, rfl⟩
            rw [← hY] at y1 y2 y3 y4
            have y4' := y4 hXb (by omega)
            rw [← hY]
            refine bodyPost_ret (res23 _ _ (w.heap.size + 1) _ (.int .i64 m) rfl rfl y1 rfl) rfl ?_
            have hwk : ∀ b, b < B → wr.heap[b]? = w0.heap[b]? := fun b hb => (BK.out.block b (by omega)).trans (HW.out b hb)
            exact ⟨⟨k, r1, r2, r3, a2, u1, i, u3, a4, a5, a6, a7, a8⟩, .mk k R a2 us a4 a5 a6 a7 a8, m, rfl, fin23 hB (Nat.le_refl _) hRN HA.out HOK.out HRL.out (HRW.out wr hwk) hRk hXo y2 (y3.trans hXs), .mk HTL.out (.inl rfl) (fun _ => rfl), ⟨by omega, hmb2⟩, y4'⟩
          · go_wp2
            obtain ⟨X, hX⟩ : ∃ X, X = wr.setCell ⟨w.heap.size, 3, none⟩ (.slice u1 i u3) := ⟨_, rfl⟩
            rw [← hX]
            have hXo : ∀ k, k ≠ w.heap.size → X.heap[k]? = wr.heap[k]? := fun k hk => by rw [hX]; exact Below.heap_setCell _ _ _ _ hk
            have hXs : X.heap.size = wr.heap.size := by rw [hX]; simp [World.setCell]
            have hXb : Below w.heap.size w X := by rw [hX]; exact BK.out.setCell (by exact Nat.le_refl _) _
            obtain ⟨y1, y2, y3, y4⟩ := nineSet X (w.heap.size + 1) (.int .i64 k) (.slice r1 r2 r3) (.int .i64 a2) (.slice u1 i u3) (.int .i64 a4) (.int .i64 a5) (.bool a6) (.int .i64 a7) (.string a8) ((hXo _ (by omega)).trans BY.out)
            obtain ⟨Y, hY⟩ : ∃ Y, Y = ((((((((((((((((((X).setCell ⟨w.heap.size + 1, 0, none⟩ (.int .i64 k))).setCell ⟨w.heap.size + 1, 1, none⟩ (.slice r1 r2 r3))).setCell ⟨w.heap.size + 1, 2, none⟩ (.int .i64 a2))).setCell ⟨w.heap.size + 1, 3, none⟩ (.slice u1 i u3))).setCell ⟨w.heap.size + 1, 4, none⟩ (.int .i64 a4))).setCell ⟨w.heap.size + 1, 5, none⟩ (.int .i64 a5))).setCell ⟨w.heap.size + 1, 6, none⟩ (.bool a6))).setCell ⟨w.heap.size + 1, 7, none⟩ (.int .i64 a7))).setCell ⟨w.heap.size + 1, 8, none⟩ (.string a8)) := ⟨_, rfl⟩
            rw [← hY] at y1 y2 y3 y4
            have y4' := y4 hXb (by omega)
            rw [← hY]
            refine bodyPost_ret (res23 _ _ (w.heap.size + 1) _ (.int .i64 m) rfl rfl y1 rfl) rfl ?_
            have hwk : ∀ b, b < B → wr.heap[b]? = w0.heap[b]? := fun b hb => (BK.out.block b (by omega)).trans (HW.out b hb)
            exact ⟨⟨k, r1, r2, r3, a2, u1, i, u3, a4, a5, a6, a7, a8⟩, .mk k R a2 us a4 a5 a6 a7 a8, m, rfl, fin23 hB (Nat.le_refl _) hRN HA.out HOK.out HRL.out (HRW.out wr hwk) hRk hXo y2 (y3.trans hXs), .mk HTL.out (.inl rfl) (fun _ => rfl), ⟨by omega, hmb2⟩, y4'⟩
end Go.Proofs.Ytnpocciioedgpaa
/- HELPERS: the places of a tree are laid. -/
namespace Go.Proofs.Ytnpocciioedgpaa
open Go.RowKit
set_option linter.unusedVariables false
set_option linter.unusedSimpArgs false
theorem LM.below {hb B0 : Nat} {c1 c2 c3 c4 : Value} {W W' : World} {v : Value} {L : List Pq} (h : LM hb B0 c1 c2 c3 c4 W v L) (k : Below W.heap.size W W') : LM hb B0 c1 c2 c3 c4 W' v L :=
  ⟨(k.block _ (Array.getElem?_eq_some_iff.1 h.box).1).trans h.box, row_kept h.row (fun b hb => k.block b (h.row.lt b hb).2), h.hbl, Nat.le_trans h.bs k.size⟩
theorem news12 (w2 : World) (q : Pq) : ∀ j y, (Pq.cs q)[j]? = some y → (w2.alloc (.cells #[.int .i64 q.M.k, .slice q.M.r1 q.M.r2 q.M.r3, .int .i64 q.M.a2, .slice q.M.s1 q.M.s2 q.M.s3, .int .i64 q.M.a4, .int .i64 q.M.a5, .bool q.M.a6, .int .i64 q.M.a7, .string q.M.a8, q.sv, .int .i64 q.up, .int .i64 q.nth] 64)).cell? ((⟨w2.heap.size, 0, none⟩ : Addr).add j) = some y := by
  intro j y hj
  have hl : j < 12 := by have := (List.getElem?_eq_some_iff.1 hj).1; simpa using this
  have e : ((⟨w2.heap.size, 0, none⟩ : Addr).add j) = ⟨w2.heap.size, j, none⟩ := by by_cases e : j = 0 <;> simp [Addr.add, e]
  rw [e, Joins.cell_of_block (heap_alloc_new w2 _) j]
  simpa using hj
theorem one12 (q : Pq) (h : q.sv.oneCell' = true) : ∀ u ∈ Pq.cs q, u.oneCell' = true := by
  intro u hu
  simp only [Pq.cs, List.mem_cons, List.not_mem_nil, or_false] at hu
  rcases hu with rfl | rfl | rfl | rfl | rfl | rfl | rfl | rfl | rfl | rfl | rfl | rfl <;> first | rfl | exact h
theorem LM.moved {hb B0 : Nat} {c1 c2 c3 c4 : Value} {W W2 : World} {v : Value} {L : List Pq} (h : LM hb B0 c1 c2 c3 c4 W v L) {base n : Nat} {u u' : Value} {xs : List Value} {o : Obj} (hu : W.ownsRow base 3 1 u n xs) (hm : Moved (W.alloc o) W2 u u') : LM hb B0 c1 c2 c3 c4 W2 v L := by
  have hs2 := moved_size hm
  simp at hs2
  have old : ∀ k, k < W.heap.size → u.ownBlock ≠ some k → W2.heap[k]? = W.heap[k]? := fun k hk hne => (moved_old' hm (by simp; omega) hne).trans (heap_alloc_old W _ hk)
  have hbl := (Array.getElem?_eq_some_iff.1 h.box).1
  refine ⟨(old hb hbl (own_ne hu h.box (by decide))).trans h.box, row_kept h.row (fun b hb => ?_), h.hbl, by have := h.bs; omega⟩
  rcases h.row.2 with ⟨e, _⟩ | ⟨g, cap, cur, e, _, hg, _⟩
  · subst e; simp [Value.ownBlock] at hb
  · subst e
    simp [Value.ownBlock] at hb
    subst hb
    exact old _ (Array.getElem?_eq_some_iff.1 hg).1 (own_ne hu hg (by decide))
/-- the blocks below, and the rows of numbers that were made, but one, are still there -/
def Rob (hb B0 N0 : Nat) (u : Value) (w wx : World) : Prop := (∀ b, b < B0 → b ≠ hb → wx.heap[b]? = w.heap[b]?) ∧ ∀ (b : Nat) (cur : Array Value), N0 ≤ b → u.ownBlock ≠ some b → w.heap[b]? = some (.cells cur 3 (0, 0)) → wx.heap[b]? = some (.cells cur 3 (0, 0))
theorem Rob.refl (hb B0 N0 : Nat) (u : Value) (w : World) : Rob hb B0 N0 u w w := ⟨fun _ _ _ => rfl, fun _ _ _ _ h => h⟩
/-- between two Subs -/
def LInv (hb B0 : Nat) (c1 c2 c3 c4 : Value) (A : Nat → Prop) (W : World) (nc : Array Value) (L : List Pq) (q0 : Pq) (ts : List Tn) (i : Nat) (u : Value) (wq : World) : Prop :=
  ∃ va vn vc QS, LM hb B0 c1 c2 c3 c4 wq (.slice (some ⟨va, 0, none⟩) vn vc) (L ++ q0 :: QS) ∧ vn = L.length + 1 + nodesL (ts.take i) ∧ vn = (L ++ q0 :: QS).length ∧ LF hb B0 W wq ∧ wq.heap[W.heap.size]? = some (.cells nc 28 (0, 0)) ∧ wq.ownsRow (W.heap.size + 1) 3 1 u i (I64 ((numL (ts.take i) (L.length + 1)).map fun t => (t.lb : Int))) ∧ (i = 0 → u = .slice none 0 0) ∧ ∀ (p : Lt) (Bw : Way), p.lb = L.length → ∀ wx, Rob hb B0 W.heap.size u wq wx → A2 (Lq A wx) QS (entsL p Bw (numL (ts.take i) (L.length + 1)) 0)
theorem LInv.next {hb B0 : Nat} {c1 c2 c3 c4 : Value} {A : Nat → Prop} {W wr w2 w3 : World} {nc : Array Value} {L : List Pq} {q0 : Pq} {ts : List Tn} {i : Nat} {u u' v3 : Value} {vn : Nat} {QS QS' : List Pq} {o : Obj} (hi : i < ts.length) (hB : B0 ≤ W.heap.size)
    (g2 : vn = L.length + 1 + nodesL (ts.take i)) (g3 : vn = (L ++ q0 :: QS).length) (g4 : LF hb B0 W wr) (g5 : wr.heap[W.heap.size]? = some (.cells nc 28 (0, 0))) (g6 : wr.ownsRow (W.heap.size + 1) 3 1 u i (I64 ((numL (ts.take i) (L.length + 1)).map fun t => (t.lb : Int))))
    (g7 : ∀ (p : Lt) (Bw : Way), p.lb = L.length → ∀ wx, Rob hb B0 W.heap.size u wr wx → A2 (Lq A wx) QS (entsL p Bw (numL (ts.take i) (L.length + 1)) 0))
    (hm : Moved (wr.alloc o) w2 u u') (ho : w2.ownsRow (W.heap.size + 1) 3 1 u' (i + 1) (I64 ((numL (ts.take i) (L.length + 1)).map fun t => (t.lb : Int)) ++ [.int .i64 (vn : Int)])) (hbel : Below (W.heap.size + 1) wr w2)
    (hL3 : LM hb B0 c1 c2 c3 c4 w3 v3 ((L ++ q0 :: QS) ++ QS')) (hF3 : LF hb B0 w2 w3) (hA3 : ∀ Bw wx, Rob hb B0 w2.heap.size (.slice none 0 0) w3 wx → A2 (Lq A wx) QS' ((ts[i].num vn).ents Bw (L.length : Int) i)) :
    LInv hb B0 c1 c2 c3 c4 A W nc L q0 ts (i + 1) u' w3 := by
  have hsz := hbel.size
  have hs2 := moved_size hm
  simp at hs2
  obtain ⟨vb, vc3, rfl⟩ := Joins.ownsRow_form hL3.row (by simp; omega)
  have ht : ts.take (i + 1) = ts.take i ++ [ts[i]] := List.take_succ_eq_append_getElem hi
  have hnum : numL (ts.take (i + 1)) (L.length + 1) = numL (ts.take i) (L.length + 1) ++ [ts[i].num vn] := by rw [ht, numL_snoc, g2]
  have hQ : QS'.length = ts[i].nodes := by
    have h := (hA3 .through w3 (Rob.refl _ _ _ _ _)).len
    rw [ents_len] at h
    exact h
  refine ⟨vb, ((L ++ q0 :: QS) ++ QS').length, vc3, QS ++ QS', ?_, ?_, ?_, ?_, ?_, ?_, fun h => by omega, ?_⟩
  · have h := hL3
    rw [List.append_assoc, List.cons_append] at h
    rw [List.append_assoc, List.cons_append]
    exact h
  · rw [nodesL_take ts i hi, List.length_append, ← g3, hQ]
    omega
  · simp
  · refine (g4.of_new hB (Joins.below_le hbel (by omega))).trans hF3
  · exact hF3.typ _ _ 28 (.inr rfl) ((hbel.block _ (by omega)).trans g5)
  · have h := hF3.own ho
    rw [hnum, List.map_append]
    simp only [List.map_cons, List.map_nil, num_lb]
    have e : I64 (List.map (fun t => (t.lb : Int)) (numL (List.take i ts) (L.length + 1)) ++ [(vn : Int)]) = I64 (List.map (fun t => (t.lb : Int)) (numL (List.take i ts) (L.length + 1))) ++ [.int .i64 (vn : Int)] := by simp [I64]
    rw [e]
    exact h
  · intro p Bw hp wx hR
    have hlow : ∀ b, b < B0 → b ≠ hb → wx.heap[b]? = wr.heap[b]? := fun b h1 h2 => (hR.1 b h1 h2).trans ((hF3.low b h1 h2).trans (hbel.block b (by omega)))
    rw [hnum, entsL_snoc, Nat.zero_add, numL_len, List.length_take, Nat.min_eq_left (by omega)]
    refine (g7 p Bw hp wx ⟨hlow, fun b cur h1 h2 h3 => ?_⟩).app ?_
    · have hbl := (Array.getElem?_eq_some_iff.1 h3).1
      have e2 : w2.heap[b]? = some (.cells cur 3 (0, 0)) := (moved_old' hm (by simp; omega) h2).trans ((heap_alloc_old wr _ hbl).trans h3)
      refine hR.2 b cur h1 (fun e => ?_) (hF3.typ b cur 3 (.inl rfl) e2)
      rcases hm with ⟨h, _⟩ | ⟨h, _⟩
      · exact h2 (h ▸ e)
      · rw [h] at e
        simp at e
        omega
    · rw [hp]
      refine hA3 _ wx ⟨fun b h1 h2 => hR.1 b h1 h2, fun b cur h1 _ h3 => hR.2 b cur (by have := g4.size; omega) (fun e => ?_) h3⟩
      have := (ho.lt b e).2
      omega
set_option maxRecDepth 100000 in
set_option maxHeartbeats 8000000 in
theorem lay16 {hb B0 : Nat} {c1 c2 c3 c4 : Value} {A : Nat → Prop} (hA : ∀ b, A b → b < B0 ∧ b ≠ hb) {W0 : World} {N : Nv} {t : Tn} (h : TP W0 A N t) : ∀ (W : World) (v : Value) (L : List Pq) (up : Int) (nth : Nat), (∀ b, A b → W.heap[b]? = W0.heap[b]?) → LM hb B0 c1 c2 c3 c4 W v L → L.length + t.nodes ≤ 300000 → -1 ≤ up → up ≤ 300000 → nth ≤ 300000 →
    Calls Try.prog 16 #[.pointer (some ⟨hb, 0, none⟩), N.v, .int .i64 up, .int .i64 (nth : Int)] W fun e w' => e = .returned (.tuple #[]) ∧ ∃ v' QS, LM hb B0 c1 c2 c3 c4 w' v' (L ++ QS) ∧ LF hb B0 W w' ∧ ∀ Bw wx, Rob hb B0 W.heap.size (.slice none 0 0) w' wx → A2 (Lq A wx) QS ((t.num L.length).ents Bw up nth) := by
  induction h with
  | @mk N R ts ND ok hr hR hRk hs hS hk ih =>
  intro W v L up nth hW hL hno hu1 hu2 hnt
  simp only [Tn.nodes] at hno
  have hTP : TP W A N (.mk N.k R N.a2 ts N.a4 N.a5 N.a6 N.a7 N.a8) := (TP.mk ok hr hR hRk hs hS hk).kept hW (fun b hb => hb)
  have HTP := hid hTP
  have HIH := hid ih
  have HAA := hid hA
  have HW := hid hW
  obtain ⟨k, r1, r2, r3, a2, s1, s2, s3, a4, a5, a6, a7, a8⟩ := N
  simp only at hs hS
  have hlen : ts.length ≤ 300000 := by have := nodes_ge ts; omega
  have hm2 : s2 ≤ 300000 := by omega
  have HL := hid hs
  have HS := hid hS
  have HNO := hid hno
  obtain ⟨va, vc, rfl, _, _⟩ := row_form hL.row
  obtain ⟨ln, hln⟩ : ∃ ln, ln = L.length := ⟨_, rfl⟩
  rw [← hln] at hL hno ⊢
  have HLN := hid hln
  have hbl := (Array.getElem?_eq_some_iff.1 hL.box).1
  obtain ⟨q0, hq0⟩ : ∃ q0 : Pq, q0 = ⟨⟨k, r1, r2, r3, a2, s1, s2, s3, a4, a5, a6, a7, a8⟩, .slice none 0 0, up, (nth : Int)⟩ := ⟨_, rfl⟩
  obtain ⟨nc, hnc⟩ : ∃ nc : Array Value, nc = #[.int .i64 k, .slice r1 r2 r3, .int .i64 a2, .slice s1 s2 s3, .int .i64 a4, .int .i64 a5, .bool a6, .int .i64 a7, .string a8] := ⟨_, rfl⟩
  obtain ⟨V1, hV1⟩ : ∃ V1, V1 = W.alloc (.cells #[.int .i64 k, .slice r1 r2 r3, .int .i64 a2, .slice s1 s2 s3, .int .i64 a4, .int .i64 a5, .bool a6, .int .i64 a7, .string a8] 28) := ⟨_, rfl⟩
  have hVb : Below W.heap.size W V1 := by rw [hV1]; exact Joins.below_alloc1 W _
  have hVs : V1.heap.size = W.heap.size + 1 := by rw [hV1]; simp
  have hVn : V1.heap[W.heap.size]? = some (.cells #[.int .i64 k, .slice r1 r2 r3, .int .i64 a2, .slice s1 s2 s3, .int .i64 a4, .int .i64 a5, .bool a6, .int .i64 a7, .string a8] 28 (0, 0)) := by rw [hV1]; exact heap_alloc_new W _
  have hL1 := hL.below hVb
  obtain ⟨k0, -, -, -, -⟩ := box5 hL1.box
  have ku := Joins.unfrozen_of_block hL1.box 0
  obtain ⟨n0, n1, n2, n3, n4, n5, n6, n7, n8⟩ := nine' hVn
  obtain ⟨nb, hnb⟩ : ∃ nb, nb = W.heap.size := ⟨_, rfl⟩
  obtain ⟨i0, hi0, hz0, hz1, hz2⟩ := info_parts info64
  obtain ⟨i3, hi3, hy0, hy1, hy2⟩ := info_parts info3
  have HVB := hid hVb
  have HVS := hid hVs
  have HVN := hid hVn
  have HL1 := hid hL1
  have HBL := hid hbl
  have HQ0 := hid hq0
  have HNC := hid hnc
  have HBS := hid hL.bs
  have HV1 := hid hV1
  clear ok hr hR hRk hk hS hW ih hs hTP hA hL hln hVb hVs hVn hL1 hq0 hnc hV1 hbl hnb
  go_enter Try.func16, Try.ntmps16
  go_upto_region 1 with fail
  rw [← HV1.out]
  go_upto_region 2 with fail
  have HSV : Hid (∀ V, Below V1.heap.size V1 V → V.cell? ⟨hb, 0, none⟩ = some (.slice va ln vc) ∧ V.cell? ⟨W.heap.size, 0, none⟩ = some (.int .i64 k) ∧ V.cell? ⟨W.heap.size, 1, none⟩ = some (.slice r1 r2 r3) ∧ V.cell? ⟨W.heap.size, 2, none⟩ = some (.int .i64 a2) ∧ V.cell? ⟨W.heap.size, 3, none⟩ = some (.slice s1 s2 s3) ∧ V.cell? ⟨W.heap.size, 4, none⟩ = some (.int .i64 a4) ∧ V.cell? ⟨W.heap.size, 5, none⟩ = some (.int .i64 a5) ∧ V.cell? ⟨W.heap.size, 6, none⟩ = some (.bool a6) ∧ V.cell? ⟨W.heap.size, 7, none⟩ = some (.int .i64 a7) ∧ V.cell? ⟨W.heap.size, 8, none⟩ = some (.string a8)) := fun V hV => by
    have e1 := hV.block hb (by have := HBL.out; have := HVS.out; omega)
    have e2 := (hV.block W.heap.size (by have := HVS.out; omega)).trans HVN.out
    obtain ⟨m0, m1, m2, m3, m4, m5, m6, m7, m8⟩ := nine' e2
    exact ⟨(cell_eq e1 _).trans k0, m0, m1, m2, m3, m4, m5, m6, m7, m8⟩
  refine wp_region_lexK [0, 1, 2, 3, 4, 5, 6, 7, 8] [9, 10, 11, 12, 13] 13 (fun V => V.cell? ⟨hb, 0, none⟩ = some (.slice va ln vc) ∧ V.cell? ⟨W.heap.size, 0, none⟩ = some (.int .i64 k) ∧ V.cell? ⟨W.heap.size, 1, none⟩ = some (.slice r1 r2 r3) ∧ V.cell? ⟨W.heap.size, 2, none⟩ = some (.int .i64 a2) ∧ V.cell? ⟨W.heap.size, 3, none⟩ = some (.slice s1 s2 s3) ∧ V.cell? ⟨W.heap.size, 4, none⟩ = some (.int .i64 a4) ∧ V.cell? ⟨W.heap.size, 5, none⟩ = some (.int .i64 a5) ∧ V.cell? ⟨W.heap.size, 6, none⟩ = some (.bool a6) ∧ V.cell? ⟨W.heap.size, 7, none⟩ = some (.int .i64 a7) ∧ V.cell? ⟨W.heap.size, 8, none⟩ = some (.string a8)) (by kernel_rfl) (by kernel_rfl) rfl (by kernel_rfl) (by kernel_rfl) ⟨k0, n0, n1, n2, n3, n4, n5, n6, n7, n8⟩ ?_
  simp only [opsAt, opsNo, List.getElem?_toArray, List.getElem?_cons_zero, List.getElem?_cons_succ]
  iterate 9
    refine lex_cons ?_ rfl (fun V hV => ?_) (fun _ _ _ h => h) ?_
    rotate_left
    · obtain ⟨q0, q1, q2, q3, q4, q5, q6, q7, q8, q9⟩ := hV
      go_simp <;> with_reducible rfl
    simp only [Act.put, List.setIfInBounds_toArray, List.set_cons_zero, List.set_cons_succ]
  refine lex_nil (tailK_cons fun K hK => ?_)
  go_simp
  have hBD : Below V1.heap.size V1 V1.drew := ⟨rfl, rfl, rfl, Nat.le_refl _, fun _ _ => rfl⟩
  have hBA : Below V1.heap.size V1 (V1.drew.alloc (.cells #[.int .i64 k, .slice r1 r2 r3, .int .i64 a2, .slice s1 s2 s3, .int .i64 a4, .int .i64 a5, .bool a6, .int .i64 a7, .string a8, .slice none 0 0, .int .i64 up, .int .i64 (nth : Int)] 64)) := hBD.trans (Joins.below_alloc1 V1.drew _)
  refine hK.out _ _ (fun _ => HSV.out _ hBA) (tailK_cons fun K hK => ?_)
  clear hBA
  have hrowD : V1.drew.ownsRow B0 64 12 (.slice va ln vc) ln (L.flatMap Pq.cs) := by have h := HL1.out.row; rw [← HLN.out] at h; exact row_kept h fun b hb => rfl
  refine step_append rfl (.tmp 20) (.tmp 25) 40 rfl B0 64 i0 (.agg #[.int .i64 0, .slice none 0 0, .int .i64 0, .slice none 0 0, .int .i64 0, .int .i64 0, .bool false, .int .i64 0, .string ⟨#[]⟩, .slice none 0 0, .int .i64 0, .int .i64 0]) 12 152 Try.underlying40 hi0 hz0 hz1 hz2 rfl (by decide) (.slice va ln vc) ln (L.flatMap Pq.cs) rfl (hrowD.alloc _) ⟨V1.heap.size, 0, none⟩ 1 1 (Pq.cs q0) rfl rfl (by decide) ?_ ?_ (by unfold maxLen; omega) (by omega) (by have := HBS.out; have := HVS.out; simp; omega) ?_
  · rw [HQ0.out]
    exact news12 V1.drew _
  · rw [HQ0.out]
    exact one12 _ rfl
  intro v' w4 ho4 hm4
  have hLD : LM hb B0 c1 c2 c3 c4 V1.drew (.slice va ln vc) L := HL1.out.below hBD
  have hpush := hLD.push (q := q0) hm4.out (by rw [← HLN.out]; exact ho4.out)
  have HPU := hid hpush
  obtain ⟨pb, pc, rfl⟩ := Joins.ownsRow_form ho4.out (by omega)
  have hb4 : w4.heap[hb]? = some (.cells #[.slice va ln vc, c1, c2, c3, c4] 42 (0, 0)) := by
    have hbl := (Array.getElem?_eq_some_iff.1 hLD.box).1
    exact (moved_old' hm4.out (by simp at hbl ⊢; omega) (own_ne hLD.row hLD.box (by decide))).trans ((heap_alloc_old V1.drew _ hbl).trans hLD.box)
  have hn4 : w4.heap[W.heap.size]? = some (.cells #[.int .i64 k, .slice r1 r2 r3, .int .i64 a2, .slice s1 s2 s3, .int .i64 a4, .int .i64 a5, .bool a6, .int .i64 a7, .string a8] 28 (0, 0)) := by
    have hnl := HVS.out
    exact (moved_old' hm4.out (by simp; omega) (own_ne hLD.row (HVN.out) (by decide))).trans ((heap_alloc_old V1.drew _ (by show W.heap.size < V1.heap.size; omega)).trans HVN.out)
  obtain ⟨p0, -, -, -, -⟩ := box5 hb4
  have pu := Joins.unfrozen_of_block hb4 0
  have HN4 := hid hn4
  have hSW : w4.cell? ⟨hb, 0, none⟩ = some (.slice va ln vc) ∧ w4.cell? ⟨W.heap.size, 0, none⟩ = some (.int .i64 k) ∧ w4.cell? ⟨W.heap.size, 1, none⟩ = some (.slice r1 r2 r3) ∧ w4.cell? ⟨W.heap.size, 2, none⟩ = some (.int .i64 a2) ∧ w4.cell? ⟨W.heap.size, 3, none⟩ = some (.slice s1 s2 s3) ∧ w4.cell? ⟨W.heap.size, 4, none⟩ = some (.int .i64 a4) ∧ w4.cell? ⟨W.heap.size, 5, none⟩ = some (.int .i64 a5) ∧ w4.cell? ⟨W.heap.size, 6, none⟩ = some (.bool a6) ∧ w4.cell? ⟨W.heap.size, 7, none⟩ = some (.int .i64 a7) ∧ w4.cell? ⟨W.heap.size, 8, none⟩ = some (.string a8) := ⟨p0, nine' hn4⟩
  have HSW := hid hSW
  clear hLD hpush hb4 hn4 ho4 hm4 hrowD hSW hBD
  refine hK.out _ _ (fun _ => HSW.out) (tailK_cons fun K hK => ?_)
  simp only [Act.put, List.setIfInBounds_toArray, List.set_cons_zero, List.set_cons_succ]
  go_simp
  refine hK.out _ _ (fun _ => HSW.out) (tailK_cons fun K hK => ?_)
  simp only [Act.put, List.setIfInBounds_toArray, List.set_cons_zero, List.set_cons_succ]
  go_simp
  refine hK.out _ _ (fun _ => HSW.out) (tailK_cons fun K hK => ?_)
  simp only [Act.put, List.setIfInBounds_toArray, List.set_cons_zero, List.set_cons_succ]
  go_simp
  refine hK.out _ _ (fun h => absurd rfl h) (tailK_nil ?_)
  try simp only [Act.put, List.setIfInBounds_toArray, List.set_cons_zero, List.set_cons_succ]
  obtain ⟨V4, hV4⟩ : ∃ V4, V4 = w4.setCell ⟨hb, 0, none⟩ (.slice (some ⟨pb, 0, none⟩) (ln + 1) pc) := ⟨_, rfl⟩
  have hinv : LInv hb B0 c1 c2 c3 c4 A W nc L q0 ts 0 (.slice none 0 0) V4 := by
    obtain ⟨g1, g2⟩ := HPU.out
    have hhb : W.heap.size ≠ hb := by have := HBL.out; omega
    refine ⟨pb, ln + 1, pc, [], by rw [hV4]; exact g1, by simp [nodesL, ← HLN.out], by simp [← HLN.out], ?_, ?_, ?_, fun _ => rfl, fun p Bw hp wx _ => ?_⟩
    · rw [hV4]
      have f1 : LF hb B0 W V1.drew := LF.of_below (HVB.out.trans ⟨rfl, rfl, rfl, Nat.le_refl _, fun _ _ => rfl⟩) HBS.out
      exact f1.trans g2
    · rw [hV4, HNC.out]
      exact (Below.heap_setCell _ _ _ _ hhb).trans HN4.out
    · simp only [List.take_zero, numL, List.map_nil]
      exact World.ownsRow_nil _ _ _ _
    · simp only [List.take_zero, numL, entsL]
      exact .nil
  have HINV := hid hinv
  rw [← hV4]
  clear hinv hV4 p0 pu k0 ku n0 n1 n2 n3 n4 n5 n6 n7 n8 HSW HPU HN4
  go_wp2_with fail
  go_loopw [9, 10] (fun u y wq => ∃ (i : Nat) (u1 : Option Addr) (u3 : Nat), u = .slice u1 i u3 ∧ y = .int .i64 (i : Int) ∧ i ≤ s2 ∧ Hid (LInv hb B0 c1 c2 c3 c4 A W nc L q0 ts i (.slice u1 i u3) wq)) (fun u y _ => s2 - (intOf y).toNat)
  case atStart => exact ⟨0, none, 0, rfl, rfl, by omega, HINV⟩
  case round =>
    clear HINV
    obtain ⟨i, u1, u3, rfl, rfl, hi, HI⟩ := hrel
    obtain ⟨va', vn, vc', QS, g1, g2, g3, g4, g5, g6, g8, g7⟩ := HI.out
    rw [HNC.out] at g5
    obtain ⟨o0, o1, o2, o3, o4, o5, o6, o7, o8⟩ := nine' g5
    obtain ⟨z0, -, -, -, -⟩ := box5 g1.box
    have hvn : vn ≤ 300000 ∧ ln + 1 ≤ vn := by have := nodesL_take_le ts i; have := HLN.out; have := HNO.out; omega
    have hbs : W.heap.size + 1 ≤ wr.heap.size := by have := (Array.getElem?_eq_some_iff.1 g5).1; omega
    by_cases hil : i < s2
    · have b1 : decide ((i : Int) < (s2 : Int)) = true := by simp; omega
      have b2 : (i : Int) < (s2 : Int) := by omega
      have hlt : i < ts.length := by rw [← HL.out]; exact hil
      obtain ⟨b, o, hs1, hb', hc⟩ := HS.out (by omega)
      subst hs1
      have ad1 : IntKind.i64.wrap ((i : Int) + 1) = (i : Int) + 1 := by simp [IntKind.wrap, IntKind.bits, IntKind.signed]; omega
      obtain ⟨P, hP⟩ : ∃ P, P = ND i := ⟨_, rfl⟩
      have hst : ∀ (w2 : World) (v' : Value), Moved (wr.alloc (.cells #[.int .i64 (vn : Int)] 3)) w2 (.slice u1 i u3) v' → LM hb B0 c1 c2 c3 c4 w2 (.slice (some ⟨va', 0, none⟩) vn vc') (L ++ q0 :: QS) ∧ Below (W.heap.size + 1) wr w2 ∧ w2.heap[W.heap.size]? = wr.heap[W.heap.size]? ∧ LF hb B0 W w2 ∧ (∀ b, A b → w2.heap[b]? = W0.heap[b]?) ∧ wr.heap.size + 1 ≤ w2.heap.size := fun w2 v' hm => by
        have hbl := (Array.getElem?_eq_some_iff.1 g1.box).1
        have hs2 := moved_size hm
        simp at hs2
        have hbel : Below (W.heap.size + 1) wr w2 := (moved_below (w2 := wr) (W := wr) (Joins.below_le (Joins.below_alloc1 wr (.cells #[.int .i64 (vn : Int)] 3)) hbs) (by simp; omega) (fun k hk => (g6.lt k hk).1) hm).1
        have hbase := HBS.out
        have f3 : LF hb B0 W w2 := g4.of_new hbase (Joins.below_le hbel (by omega))
        exact ⟨g1.moved g6 hm, hbel, hbel.block _ (by omega), f3, fun b hb => (f3.low b (HAA.out b hb).1 (HAA.out b hb).2).trans (HW.out b hb), by omega⟩
      have HST := hid hst
      have hCall : ∀ w2, LM hb B0 c1 c2 c3 c4 w2 (.slice (some ⟨va', 0, none⟩) vn vc') (L ++ q0 :: QS) → (∀ b, A b → w2.heap[b]? = W0.heap[b]?) → Calls Try.prog 16 #[.pointer (some ⟨hb, 0, none⟩), P.v, .int .i64 (ln : Int), .int .i64 (i : Int)] w2 fun e w' => e = .returned (.tuple #[]) ∧ ∃ v' QS', LM hb B0 c1 c2 c3 c4 w' v' ((L ++ q0 :: QS) ++ QS') ∧ LF hb B0 w2 w' ∧ ∀ Bw wx, Rob hb B0 w2.heap.size (.slice none 0 0) w' wx → A2 (Lq A wx) QS' ((ts[i].num vn).ents Bw (ln : Int) i) := fun w2 h1 h2 => by
        have h := HIH.out i hlt w2 _ _ (ln : Int) i h2 h1 (by rw [← g3]; have := nodesL_take ts i hlt; have := nodesL_take_le ts (i + 1); have := HLN.out; have := HNO.out; omega) (by omega) (by omega) (by omega)
        rw [← g3, ← hP] at h
        exact h
      have HCA := hid hCall
      have hNc : ∀ w2, (∀ b, A b → w2.heap[b]? = W0.heap[b]?) → N9 w2 b o i P := fun w2 h2 => by rw [hP]; exact (hc i hlt).kept (h2 b hb')
      have HNCL := hid hNc
      have HG5 := hid g5
      have HG6 := hid g6
      have HG := hid (⟨g1, g2, g3, g4, g7⟩ : _ ∧ _ ∧ _ ∧ _ ∧ _)
      obtain ⟨LB, hLB⟩ : ∃ LB, LB = (numL (ts.take i) (L.length + 1)).map fun t => (t.lb : Int) := ⟨_, rfl⟩
      rw [← hLB] at HG6
      have HLB := hid hLB
      clear hst hCall hNc hP hc g1 g2 g3 g4 g5 g6 g7 g8 hLB HI
      go_upto_region 8 with (first | (at_builtin; refine wpList_append_move rfl (.tmp 36) (.tmp 42) 29 rfl (W.heap.size + 1) 3 i3 (.int .i64 0) 8 Try.underlying29 hi3 hy0 hy1 hy2 rfl (.slice u1 i u3) i (I64 LB) rfl (HG6.out.alloc _) ⟨wr.heap.size, 0, none⟩ 1 1 [.int .i64 (vn : Int)] rfl rfl (by decide) (by intro j y hj; match j, hj with | 0, hj => (simp at hj; subst hj; simp [Addr.add])) (by intro y hy; simp at hy; subst hy; rfl) (by unfold maxLen; omega) (by omega) (by simp; omega) ?_; intro v' w2 ho2 hm2; obtain ⟨ub, uc, rfl⟩ := Joins.ownsRow_form ho2.out (by omega)))
      obtain ⟨t1, t2, t3, t4, t5, t6⟩ := HST.out w2 _ hm2.out
      have HC := HCA.out w2 t1 t5
      obtain ⟨m0, m1, m2, m3, m4, m5, m6, m7, m8⟩ := HNCL.out w2 t5
      have cs3 := (cell_eq t3 3).trans o3
      have HT1 := hid t1
      have HT2 := hid t2
      have HT3 := hid t3
      have HT4 := hid t4
      clear t1 t2 t3 t4 t5 o0 o1 o2 o3 o4 o5 o6 o7 o8 z0
      go_wp2_with (first | (go_at_call 16; (with_reducible refine HC.mono ?_); rintro e w3 ⟨rfl, v3, QS', hL3, hF3, hA3⟩; have HL3 := hid hL3; have HF3 := hid hF3; have HA3 := hid hA3; clear hL3 hF3 hA3 HC m0 m1 m2 m3 m4 m5 m6 m7 m8 cs3))
      have hnx : LInv hb B0 c1 c2 c3 c4 A W nc L q0 ts (i + 1) (.slice (some ⟨ub, 0, none⟩) (i + 1) uc) w3 := by
        obtain ⟨g1, g2, g3, g4, g7⟩ := HG.out
        have h5 := HG5.out
        rw [← HNC.out] at h5
        have h6 := HG6.out
        have h7 := ho2.out
        rw [HLB.out] at h6 h7
        have h8 := HA3.out
        rw [HLN.out] at h8
        exact LInv.next hlt HBS.out g2 g3 g4 h5 h6 g7 hm2.out h7 HT2.out HL3.out HF3.out h8
      exact ⟨⟨i + 1, _, _, rfl, by push_cast; rfl, by omega, hnx⟩, by simp [intOf]; omega⟩
    · have b1 : decide ((i : Int) < (s2 : Int)) = false := by simp; omega
      obtain rfl : i = s2 := by omega
      have hP := g1.at ln (by rw [← g3]; omega)
      simp only [P12] at hP
      obtain ⟨-, -, -, -, -, -, -, -, -, h9o, -, -⟩ := hP
      obtain ⟨sv9, h9⟩ : ∃ x, wr.cell? ⟨va', ln * 12 + 9, none⟩ = some x := ⟨_, h9o⟩
      clear h9o
      have f9 := (row_setN (by have h := g1.row; rw [← g3] at h; exact h) (ln * 12 + 9) (.slice u1 i u3)).2
      have i1 : (ln : Int) < (vn : Int) := by omega
      have hset := g1.setSub g3 (.slice u1 i u3)
      rw [← HLN.out] at hset
      have HSE := hid hset
      have HG := hid (⟨g4, g6, g8, g7⟩ : _ ∧ _ ∧ _ ∧ _)
      clear hset g1 g2 g3 g4 g5 g6 g7 g8 HI
      go_wp2_with fail
      go_end0
      obtain ⟨e1, e2⟩ := HSE.out
      obtain ⟨g4, g6, g8, g7⟩ := HG.out
      have hll := HL.out
      rw [List.take_of_length_le (by omega)] at g6 g7
      rw [← HLN.out] at g6 g7
      refine ⟨rfl, _, _, e1, g4.trans e2, fun Bw wx hR => ?_⟩
      simp only [Tn.num, Lt.ents]
      refine .cons ⟨?_, ⟨u1, u3, by simp only [Lt.sub, numL_len]; rw [hll]⟩, ?_, by rw [HQ0.out], by rw [HQ0.out]⟩ ?_
      · simp only [Lt.tn, numL_tn]
        rw [HQ0.out]
        exact HTP.out.kept (fun b hb => (hR.1 b (HAA.out b hb).1 (HAA.out b hb).2).trans ((e2.low b (HAA.out b hb).1 (HAA.out b hb).2).trans (g4.low b (HAA.out b hb).1 (HAA.out b hb).2))) (fun b hb => hb)
      · simp only [Lt.sub]
        by_cases hz : i = 0
        · refine .inl ⟨g8 hz, ?_⟩
          rw [hz] at hll
          rw [List.length_eq_zero_iff.1 hll.symm]
          rfl
        · refine .inr ⟨by rw [List.length_map, numL_len]; omega, ?_⟩
          rw [List.length_map, numL_len, ← hll]
          refine ⟨g6.1, ?_⟩
          rcases g6.2 with ⟨_, h0⟩ | ⟨g, cap, cur, h1, h2, h3, h4⟩
          · exact absurd h0 hz
          · exact .inr ⟨g, cap, cur, h1, by omega, hR.2 g cur (by omega) (by simp [Value.ownBlock]) (e2.typ g cur 3 (.inl rfl) h3), h4⟩
      · refine g7 _ Bw rfl wx ⟨fun b h1 h2 => (hR.1 b h1 h2).trans (e2.low b h1 h2), fun b cur h1 _ h3 => hR.2 b cur h1 (by simp [Value.ownBlock]) (e2.typ b cur 3 (.inl rfl) h3)⟩
end Go.Proofs.Ytnpocciioedgpaa
/- HELPERS: what holds of the places of a tree. -/
namespace Go.Proofs.Ytnpocciioedgpaa
open Go.RowKit
set_option linter.unusedVariables false
set_option linter.unusedSimpArgs false
theorem ents_nodes : ∀ (T : Lt) (B : Way) (up : Int) (nth : Nat), ∀ e ∈ T.ents B up nth, e.t.tn.nodes ≤ T.tn.nodes := by
  refine Lt.rec' ?_
  intro T ih B up nth e he
  rw [ents_eq] at he
  rcases List.mem_cons.1 he with rfl | he
  · exact Nat.le_refl _
  · obtain ⟨j, hj, hx⟩ := (entsL_mem _ _ _ _ _).1 he
    have h1 := ih _ (List.getElem_mem hj) _ _ _ e hx
    have h2 : (T.sub[j]).tn.nodes ≤ T.tn.nodes := by
      obtain ⟨lb, k, R, a, s, mn, mx, lz, ix, nm⟩ := T
      simp only [Lt.sub] at hj ⊢
      simp only [Lt.tn, Tn.nodes, tnL_map]
      have := nodes_get (s.map Lt.tn) j (by simpa using hj)
      simp only [List.getElem_map] at this
      omega
    omega
theorem ents_gi {G : Int} : ∀ (T : Lt) (B : Way) (up : Int) (nth : Nat), T.tn.gi ≤ G → ∀ e ∈ T.ents B up nth, e.t.tn.gi ≤ G := by
  refine Lt.rec' ?_
  intro T ih B up nth hg e he
  rw [ents_eq] at he
  rcases List.mem_cons.1 he with rfl | he
  · exact hg
  · obtain ⟨j, hj, hx⟩ := (entsL_mem _ _ _ _ _).1 he
    refine ih _ (List.getElem_mem hj) _ _ _ ?_ e hx
    obtain ⟨lb, k, R, a, s, mn, mx, lz, ix, nm⟩ := T
    simp only [Lt.sub] at hj ⊢
    simp only [Lt.tn, Tn.gi, tnL_map] at hg
    have := (giL_ge (s.map Lt.tn) ix).2 j (by simpa using hj)
    simp only [List.getElem_map] at this
    omega
/-- WHAT THE HUNT ASKS OF THE PLACES -/
theorem hck_of {t : Tn} {C : HC} (hf : t.fine = true) (hL : C.L = (t.num 0).ents (.once 1 .through) (-1) 0) (heo : (t.num 0).eo C.E (.once 1 .through)) (hn : C.n = t.nodes) (hnn : t.nodes ≤ 300000) (htn : C.tn ≤ 64) (htl : C.tn = C.tx.length) (hk2 : 2 ≤ C.K ∧ C.K ≤ 1002) (hg : 2 * t.gi + 1 < C.K) : HCk C := by
  have hft : (t.num 0).tn.fine = true := by rw [num_tn]; exact hf
  refine ⟨?_, ?_, ?_, ?_, ?_, by omega, ?_, htn, htl, hk2, ?_⟩
  · intro e he i hi
    rw [hL] at he ⊢
    exact ents_child _ _ _ _ e he i hi
  · intro e he
    rw [hL] at he
    rcases ents_parent _ _ _ _ e he with rfl | ⟨p, hp, i, hi, h⟩
    · exact .inl ⟨rfl, rfl⟩
    · exact .inr ⟨p, by rw [hL]; exact hp, i, hi, h⟩
  · intro e he
    rw [hL] at he
    exact ents_fine _ _ _ _ hft e he
  · intro e he
    rw [hL] at he
    exact ents_eo _ _ _ _ hft heo e he
  · intro e he
    rw [hL] at he
    have := ents_lt he
    omega
  · intro e he
    rw [hL] at he
    have h1 := ents_nodes _ _ _ _ e he
    rw [num_tn] at h1
    obtain ⟨⟨lb, k, R, a, s, mn, mx, lz, ix, nm⟩, B, up, nth⟩ := e
    simp only [Lt.sub]
    simp only [Lt.tn, Tn.nodes, tnL_map] at h1
    have := nodes_ge (s.map Lt.tn)
    simp only [List.length_map] at this
    omega
  · intro lb k R a s mn mx lz ix nm B up nth he hk
    have hF := node_fine (ents_fine _ _ _ _ hft _ (by rw [← hL]; exact he))
    have h1 := ents_gi (G := t.gi) (t.num 0) (.once 1 .through) (-1) 0 (by rw [num_tn]; exact Int.le_refl _) _ (by rw [← hL]; exact he)
    simp only [Lt.tn, Tn.gi] at h1
    have := (giL_ge (tnL s) ix).1
    exact ⟨(hF.grp hk).2.1, by omega⟩
end Go.Proofs.Ytnpocciioedgpaa
/- HELPERS: a tree and its unfolded form: the same parses. -/
namespace Go.Proofs.Ytnpocciioedgpaa
open Go.RowKit
set_option linter.unusedVariables false
set_option linter.unusedSimpArgs false
/-- a count of one tree -/
def loopN (x : Tn) (mn mx : Int) (lz : Bool) : Tn := .mk 6 [] 0 [x] mn mx lz 0 ⟨#[]⟩
/-- trees one behind another -/
def rowN : List Tn → Tn
  | [] => .mk 1 [] 0 [] 0 0 false 0 ⟨#[]⟩
  | [x] => x
  | x :: y :: l => .mk 4 [] 0 (x :: y :: l) 0 0 false 0 ⟨#[]⟩
/-- x that may be left, and so on -/
def optN (x : Tn) (lz : Bool) : Nat → Tn
  | 0 => loopN x 0 1 lz
  | k + 1 => loopN (rowN [x, optN x lz k]) 0 1 lz
/-- a count, unfolded -/
def sprN (x : Tn) (mn mx : Int) (lz : Bool) : Tn :=
  if mx < 0 then (if mn < 2 then loopN x mn (-1) lz else rowN (List.replicate (mn - 1).toNat x ++ [loopN x 1 (-1) lz]))
  else rowN (List.replicate mn.toNat x ++ if mn < mx then [optN x lz (mx - mn - 1).toNat] else [])
mutual
/-- a tree, unfolded -/
def Tn.spread : Tn → Tn
  | .mk k R a s mn mx lz ix nm => if k = 6 then (match spreadL s with | x :: _ => sprN x mn mx lz | [] => .mk k R a [] mn mx lz ix nm) else .mk k R a (spreadL s) mn mx lz ix nm
def spreadL : List Tn → List Tn
  | [] => []
  | t :: ts => t.spread :: spreadL ts
end
theorem spreadL_map (ts : List Tn) : spreadL ts = ts.map Tn.spread := by
  induction ts with
  | nil => rfl
  | cons t ts ih => simp [spreadL, ih]
section
variable {E : Nat → Way}
theorem row_begC {l : List Tn} (hl : l ≠ []) {n n1 : Int} {B W : Way} (h : Beg E (rowN l) n B n1 W) : BegC E l n B n1 W := by
  match l, hl, h with
  | [x], _, h => exact .cons .nil h
  | x :: y :: l, _, h => exact h.cats
theorem begC_rep {x : Tn} {ts : List Tn} : ∀ {c : Nat} {n n2 : Int} {B W : Way}, BegC E (List.replicate c x ++ ts) n B n2 W → ∃ n1 W1, BegC E ts n B n1 W1 ∧ BegT E x c n1 W1 n2 W := by
  intro c
  induction c with
  | zero => intro n n2 B W h; exact ⟨_, _, by simpa using h, .zero⟩
  | succ c ih =>
    intro n n2 B W h
    rw [List.replicate_succ, List.cons_append] at h
    obtain ⟨n1, W1, h1, h2⟩ := h.first
    obtain ⟨n3, W3, h3, h4⟩ := ih h1
    exact ⟨n3, W3, h3, .succ h4 h2⟩
theorem begC_one {x : Tn} {n n1 : Int} {B W : Way} (h : BegC E [x] n B n1 W) : Beg E x n B n1 W := by
  obtain ⟨_, _, h1, h2⟩ := h.first
  obtain ⟨rfl, rfl⟩ := h1.none
  exact h2
theorem may_beg {x : Tn} {lz : Bool} {n n1 : Int} {B W : Way} (h : Beg E (loopN x 0 1 lz) n B n1 W) : ∃ n2 W2, n1 = n2 + 1 ∧ W = .once (n2 + 1) (.inOrder (if lz = true then [B, W2] else [W2, B])) ∧ Beg E x n B n2 W2 := by
  obtain ⟨t, e, h0⟩ := Beg.rep h
  simp only [List.cons.injEq, and_true] at e
  subst e
  rcases h0 with ⟨b, _, e, _⟩ | ⟨b, c, _, _, e, _⟩ | ⟨c, m, n2, W1, e1, e2, hO, hT⟩
  · omega
  · omega
  · obtain rfl : c = 0 := by omega
    obtain rfl : m = 1 := by omega
    obtain ⟨rfl, rfl⟩ := hT.none
    obtain ⟨_, n2', _, W2, rfl, rfl, r1, r2⟩ := hO.next
    obtain ⟨rfl, rfl⟩ := r1.none
    exact ⟨n2', W2, rfl, rfl, r2⟩
theorem opt_begO {x : Tn} {lz : Bool} : ∀ {k : Nat} {n n1 : Int} {B W : Way}, Beg E (optN x lz k) n B n1 W → BegO E x lz B (k + 1) n n1 W := by
  intro k
  induction k with
  | zero =>
    intro n n1 B W h
    obtain ⟨n2, W2, rfl, rfl, r0⟩ := may_beg h
    exact .succ .zero r0
  | succ k ih =>
    intro n n1 B W h
    obtain ⟨n2, W2, rfl, rfl, r0⟩ := may_beg h
    obtain ⟨n3, W3, h1, h2⟩ := (row_begC (by simp) r0).first
    exact .succ (ih (begC_one h1)) h2
theorem spr_any0 {x : Tn} {lz : Bool} {n n1 : Int} {B W : Way} (h : Beg E (sprN x 0 (-1) lz) n B n1 W) : ∃ b, Beg E x (n + 1) (Dcd lz n b B) n1 (E b) ∧ W = Dcd lz n b B := by
  simp [sprN, loopN] at h
  obtain ⟨t, e, h0⟩ := h.rep
  simp only [List.cons.injEq, and_true] at e
  subst e
  rcases h0 with ⟨b, _, _, r0, rfl⟩ | ⟨b, c, _, e, _⟩ | ⟨c, m, _, _, _, e, _⟩
  · exact ⟨b, r0, rfl⟩
  · omega
  · omega
theorem spr_any {x : Tn} {lz : Bool} {c : Nat} {n n1 : Int} {B W : Way} (h : Beg E (sprN x ((c : Int) + 1) (-1) lz) n B n1 W) : ∃ b n2, Beg E x (n + 1) (Dcd lz n b B) n2 (E b) ∧ BegT E x c n2 (E b) n1 W := by
  have plus : ∀ {n1 : Int} {W : Way}, Beg E (loopN x 1 (-1) lz) n B n1 W → ∃ b, Beg E x (n + 1) (Dcd lz n b B) n1 (E b) ∧ W = E b := by
    intro n1 W h
    obtain ⟨t, e, h0⟩ := Beg.rep h
    simp only [List.cons.injEq, and_true] at e
    subst e
    rcases h0 with ⟨b, e, _⟩ | ⟨b, c, n2, e, _, r0, hT⟩ | ⟨c, m, _, _, _, e, _⟩
    · omega
    · obtain rfl : c = 0 := by omega
      obtain ⟨rfl, rfl⟩ := hT.none
      exact ⟨b, r0, rfl⟩
    · omega
  by_cases hc : c = 0
  · subst hc
    simp [sprN] at h
    obtain ⟨b, h1, rfl⟩ := plus h
    exact ⟨b, _, h1, .zero⟩
  · rw [sprN, if_pos (by omega), if_neg (by omega), show ((c : Int) + 1 - 1).toNat = c by omega] at h
    obtain ⟨n2, W1, h1, h2⟩ := begC_rep (row_begC (by simp) h)
    obtain ⟨b, h3, rfl⟩ := plus (begC_one h1)
    exact ⟨b, n2, h3, h2⟩
theorem spr_bnd {x : Tn} {lz : Bool} {c m : Nat} {n n1 : Int} {B W : Way} (h : Beg E (sprN x (c : Int) ((c : Int) + (m : Int)) lz) n B n1 W) : (c = 0 ∧ m = 0 ∧ n1 = n + 1 ∧ W = .once (n + 1) B) ∨ ∃ n2 W1, BegO E x lz B m n n2 W1 ∧ BegT E x c n2 W1 n1 W := by
  rw [sprN, if_neg (by omega), show ((c : Int)).toNat = c by omega] at h
  by_cases hm : m = 0
  · subst hm
    rw [if_neg (by omega)] at h
    by_cases hc : c = 0
    · subst hc
      simp [rowN] at h
      obtain ⟨rfl, rfl⟩ := h.empties
      exact .inl ⟨rfl, rfl, rfl, rfl⟩
    · obtain ⟨n2, W1, h1, h2⟩ := begC_rep (row_begC (by simp; omega) h)
      obtain ⟨rfl, rfl⟩ := h1.none
      exact .inr ⟨_, _, .zero, h2⟩
  · rw [if_pos (by omega), show ((c : Int) + (m : Int) - (c : Int) - 1).toNat = m - 1 by omega] at h
    obtain ⟨n2, W1, h1, h2⟩ := begC_rep (row_begC (by simp) h)
    have := opt_begO (begC_one h1)
    rw [show m - 1 + 1 = m by omega] at this
    exact .inr ⟨n2, W1, this, h2⟩
end
end Go.Proofs.Ytnpocciioedgpaa
/- HELPERS: a tree and its unfolded form have the same parses. -/
namespace Go.Proofs.Ytnpocciioedgpaa
open Go.RowKit
set_option linter.unusedVariables false
set_option linter.unusedSimpArgs false
theorem spreadL_snoc (ts : List Tn) (t : Tn) : spreadL (ts ++ [t]) = spreadL ts ++ [t.spread] := by simp [spreadL_map]
/-- SIDE BY SIDE: a tree unfolded, and the tree -/
theorem beg_spread {E E' : Nat → Way} {t : Tn} {n' n1' : Int} {B' W' : Way} (h : Beg E' t n' B' n1' W') : ∀ n B n1 W, Beg E t.spread n B n1 W → SM E E' false n B n1 W n' B' n1' W' := by
  refine Beg.rec (motive_1 := fun t n' B' n1' W' _ => ∀ n B n1 W, Beg E t.spread n B n1 W → SM E E' false n B n1 W n' B' n1' W') (motive_2 := fun ts n' B' n1' W' _ => ∀ n B n1 W, BegC E (spreadL ts) n B n1 W → SM E E' false n B n1 W n' B' n1' W')
    (motive_3 := fun ts n' B' n1' Ws' _ => ∀ n B n1 Ws, BegA E (spreadL ts) n B n1 Ws → ∀ G, G.drop = false → MInv n n' G → Sim G B B' → (∃ h, Hdp G B h) → ∃ G', MInv n1 n1' G' ∧ Grow E E' n n' G n1 n1' G' ∧ Sim G' (.inOrder Ws) (.inOrder Ws'))
    (motive_4 := fun t c n' B' n1' W' _ => ∀ n B n1 W, BegT E t.spread c n B n1 W → SM E E' false n B n1 W n' B' n1' W') (motive_5 := fun t lz B' c n' n1' W' _ => ∀ n B n1 W, BegO E t.spread lz B c n n1 W → SM E E' false n B n1 W n' B' n1' W')
    ?_ ?_ ?_ ?_ ?_ ?_ ?_ ?_ ?_ ?_ ?_ ?_ ?_ ?_ ?_ ?_ ?_ h
  · intro R a s mn mx lz ix nm n' B' n B n1 W hr
    simp [Tn.spread] at hr
    obtain ⟨rfl, rfl⟩ := hr.empties
    exact SM.pair fun G _ hI hS _ => ⟨G, hI, .refl _ _ _, hS⟩
  · intro R a s mn mx lz ix nm n' B' n B n1 W hr
    simp [Tn.spread] at hr
    obtain ⟨rfl, rfl⟩ := hr.classes
    exact SM.pair fun G _ hI hS _ => ⟨G, hI, .refl _ _ _, .runeOf hS⟩
  · intro R a s mn mx lz ix nm n' B' n B n1 W hr
    simp [Tn.spread] at hr
    obtain ⟨rfl, rfl⟩ := hr.asserts
    exact SM.pair fun G _ hI hS _ => ⟨G, hI, .refl _ _ _, .ifHolds hS⟩
  · intro R a s mn mx lz ix nm n' n1' B' W' _ ih n B n1 W hr
    simp [Tn.spread] at hr
    exact ih _ _ _ _ hr.cats
  · intro R a s mn mx lz ix nm n' n1' B' Ws' _ ih n B n1 W hr
    simp [Tn.spread] at hr
    obtain ⟨n2, Ws, rfl, rfl, r1⟩ := hr.alts
    exact SM.pair fun G hd hI hS hH => ih _ _ _ _ r1 G hd hI hS hH
  · intro R a t mn mx lz i nm n' n1' B' W' _ ih n B n1 W hr
    simp [Tn.spread, spreadL] at hr
    obtain ⟨t', i', n2, W1, e1, e2, rfl, rfl, r1⟩ := hr.group
    simp only [List.cons.injEq, and_true] at e1
    subst e1
    obtain rfl : i = i' := by omega
    refine SM.pair fun G hd hI hS ⟨h0, hH⟩ => ?_
    obtain ⟨G1, i1, g1, s1, h1, d1⟩ := ih _ _ _ _ r1 G hd hI (.noted hd hS) ⟨h0, .noted hH⟩
    exact ⟨G1, i1, g1, .noted (g1.dr.trans hd) s1⟩
  · intro R a t lz ix nm n' n2' b' B' _ ih n B n1 W hr
    simp [Tn.spread, spreadL] at hr
    obtain ⟨b, r1, rfl⟩ := spr_any0 hr
    intro G hd hI hS hH
    obtain ⟨G1, i1, g1, _, s1, _, d1⟩ := (ih _ _ _ _ r1).round G hd hI hS
    exact ⟨G1, i1, g1, s1, d1⟩
  · intro R a t c lz ix nm n' n2' n3' b' B' W3' _ _ ih ihT n B n1 W hr
    simp [Tn.spread, spreadL] at hr
    obtain ⟨b, n2, r1, hT⟩ := spr_any hr
    refine SM.seq (fun G hd hI hS hH => ?_) (ihT _ _ _ _ hT)
    obtain ⟨G1, i1, g1, s1, _, d1, _⟩ := (ih _ _ _ _ r1).round G hd hI hS
    exact ⟨G1, i1, g1, s1, d1⟩
  · intro R a t c m lz ix nm n' n1' n2' B' W1' W2' hO0 hT0 ihO ihT n B n1 W hr
    simp [Tn.spread, spreadL] at hr
    rcases spr_bnd hr with ⟨rfl, rfl, rfl, rfl⟩ | ⟨n2, W1, hO, hT⟩
    · obtain ⟨rfl, rfl⟩ := hT0.none
      obtain ⟨rfl, rfl⟩ := hO0.none
      exact (SM.self _ _ _ _ _).extra
    · exact (ihO _ _ _ _ hO).seq (ihT _ _ _ _ hT)
  · intro n' B' n B n1 W hr
    obtain ⟨rfl, rfl⟩ := hr.none
    exact .self _ _ _ _ _
  · intro t ts n' n1' n2' B' W1' W2' _ _ h h2 n B n1 W hr
    simp only [spreadL] at hr
    obtain ⟨_, _, r1, r2⟩ := hr.first
    exact (h _ _ _ _ r1).seq (h2 _ _ _ _ r2)
  · intro n' B' n B n1 Ws hr G hd hI hS hH
    obtain ⟨rfl, rfl⟩ := hr.none
    exact ⟨G, hI, .refl _ _ _, .inOrder rfl fun i hi => by simp at hi⟩
  · intro t ts n' n1' n2' B' W2' Ws' _ _ hl hl2 n B n1 Ws hr G hd hI hS hH
    rw [spreadL_snoc] at hr
    obtain ⟨_, Ws1, W2, rfl, r1, r2⟩ := hr.last
    obtain ⟨G1, i1, g1, s1⟩ := hl _ _ _ _ r1 G hd hI hS hH
    obtain ⟨h0, hH⟩ := hH
    obtain ⟨G2, i2, g2, s2, _⟩ := hl2 _ _ _ _ r2 G1 (g1.dr.trans hd) i1 (g1.sim hI hS) ⟨h0, hH.up g1.c g1.x⟩
    have s3 := g2.sim i1 s1
    cases s3 with
    | inOrder el s3 =>
      refine ⟨G2, i2, g1.trans g2 i1, .inOrder (by simp [el]) fun i hi hi' => ?_⟩
      by_cases hi2 : i < Ws1.length
      · rw [List.getElem_append_left hi2, List.getElem_append_left (by omega)]
        exact s3 i hi2 (by omega)
      · simp only [List.length_append, List.length_cons, List.length_nil] at hi hi'
        obtain rfl : i = Ws1.length := by omega
        rw [List.getElem_concat_length rfl, List.getElem_concat_length el]
        exact s2
  · intro t n' W' n B n1 W hr
    obtain ⟨rfl, rfl⟩ := hr.none
    exact .self _ _ _ _ _
  · intro t c n' n1' n2' W' W1' W2' _ _ h h2 n B n1 W hr
    obtain ⟨_, _, r1, r2⟩ := hr.next
    exact (h _ _ _ _ r1).seq (h2 _ _ _ _ r2)
  · intro t lz B' n' n B n1 W hr
    obtain ⟨rfl, rfl⟩ := hr.none
    exact .self _ _ _ _ _
  · intro t lz B' c n' n1' n2' W1' W2' _ _ h h2 n B n1 W hr
    obtain ⟨_, n2, _, _, rfl, rfl, r1, r2⟩ := hr.next
    refine SM.pair fun G hd hI hS hH => ?_
    obtain ⟨G1, i1, g1, s1, _⟩ := ((h _ _ _ _ r1).seq (h2 _ _ _ _ r2)) G hd hI hS hH
    exact ⟨G1, i1, g1, sim_two s1 (g1.sim hI hS) lz⟩
/-- the notes of fewer groups are the first of the notes -/
def Pre (ν ν' : List Int) : Prop := ν.length ≤ ν'.length ∧ ∀ k, k < ν.length → ν[k]? = ν'[k]?
theorem Pre.set {ν ν' : List Int} (h : Pre ν ν') (c : Nat) (x : Int) : Pre (ν.set c x) (ν'.set c x) := by
  refine ⟨by simpa using h.1, fun k hk => ?_⟩
  simp only [List.length_set] at hk
  have h1 := h.1
  by_cases e : c = k
  · subst e
    rw [List.getElem?_set_self hk, List.getElem?_set_self (by omega)]
  · rw [List.getElem?_set_ne e, List.getElem?_set_ne e]
    exact h.2 k hk
/-- parses alike: the same ends, of each the notes -/
def PreL : List (Int × List Int) → List (Int × List Int) → Prop
  | [], [] => True
  | e :: l, e' :: l' => e.1 = e'.1 ∧ Pre e.2 e'.2 ∧ PreL l l'
  | _, _ => False
theorem PreL.snoc {e e' : Int × List Int} (h1 : e.1 = e'.1) (h2 : Pre e.2 e'.2) : ∀ {l l' : List (Int × List Int)}, PreL l l' → PreL (l ++ [e]) (l' ++ [e'])
  | [], [], _ => ⟨h1, h2, trivial⟩
  | _ :: _, _ :: _, h => ⟨h.1, h.2.1, PreL.snoc h1 h2 h.2.2⟩
  | [], _ :: _, h => h.elim
  | _ :: _, [], h => h.elim
/-- THE PARSES OF A TREE UNFOLDED: the same ends in the same order, the same captures as far as they go -/
theorem PS.spread {t : Tn} {K K' : Nat} {tx : List Int} {p : Nat} {l m : List (Int × List Int)} (hK : K ≤ K') (h : PS t.spread K tx p l) (h' : PS t K' tx p m) : PreL l m := by
  obtain ⟨E, W, n1, s1, hB, hE, hg, hx, rfl⟩ := h.ex
  obtain ⟨E', W', n1', s1', hB', hE', hg', hx', rfl⟩ := h'.ex
  obtain ⟨G0, hG0⟩ : ∃ G0 : Mat, G0 = ⟨fun a a' => a = 1 ∧ a' = 1, fun _ _ => False, fun _ _ => False, fun _ => .through, false, Pre, PreL⟩ := ⟨_, rfl⟩
  obtain ⟨G, hI, hgr, hS, h0, hH⟩ := beg_spread hB' _ _ _ _ hB G0 (by rw [hG0]) (by rw [hG0]; exact ⟨fun a a' h => by simp at h; omega, fun _ _ h => h.elim, fun a a' m m' h1 h2 => by simp at h1 h2; omega, fun _ _ _ h => h.elim, fun _ _ _ h => h.elim⟩) (by rw [hG0]; exact .once ⟨rfl, rfl⟩ .through) ⟨1, by rw [hG0]; exact .once (n' := 1) ⟨rfl, rfl⟩⟩
  have hnr : G.NR = Pre := by rw [hgr.nr, hG0]
  have hpr : G.PR = PreL := by rw [hgr.pr, hG0]
  have hdr : G.drop = false := by rw [hgr.dr, hG0]
  have hok : G.Ok E E' := by
    refine ⟨hI.one, hI.noC, hI.oneX, fun b b' hb => ?_, fun c x ν ν' hd hn => ?_, fun c x ν ν' hd _ => (by rw [hdr] at hd; cases hd), fun q ν ν' a b hn h => ?_⟩
    · rcases hgr.new b b' hb with hb | hb
      · rw [hG0] at hb; exact hb.elim
      · exact hb
    · rw [hnr] at hn ⊢; exact hn.set c x
    · rw [hpr] at h ⊢
      rw [hnr] at hn
      exact PreL.snoc (e := ((q : Int), ν.set 1 (q : Int))) (e' := ((q : Int), ν'.set 1 (q : Int))) rfl (hn.set 1 _) h
  obtain ⟨s2, hx2, hA⟩ := sim_ex hok hx W' ⟨[], (List.replicate K' (-1)).set 0 (p : Int), []⟩ NoP hS ⟨fun a a' q _ => by simp, fun m n0 q _ hm => by simp at hm, by rw [hnr]; exact Pre.set ⟨by simpa using hK, fun k hk => by simp only [List.length_replicate] at hk; simp [List.getElem?_replicate, hk, show k < K' by omega]⟩ 0 _, by rw [hpr]; trivial⟩ (Pend.no _ _)
  have e := hx'.det hx2
  subst e
  have := hA.pr
  rw [hpr] at this
  exact this
end Go.Proofs.Ytnpocciioedgpaa
/- HELPERS: nothing is noted but by groups that count. -/
namespace Go.Proofs.Ytnpocciioedgpaa
open Go.RowKit
set_option linter.unusedVariables false
set_option linter.unusedSimpArgs false
mutual
/-- a way notes below K alone -/
def Way.nt (K : Nat) (A : Nat → Prop) : Way → Prop
  | .through => True
  | .once _ d => d.nt K A
  | .noted c d => c < K ∧ d.nt K A
  | .runeOf _ d => d.nt K A
  | .ifHolds _ d => d.nt K A
  | .inOrder l => ntL K A l
  | .again b => A b
def ntL (K : Nat) (A : Nat → Prop) : List Way → Prop
  | [] => True
  | d :: l => d.nt K A ∧ ntL K A l
end
theorem ntL_get {K : Nat} {A : Nat → Prop} : ∀ {l : List Way}, ntL K A l → ∀ (i : Nat) (hi : i < l.length), (l[i]'hi).nt K A := by
  intro l
  induction l with
  | nil => intro _ i hi; simp at hi
  | cons e l ih =>
    intro h i hi
    simp only [ntL] at h
    cases i with
    | zero => exact h.1
    | succ i => exact ih h.2 i (by simpa using hi)
theorem ntL_snoc {K : Nat} {A : Nat → Prop} {d : Way} (hd : d.nt K A) : ∀ {l : List Way}, ntL K A l → ntL K A (l ++ [d]) := by
  intro l
  induction l with
  | nil => intro _; simp [ntL, hd]
  | cons e l ih => intro h; simp only [ntL, List.cons_append] at h ⊢; exact ⟨h.1, ih h.2⟩
mutual
theorem nt_mono {K : Nat} {A A' : Nat → Prop} (hA : ∀ b, A b → A' b) : ∀ (W : Way), W.nt K A → W.nt K A'
  | .through, h => by simp only [Way.nt]
  | .once _ d, h => by simp only [Way.nt] at h ⊢; exact nt_mono hA d h
  | .noted c d, h => by simp only [Way.nt] at h ⊢; exact ⟨h.1, nt_mono hA d h.2⟩
  | .runeOf _ d, h => by simp only [Way.nt] at h ⊢; exact nt_mono hA d h
  | .ifHolds _ d, h => by simp only [Way.nt] at h ⊢; exact nt_mono hA d h
  | .inOrder l, h => by simp only [Way.nt] at h ⊢; exact ntL_mono hA l h
  | .again b, h => by simp only [Way.nt] at h ⊢; exact hA b h
theorem ntL_mono {K : Nat} {A A' : Nat → Prop} (hA : ∀ b, A b → A' b) : ∀ (l : List Way), ntL K A l → ntL K A' l
  | [], h => by simp only [ntL]
  | d :: l, h => by simp only [ntL] at h ⊢; exact ⟨nt_mono hA d h.1, ntL_mono hA l h.2⟩
end
/-- nothing is noted from K on -/
def Bare (K : Nat) (ν : List Int) : Prop := ∀ k, K ≤ k → ν.getD k (-1) = -1
theorem Bare.set {K : Nat} {ν : List Int} (h : Bare K ν) {c : Nat} (hc : c < K) (x : Int) : Bare K (ν.set c x) := fun k hk => by
  have e := h k hk
  simp only [List.getD_eq_getElem?_getD] at e ⊢
  rw [List.getElem?_set_ne (by omega)]
  exact e
theorem ex_bare {tx : List Int} {E : Nat → Way} {A : Nat → Prop} {K : Nat} (hE : ∀ b, A b → (E b).nt K A) (hK : 2 ≤ K) {W : Way} {p : Nat} {s s' : Sg} (h : Ex tx E W p s s') : W.nt K A → Bare K s.notes → (∀ e ∈ s.parses, Bare K e.2) → ∀ e ∈ s'.parses, Bare K e.2 := by
  induction h with
  | through p s =>
    intro _ hM hP e he
    simp only [List.mem_append, List.mem_singleton] at he
    rcases he with he | rfl
    · exact hP e he
    · exact hM.set (by omega) _
  | skip h => intro _ _ hP; exact hP
  | once h hd ih => intro hO hM hP; simp only [Way.nt] at hO; exact ih hO hM hP
  | noted hd ih =>
    intro hO hM hP
    simp only [Way.nt] at hO
    exact ih hO.2 (hM.set hO.1 _) hP
  | over h => intro _ _ hP; exact hP
  | other h hr => intro _ _ hP; exact hP
  | rune h hr hd ih => intro hO hM hP; simp only [Way.nt] at hO; exact ih hO hM hP
  | fails h => intro _ _ hP; exact hP
  | holds h hd ih => intro hO hM hP; simp only [Way.nt] at hO; exact ih hO hM hP
  | @inOrder l p ss h ih =>
    intro hO hM hP
    simp only [Way.nt] at hO
    have key : ∀ i, i ≤ l.length → (ss i).notes = (ss 0).notes ∧ ∀ e ∈ (ss i).parses, Bare K e.2 := by
      intro i
      induction i with
      | zero => intro _; exact ⟨rfl, hP⟩
      | succ i ihi =>
        intro hi
        obtain ⟨a, b⟩ := ihi (by omega)
        exact ⟨(h i (by omega)).notes.trans a, ih i (by omega) (ntL_get hO i (by omega)) (by rw [a]; exact hM) b⟩
    exact (key _ (Nat.le_refl _)).2
  | again h ih => intro hO hM hP; simp only [Way.nt] at hO; exact ih (hE _ hO) hM hP
mutual
/-- the groups that count note below K -/
def Tn.eff (K : Nat) : Tn → Prop
  | .mk k R a s mn mx lz ix nm => (k = 7 → 2 * ix + 1 < (K : Int)) ∧ (¬ (k = 6 ∧ mx = 0) → effL K s)
def effL (K : Nat) : List Tn → Prop
  | [] => True
  | t :: ts => t.eff K ∧ effL K ts
end
theorem effL_snoc {K : Nat} {t : Tn} : ∀ {ts : List Tn}, effL K (ts ++ [t]) ↔ effL K ts ∧ t.eff K := by
  intro ts
  induction ts with
  | nil => simp [effL]
  | cons u ts ih => simp only [List.cons_append, effL, ih, and_assoc]
/-- more loops, each noting below K -/
structure MorN (E : Nat → Way) (K : Nat) (A A' : Nat → Prop) : Prop where
  sub : ∀ b, A b → A' b
  new : ∀ b, A' b → A b ∨ (E b).nt K A'
section
variable {E : Nat → Way} {K : Nat}
theorem MorN.refl (A : Nat → Prop) : MorN E K A A := ⟨fun _ h => h, fun _ h => .inl h⟩
theorem MorN.trans {A A1 A2 : Nat → Prop} (h : MorN E K A A1) (h' : MorN E K A1 A2) : MorN E K A A2 :=
  ⟨fun b hb => h'.sub b (h.sub b hb), fun b hb => by
    rcases h'.new b hb with hb | hb
    · rcases h.new b hb with hb | hb
      · exact .inl hb
      · exact .inr (nt_mono h'.sub _ hb)
    · exact .inr hb⟩
def NtM (E : Nat → Way) (K : Nat) (B W : Way) : Prop := ∀ A, B.nt K A → ∃ A', MorN E K A A' ∧ W.nt K A'
theorem NtM.self (B : Way) : NtM E K B B := fun A h => ⟨A, .refl A, h⟩
theorem NtM.seq {B W W' : Way} (h : NtM E K B W) (h' : NtM E K W W') : NtM E K B W' := fun A hb => by
  obtain ⟨A1, m1, h1⟩ := h A hb
  obtain ⟨A2, m2, h2⟩ := h' A1 h1
  exact ⟨A2, m1.trans m2, h2⟩
theorem NtM.map {B W W' : Way} (h : NtM E K B W) (hW : ∀ A, W.nt K A → W'.nt K A) : NtM E K B W' := fun A hb => by
  obtain ⟨A1, m1, h1⟩ := h A hb
  exact ⟨A1, m1, hW _ h1⟩
theorem NtM.round {n : Int} {b : Nat} {B : Way} (lz : Bool) (h : NtM E K (Dcd lz n b B) (E b)) {A : Nat → Prop} (hB : B.nt K A) : ∃ A', MorN E K A A' ∧ (E b).nt K A' ∧ (Dcd lz n b B).nt K A' := by
  have hD : (Dcd lz n b B).nt K (fun x => A x ∨ x = b) := by
    have hB' := nt_mono (A' := fun x => A x ∨ x = b) (fun x hx => .inl hx) B hB
    simp only [Way.nt]
    cases lz <;> simp [ntL, hB', Way.nt]
  obtain ⟨A1, m1, h1⟩ := h _ hD
  refine ⟨A1, ⟨fun x hx => m1.sub x (.inl hx), fun x hx => ?_⟩, h1, nt_mono m1.sub _ hD⟩
  rcases m1.new x hx with (hx | rfl) | hx
  · exact .inl hx
  · exact .inr h1
  · exact .inr hx
theorem Beg.notes {t : Tn} {n n1 : Int} {B W : Way} (h : Beg E t n B n1 W) : t.eff K → NtM E K B W := by
  refine Beg.rec (motive_1 := fun t n B n1 W _ => t.eff K → NtM E K B W) (motive_2 := fun ts n B n1 W _ => effL K ts → NtM E K B W)
    (motive_3 := fun ts n B n1 Ws _ => effL K ts → ∀ A, B.nt K A → ∃ A', MorN E K A A' ∧ ntL K A' Ws)
    (motive_4 := fun t c n B n1 W _ => (c ≠ 0 → t.eff K) → NtM E K B W) (motive_5 := fun t lz B c n n1 W _ => (c ≠ 0 → t.eff K) → NtM E K B W)
    ?_ ?_ ?_ ?_ ?_ ?_ ?_ ?_ ?_ ?_ ?_ ?_ ?_ ?_ ?_ ?_ ?_ h
  · intro R a s mn mx lz ix nm n B _
    exact (NtM.self B).map fun _ h => by simp only [Way.nt]; exact h
  · intro R a s mn mx lz ix nm n B _
    exact (NtM.self B).map fun _ h => by simp only [Way.nt]; exact h
  · intro R a s mn mx lz ix nm n B _
    exact (NtM.self B).map fun _ h => by simp only [Way.nt]; exact h
  · intro R a s mn mx lz ix nm n n' B W _ h hf
    simp only [Tn.eff] at hf
    exact h (hf.2 (by omega))
  · intro R a s mn mx lz ix nm n n' B Ws _ h hf A hb
    simp only [Tn.eff] at hf
    obtain ⟨A1, m1, h1⟩ := h (hf.2 (by omega)) A hb
    exact ⟨A1, m1, by simp only [Way.nt]; exact h1⟩
  · intro R a t mn mx lz i nm n n' B W _ h hf A hb
    simp only [Tn.eff, effL] at hf
    have hi : 2 * i + 1 < K := by have := hf.1 trivial; omega
    obtain ⟨A1, m1, h1⟩ := h (hf.2 (by omega)).1 A (by simp only [Way.nt]; exact ⟨hi, hb⟩)
    exact ⟨A1, m1, by simp only [Way.nt]; exact ⟨by omega, h1⟩⟩
  · intro R a t lz ix nm n n2 b B _ h hf A hb
    simp only [Tn.eff, effL] at hf
    obtain ⟨A1, m1, _, h1⟩ := (h (hf.2 (by omega)).1).round lz hb
    exact ⟨A1, m1, h1⟩
  · intro R a t c lz ix nm n n2 n3 b B W3 _ _ h hT hf
    simp only [Tn.eff, effL] at hf
    have he := (hf.2 (by omega)).1
    refine NtM.seq (fun A hb => ?_) (hT fun _ => he)
    obtain ⟨A1, m1, h1, _⟩ := (h he).round lz hb
    exact ⟨A1, m1, h1⟩
  · intro R a t c m lz ix nm n n1 n2 B W1 W2 _ _ hO hT hf
    simp only [Tn.eff, effL] at hf
    exact (hO fun h0 => (hf.2 (by omega)).1).seq (hT fun h0 => (hf.2 (by omega)).1)
  · intro n B _
    exact .self B
  · intro t ts n n1 n2 B W1 W2 _ _ h h2 hf
    simp only [effL] at hf
    exact (h hf.2).seq (h2 hf.1)
  · intro n B _ A hb
    exact ⟨A, .refl A, by simp [ntL]⟩
  · intro t ts n n1 n2 B W2 Ws _ _ hl hl2 hf A hb
    rw [effL_snoc] at hf
    obtain ⟨A1, m1, h1⟩ := hl hf.1 A hb
    obtain ⟨A2, m2, h2⟩ := hl2 hf.2 A1 (nt_mono m1.sub _ hb)
    exact ⟨A2, m1.trans m2, ntL_snoc h2 (ntL_mono m2.sub _ h1)⟩
  · intro t n W _
    exact .self W
  · intro t c n n1 n2 W W1 W2 _ _ h h2 hf
    have he := hf (by omega)
    exact (h fun _ => he).seq (h2 he)
  · intro t lz B n _
    exact .self B
  · intro t lz B c n n1 n2 W1 W2 _ _ h h2 hf A hb
    have he := hf (by omega)
    obtain ⟨A1, m1, h1⟩ := ((h fun _ => he).seq (h2 he)) A hb
    have hb1 := nt_mono m1.sub _ hb
    refine ⟨A1, m1, ?_⟩
    simp only [Way.nt]
    cases lz <;> simp [ntL, h1, hb1]
end
/-- THE CAPTURES of groups that do not count are not set -/
theorem PS.unset {t : Tn} {K K' : Nat} {tx : List Int} {p : Nat} {l : List (Int × List Int)} (h : PS t K' tx p l) (hK : 2 ≤ K) (hf : t.eff K) : ∀ e ∈ l, ∀ k, K ≤ k → e.2.getD k (-1) = -1 := by
  obtain ⟨E, W, n1, s', hB, hE, hg, hx, rfl⟩ := h.ex
  obtain ⟨A, hM, hc⟩ := hB.notes hf (fun _ => False) (by simp [Way.nt])
  refine ex_bare (A := A) (fun b hb => ?_) hK hx hc ?_ (fun e he => by cases he)
  · rcases hM.new b hb with h | h
    · exact h.elim
    · exact h
  · refine Bare.set (fun k hk => ?_) (by omega) _
    simp only [List.getD_eq_getElem?_getD, List.getElem?_replicate]
    split <;> simp
/- how great the indices of an unfolded tree are -/
theorem giL_le {G : Int} : ∀ (ts : List Tn) (m : Int), giL ts m ≤ G ↔ m ≤ G ∧ ∀ t ∈ ts, t.gi ≤ G := by
  intro ts
  induction ts with
  | nil => intro m; simp [giL]
  | cons t ts ih =>
    intro m
    simp only [giL, ih, List.mem_cons]
    constructor
    · rintro ⟨h1, h2⟩
      refine ⟨by omega, fun u hu => ?_⟩
      rcases hu with rfl | hu
      · omega
      · exact h2 u hu
    · rintro ⟨h1, h2⟩
      have := h2 t (.inl rfl)
      exact ⟨by omega, fun u hu => h2 u (.inr hu)⟩
theorem gi_loopN {x : Tn} {mn mx : Int} {lz : Bool} {G : Int} : (loopN x mn mx lz).gi ≤ G ↔ 0 ≤ G ∧ x.gi ≤ G := by
  simp only [loopN, Tn.gi, giL_le]
  simp
theorem gi_rowN {l : List Tn} {G : Int} (hG : 0 ≤ G) : (rowN l).gi ≤ G ↔ ∀ x ∈ l, x.gi ≤ G := by
  match l with
  | [] => simp [rowN, Tn.gi, giL, hG]
  | [x] => simp [rowN]
  | x :: y :: l => simp only [rowN, Tn.gi, giL_le, hG, true_and]
theorem gi_optN {x : Tn} {lz : Bool} {G : Int} (hG : 0 ≤ G) : ∀ k, (optN x lz k).gi ≤ G ↔ x.gi ≤ G := by
  intro k
  induction k with
  | zero => simp only [optN, gi_loopN, hG, true_and]
  | succ k ih =>
    simp only [optN, gi_loopN, hG, true_and, gi_rowN hG]
    simp [ih]
theorem gi_sprN {x : Tn} {mn mx : Int} {lz : Bool} {G : Int} (hG : 0 ≤ G) (h0 : 0 ≤ mn) (hx : mx = -1 ∨ mn ≤ mx) : (x.gi ≤ G → (sprN x mn mx lz).gi ≤ G) ∧ (mx ≠ 0 → (sprN x mn mx lz).gi ≤ G → x.gi ≤ G) := by
  unfold sprN
  by_cases c0 : mx < 0
  · rw [if_pos c0]
    by_cases c1 : mn < 2
    · rw [if_pos c1]
      simp only [gi_loopN, hG, true_and]
      exact ⟨fun h => h, fun _ h => h⟩
    · rw [if_neg c1]
      simp only [gi_rowN hG, List.mem_append, List.mem_singleton, List.mem_replicate]
      refine ⟨fun h y hy => ?_, fun _ h => ?_⟩
      · rcases hy with ⟨_, rfl⟩ | rfl
        · exact h
        · exact gi_loopN.2 ⟨hG, h⟩
      · exact (gi_loopN.1 (h _ (.inr rfl))).2
  · rw [if_neg c0]
    simp only [gi_rowN hG, List.mem_append, List.mem_replicate]
    refine ⟨fun h y hy => ?_, fun hne h => ?_⟩
    · rcases hy with ⟨_, rfl⟩ | hy
      · exact h
      · split at hy
        · simp only [List.mem_singleton] at hy
          subst hy
          exact (gi_optN hG _).2 h
        · cases hy
    · by_cases c2 : mn < mx
      · rw [if_pos c2] at h
        exact (gi_optN hG _).1 (h _ (.inr (List.mem_singleton.2 rfl)))
      · exact h x (.inl ⟨by omega, rfl⟩)
mutual
theorem spread_gi : ∀ (t : Tn), t.fine = true → ∀ (G : Int), 0 ≤ G → (t.gi ≤ G → t.spread.gi ≤ G) ∧ (t.spread.gi ≤ G → t.eff (2 * G + 2).toNat)
  | .mk k R a s mn mx lz ix nm, hf, G, hG => by
    simp only [Tn.fine, Bool.and_eq_true] at hf
    have FN := fine_node hf.1
    obtain ⟨i1, i2⟩ := spreadL_gi s hf.2 G hG
    by_cases h6 : k = 6
    · subst h6
      obtain ⟨q1, q2, q3, q4⟩ := FN.rep rfl
      match s, q1, i1, i2 with
      | [x], _, i1, i2 =>
      simp only [spreadL, List.mem_singleton, forall_eq] at i1 i2
      have e : (Tn.mk 6 R a [x] mn mx lz ix nm).spread = sprN x.spread mn mx lz := by simp [Tn.spread, spreadL]
      rw [e]
      obtain ⟨j1, j2⟩ := gi_sprN (x := x.spread) (lz := lz) hG q2 (by omega : mx = -1 ∨ mn ≤ mx)
      refine ⟨fun h => ?_, fun h => ?_⟩
      · simp only [Tn.gi, giL_le] at h
        exact j1 (i1 (h.2 x (by simp)))
      · simp only [Tn.eff]
        exact ⟨fun h => by omega, fun hn => i2 (j2 (fun h0 => hn (by simp [h0])) h)⟩
    · have e : (Tn.mk k R a s mn mx lz ix nm).spread = .mk k R a (spreadL s) mn mx lz ix nm := by simp [Tn.spread, h6]
      rw [e]
      simp only [Tn.gi, giL_le, Tn.eff]
      exact ⟨fun h => ⟨h.1, i1 h.2⟩, fun h => ⟨fun h7 => by have := (FN.grp h7).2; omega, fun _ => i2 h.2⟩⟩
theorem spreadL_gi : ∀ (ts : List Tn), fineL ts = true → ∀ (G : Int), 0 ≤ G → ((∀ t ∈ ts, t.gi ≤ G) → ∀ t ∈ spreadL ts, t.gi ≤ G) ∧ ((∀ t ∈ spreadL ts, t.gi ≤ G) → effL (2 * G + 2).toNat ts)
  | [], _, G, _ => by simp [spreadL, effL]
  | t :: ts, hf, G, hG => by
    simp only [fineL, Bool.and_eq_true] at hf
    obtain ⟨a1, a2⟩ := spread_gi t hf.1 G hG
    obtain ⟨b1, b2⟩ := spreadL_gi ts hf.2 G hG
    simp only [spreadL, List.mem_cons, forall_eq_or_imp, effL]
    exact ⟨fun h => ⟨a1 h.1, b1 h.2⟩, fun h => ⟨a2 h.1, b2 h.2⟩⟩
end
end Go.Proofs.Ytnpocciioedgpaa
