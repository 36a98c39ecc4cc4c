/- HELPERS: Load. -/
import Derived.Test.YteanndophopplaaDoorXh
import Derived.Test.YteanndophopplaaDoorGA
import Derived.Laws.BytesArg
import Derived.Deep.RegionHeld3
import Derived.Deep.QuietTactic
import Derived.BigQuiet
import Derived.Laws.StructEq
import Derived.Deep.DrawnRows
import Derived.Stop.BytesEq
import Derived.Deep.LoopGhost
/- HELPERS: a region that draws its order: what only reads is taken first, in an order that is given, where the rest keeps what it reads, but for the last operation, which waits for all. -/
namespace Go.Proofs.YteanndophopplaaDoor
open Go Go.RowKit
set_option linter.unusedVariables false
section
variable {P : Program} {ops : Array Oper} {Q : Exit → Act → World → Prop} {md : Region.Mode} {S : World → Prop} {L : Nat}
def lexK (md : Region.Mode) (ops : Array Oper) (L : Nat) : List Nat → Array Bool → Bool
  | [], _ => true
  | k :: ks, listed => (Region.ready md ops listed).contains k && Region.free md ops listed k && Region.waitsFor md ops L k && lexK md ops L ks (listed.setIfInBounds k true)
def marksK : List Nat → Array Bool → Array Bool
  | [], listed => listed
  | k :: ks, listed => marksK ks (listed.setIfInBounds k true)
def seqK (md : Region.Mode) (ops : Array Oper) : List Nat → Array Bool → Bool
  | [], listed => (Region.ready md ops listed).isEmpty
  | k :: ks, listed => decide (Region.ready md ops listed = [k]) && seqK md ops ks (listed.setIfInBounds k true)
def opsAt (ops : Array Oper) : List Nat → List Oper
  | [] => []
  | k :: ks => match ops[k]? with | some o => o :: opsAt ops ks | none => opsAt ops ks
def opsNo (ops : Array Oper) : List Nat → List (Nat × Oper)
  | [] => []
  | k :: ks => match ops[k]? with | some o => (k, o) :: opsNo ops ks | none => opsNo ops ks
theorem wpAnyX_lexK {g : Nat} {w : World} (hsel : Region.noSelect ops = true) (hS : S w) :
    ∀ (ks : List Nat) (listed : Array Bool) (a : Act), lexK md ops L ks listed = true →
    wpLex P ops Q S (fun a' => wpAnyX P md ops Q S L g (marksK ks listed) a' w) (opsAt ops ks) a → wpAnyX P md ops Q S L (ks.length + g) listed a w
  | [], listed, a, _, h => by simpa [marksK, opsAt, wpLex] using h
  | k :: ks, listed, a, hB, h => by
    simp only [lexK, Bool.and_eq_true] at hB
    obtain ⟨⟨⟨hr, hf⟩, hL⟩, hB'⟩ := hB
    have hr' : k ∈ Region.ready md ops listed := by simpa using hr
    obtain ⟨_, o, h0, _⟩ := mem_ready.1 hr'
    simp only [opsAt, h0] at h
    obtain ⟨v, hy, hQ, hK⟩ := h
    rw [show (k :: ks).length + g = (ks.length + g) + 1 by simp only [List.length_cons]; omega]
    exact wpAnyX_first h0 (Region.noSelect_spec hsel) hQ hL (ks.length + g) listed a w (Region.free_spec h0 hf) hr' hy hS
      (wpAnyX_lexK hsel hS ks _ _ hB' hK)
/-- the tail: one operation behind the other -/
def wpTailK (P : Program) (ops : Array Oper) (Q : Exit → Act → World → Prop) (S : World → Prop) (L : Nat) : List (Nat × Oper) → Act → World → Prop
  | [], a, w => Q .normal a w
  | (k, o) :: l, a, w => ∀ K : Act → World → Prop, Hid (∀ a' w', (k ≠ L → S w') → wpTailK P ops Q S L l a' w' → K a' w') → if Region.wanted o (yielded ops a.tmps) = true then Oper.wp P o a w K Q else K (a.put o.dst undef) w
theorem tailK_cons {o : Oper} {l : List (Nat × Oper)} {k : Nat} {a : Act} {w : World} (h : ∀ K : Act → World → Prop, Hid (∀ a' w', (k ≠ L → S w') → wpTailK P ops Q S L l a' w' → K a' w') → if Region.wanted o (yielded ops a.tmps) = true then Oper.wp P o a w K Q else K (a.put o.dst undef) w) : wpTailK P ops Q S L ((k, o) :: l) a w := h
theorem tailK_nil {a : Act} {w : World} (h : Q .normal a w) : wpTailK P ops Q S L [] a w := h
theorem wpAnyX_of_tailK : ∀ (js : List Nat) (listed : Array Bool) (a : Act) (w : World),
    seqK md ops js listed = true → wpTailK P ops Q S L (opsNo ops js) a w → wpAnyX P md ops Q S L js.length listed a w
  | [], _, _, _, hB, h => ⟨by simpa [seqK] using hB, h⟩
  | k :: js, listed, a, w, hB, h => by
    simp only [seqK, Bool.and_eq_true, decide_eq_true_eq] at hB
    have hr : k ∈ Region.ready md ops listed := by rw [hB.1]; simp
    obtain ⟨_, o, h0, _⟩ := mem_ready.1 hr
    simp only [opsNo, h0] at h
    refine ⟨fun h1 => absurd (hB.1.symm.trans h1) (by simp), fun j hj => ?_⟩
    rw [hB.1] at hj
    have : j = k := by simpa using hj
    subst this
    have h1 := h (fun a' w' => (j ≠ L → S w') ∧ wpAnyX P md ops Q S L js.length (listed.setIfInBounds j true) a' w') ((fun a' w' h1 h2 => ⟨h1, wpAnyX_of_tailK js _ a' w' hB.2 h2⟩))
    unfold wpOp
    simp only [h0]
    split
    · rename_i hw; rw [if_pos hw] at h1; exact .inl h1
    · rename_i hw; rw [if_neg hw] at h1; exact h1
theorem wp_region_lexK {id : Nat} {a : Act} {w : World} (ks js : List Nat) (L : Nat) (S : World → Prop) (hm : P.follows .mixedOrders = true) (hsel : Region.noSelect ops = true) (hn : ks.length + js.length = ops.size) (hB : lexK .any ops L ks (Array.replicate ops.size false) = true)
    (hT : seqK .any ops js (marksK ks (Array.replicate ops.size false)) = true) (hS : S w.drew)
    (h : wpLex P ops Q S (fun a' => wpTailK P ops Q S L (opsNo ops js) a' w.drew) (opsAt ops ks) a) : (Code.region id ops true).wp P Q a w := by
  have hlex : ∀ (l' : List Oper) (a : Act), wpLex P ops Q S (fun a' => wpTailK P ops Q S L (opsNo ops js) a' w.drew) l' a → wpLex P ops Q S (fun a' => wpAnyX P .any ops Q S L js.length (marksK ks (Array.replicate ops.size false)) a' w.drew) l' a := by
    intro l'
    induction l' with
    | nil => intro a h; exact wpAnyX_of_tailK (md := .any) js _ a w.drew hT h
    | cons o l' ih => rintro a ⟨v, h1, h2, h3⟩; exact ⟨v, h1, h2, ih _ h3⟩
  have H := wpAnyX_lexK (md := .any) (L := L) (Q := Q) (g := js.length) (P := P) (w := w.drew) hsel hS ks (Array.replicate ops.size false) a hB (hlex _ _ h)
  rw [hn] at H
  exact wp_region_any hm (by simpa using wpAny_of_X _ _ _ _ H)
end
end Go.Proofs.YteanndophopplaaDoor
/- HELPERS: a region that draws its order, where all of the rest keeps what is read. -/
namespace Go.Proofs.YteanndophopplaaDoor
open Go Go.RowKit
set_option linter.unusedVariables false
section
variable {P : Program} {ops : Array Oper} {Q : Exit → Act → World → Prop} {md : Region.Mode} {S : World → Prop} {L : Nat}
theorem wpAnyX_far {i : Nat} {oi : Oper} {v : Value} (hi : ops[i]? = some oi) (hsel : ∀ (j : Nat) (o : Oper) cs b, ops[j]? = some o → o.op ≠ .select cs b)
    (hQ : ∀ c a w, Q (.panic c) (a.put oi.dst v) w → Q (.panic c) a w) (hL : ops.size ≤ L) :
    ∀ (fuel : Nat) (listed : Array Bool) (a : Act) (w : World),
      (∀ j oj, ops[j]? = some oj → j ≠ i → listed.getD j true = false → (∀ e ∈ oj.after, Region.binds md e = true → e.on ≠ i) → oi.apart ops oj = true) →
      i ∈ Region.ready md ops listed → YieldsIf P ops S oi v a → S w →
      wpAnyX P md ops Q S L fuel (listed.setIfInBounds i true) (a.put oi.dst v) w → wpAnyX P md ops Q S L (fuel + 1) listed a w := by
  intro fuel
  induction fuel with
  | zero =>
    intro listed a w _ hr hy hS H
    refine ⟨fun h => (by rw [h] at hr; cases hr), fun j hj => ?_⟩
    by_cases hji : j = i
    · subst hji; exact hy.wpOp hi hS ⟨fun _ => hS, H⟩
    · have := ready_mono hj hji
      rw [H.1] at this
      cases this
  | succ fuel ih =>
    intro listed a w hfree hr hy hS H
    refine ⟨fun h => (by rw [h] at hr; cases hr), fun j hj => ?_⟩
    by_cases hji : j = i
    · subst hji; exact hy.wpOp hi hS ⟨fun _ => hS, H⟩
    · have h1 := H.2 j (ready_mono hj hji)
      obtain ⟨hjun, oj, hoj, hall⟩ := mem_ready.1 hj
      have hnot : ∀ e ∈ oj.after, Region.binds md e = true → e.on ≠ i := fun e he hb heq => by
        have h1 := hall e he hb
        have h0 := (mem_ready.1 hr).1
        rw [heq] at h1
        rcases Nat.lt_or_ge i listed.size with h' | h'
        · simp [h'] at h0 h1; rw [h0] at h1; cases h1
        · simp [Array.getElem?_eq_none h'] at h1
      have hjL : j ≠ L := fun e => by
        have := (Array.getElem?_eq_some_iff.1 hoj).1
        omega
      have h2 := wpOp_putIf hoj (hfree j oj hoj hji hjun hnot) (fun cs b => hsel i oi cs b hi) (fun cs b => hsel j oj cs b hoj) hQ hy h1
      have hfree' : ∀ k ok, ops[k]? = some ok → k ≠ i → (listed.setIfInBounds j true).getD k true = false →
          (∀ e ∈ ok.after, Region.binds md e = true → e.on ≠ i) → oi.apart ops ok = true := fun k ok hk hki hun hno => by
        refine hfree k ok hk hki ?_ hno
        by_cases hjk : j = k
        · subst hjk; exact hjun
        · rw [getD_set_ne true hjk] at hun; exact hun
      refine wpOp_mono (fun a' w' h3 => ⟨fun _ => h3.2.1 hjL, ih (listed.setIfInBounds j true) a' w' hfree' (ready_mono hr (Ne.symm hji)) h3.1 (h3.2.1 hjL) ?_⟩) h2
      rw [Array.setIfInBounds_comm _ _ hji]
      exact h3.2.2
def lexF (md : Region.Mode) (ops : Array Oper) : List Nat → Array Bool → Bool
  | [], _ => true
  | k :: ks, listed => (Region.ready md ops listed).contains k && Region.free md ops listed k && lexF md ops ks (listed.setIfInBounds k true)
theorem wpAnyX_lexF {g : Nat} {w : World} (hsel : Region.noSelect ops = true) (hS : S w) (hL : ops.size ≤ L) :
    ∀ (ks : List Nat) (listed : Array Bool) (a : Act), lexF md ops ks listed = true →
    wpLex P ops Q S (fun a' => wpAnyX P md ops Q S L g (marksK ks listed) a' w) (opsAt ops ks) a → wpAnyX P md ops Q S L (ks.length + g) listed a w
  | [], listed, a, _, h => by simpa [marksK, opsAt, wpLex] using h
  | k :: ks, listed, a, hB, h => by
    simp only [lexF, Bool.and_eq_true] at hB
    obtain ⟨⟨hr, hf⟩, hB'⟩ := hB
    have hr' : k ∈ Region.ready md ops listed := by simpa using hr
    obtain ⟨_, o, h0, _⟩ := mem_ready.1 hr'
    simp only [opsAt, h0] at h
    obtain ⟨v, hy, hQ, hK⟩ := h
    rw [show (k :: ks).length + g = (ks.length + g) + 1 by simp only [List.length_cons]; omega]
    exact wpAnyX_far h0 (Region.noSelect_spec hsel) hQ hL (ks.length + g) listed a w (Region.free_spec h0 hf) hr' hy hS
      (wpAnyX_lexF hsel hS hL ks _ _ hB' hK)
theorem wp_region_lexF {id : Nat} {a : Act} {w : World} (ks js : List Nat) (S : World → Prop) (hm : P.follows .mixedOrders = true) (hsel : Region.noSelect ops = true) (hn : ks.length + js.length = ops.size) (hB : lexF .any ops ks (Array.replicate ops.size false) = true)
    (hT : seqK .any ops js (marksK ks (Array.replicate ops.size false)) = true) (hS : S w.drew)
    (h : wpLex P ops Q S (fun a' => wpTailK P ops Q S ops.size (opsNo ops js) a' w.drew) (opsAt ops ks) a) : (Code.region id ops true).wp P Q a w := by
  have hlex : ∀ (l' : List Oper) (a : Act), wpLex P ops Q S (fun a' => wpTailK P ops Q S ops.size (opsNo ops js) a' w.drew) l' a → wpLex P ops Q S (fun a' => wpAnyX P .any ops Q S ops.size js.length (marksK ks (Array.replicate ops.size false)) a' w.drew) l' a := by
    intro l'
    induction l' with
    | nil => intro a h; exact wpAnyX_of_tailK (md := .any) js _ a w.drew hT h
    | cons o l' ih => rintro a ⟨v, h1, h2, h3⟩; exact ⟨v, h1, h2, ih _ h3⟩
  have H := wpAnyX_lexF (md := .any) (L := ops.size) (Q := Q) (g := js.length) (P := P) (w := w.drew) hsel hS (Nat.le_refl _) ks (Array.replicate ops.size false) a hB (hlex _ _ h)
  rw [hn] at H
  exact wp_region_any hm (by simpa using wpAny_of_X _ _ _ _ H)
end
end Go.Proofs.YteanndophopplaaDoor
/- HELPERS: what lies between the head and the sum. -/
namespace Go.Proofs.YteanndophopplaaDoor
open Go.RowKit
set_option linter.unusedVariables false
set_option linter.unusedSimpArgs false
theorem inner_short {w : World} {ad : Option Addr} {n c : Nat} (h8 : n < 8) : Calls Tryd.prog 55 #[.slice ad n c] w fun e w' => e = Broke ∧ ∃ m, w' = w.drewN m := by
  have b1 : decide ((n : Int) - 4 < 4) = true := by simp; omega
  have b2 : (n : Int) - 4 < 4 := by omega
  go_enter Tryd.func55, Tryd.ntmps55
  go_upto_region 2 with fail
  go_big_quiet (fail)
  go_wp2
  exact ⟨rfl, rfl, _, rfl⟩
/-- the head as a string -/
abbrev headS : ByteArray := ⟨#[72, 82, 80, 71]⟩
def I8 (l : List Nat) : List Int := l.map fun x : Nat => (x : Int)
theorem u8_back : ∀ (l : List Nat), (∀ x ∈ l, x < 256) → ((I8 l).map fun n => UInt8.ofNat n.toNat).map UInt8.toNat = l := by
  intro l h
  simp only [I8, List.map_map]
  conv => rhs; rw [← List.map_id l]
  apply List.map_congr_left
  intro x hx
  have := h x hx
  simp
  omega
theorem head_ne {l : List Nat} (h : ∀ x ∈ l, x < 256) (hne : l ≠ headB) : (strOfNums (I8 l)).toList ≠ [72, 82, 80, 71] := by
  intro e
  rw [ByteArray.toList_eq, strOfNums_data] at e
  have := congrArg (List.map UInt8.toNat) e
  rw [u8_back l h] at this
  exact hne this
theorem head_eq : (strOfNums (I8 headB)).toList = [72, 82, 80, 71] := by
  rw [ByteArray.toList_eq, strOfNums_data]; rfl
theorem conv_cells {w : World} {b o c : Nat} {l : List Nat} (hc : ∀ k (h : k < l.length), w.cell? ⟨b, o + k, none⟩ = some (.int .u8 (l[k] : Int))) (h4 : 4 ≤ l.length) (q : Nat) :
    (convert 36 9 (.slice (some ⟨b, o, none⟩) 4 c)).run Tryd.prog (w.drewN q) = .ok (.string (strOfNums (I8 (l.take 4)))) (w.drewN q) :=
  run_convert_bytes_arg (P := Tryd.prog) (w.drewN q) 36 5 Tryd.underlying36 Tryd.underlying5 b o 4 c (I8 (l.take 4)) (by simp [I8]; omega) (fun k hk => by
    have e := hc k (by omega)
    have e2 : (I8 (l.take 4)).getD k 0 = ((l[k]'(by omega) : Nat) : Int) := by
      rw [List.getD_eq_getElem?_getD, List.getElem?_eq_getElem (by simp [I8]; omega)]
      simp [I8]
    rw [e2]
    exact e) 9 Tryd.underlying9
theorem inner_head {w : World} {b o n c : Nat} {l : List Nat} (hn : n = l.length) (hs : n ≤ 8388608) (hcp : n ≤ c) (hc : ∀ k (h : k < l.length), w.cell? ⟨b, o + k, none⟩ = some (.int .u8 (l[k] : Int))) (h8 : 8 ≤ n) (hlt : ∀ x ∈ l, x < 256) (hne : l.take 4 ≠ headB) : Calls Tryd.prog 55 #[.slice (some ⟨b, o, none⟩) n c] w fun e w' => e = Broke ∧ ∃ m, w' = w.drewN m := by
  have cv := conv_cells (c := c) hc (by omega)
  obtain ⟨S, hS⟩ : ∃ S, S = strOfNums (I8 (l.take 4)) := ⟨_, rfl⟩
  rw [← hS] at cv
  have d2 : ¬ (S.toList = [72, 82, 80, 71]) := by
    rw [hS]
    exact head_ne (fun x hx => hlt x (List.mem_of_mem_take hx)) hne
  have d1 : (S.toList == [72, 82, 80, 71]) = false := by simpa using d2
  have b1 : decide ((n : Int) - 4 < 4) = false := by simp; omega
  have b2 : ¬ (n : Int) - 4 < 4 := by omega
  have b3 : 4 ≤ c := by omega
  have b4 : (4 : Int) ≤ (c : Int) := by omega
  clear hn hc hlt hne hS
  go_enter Tryd.func55, Tryd.ntmps55
  go_upto_region 2 with fail
  go_big_quiet (fail)
  go_wp2
  exact ⟨rfl, rfl, _, rfl⟩
/-- four cells behind one another as an array -/
theorem four_at {w : World} {b o : Nat} {l : List Nat} (hc : ∀ k (h : k < l.length), w.cell? ⟨b, o + k, none⟩ = some (.int .u8 (l[k] : Int))) (m : Nat) (hm : m + 4 = l.length) : ∃ s0 s1 s2 s3 : Nat, l.drop m = [s0, s1, s2, s3] ∧ w.cell? ⟨b, o + m, none⟩ = some (.int .u8 (s0 : Int)) ∧ w.cell? ⟨b, o + m + 1, none⟩ = some (.int .u8 (s1 : Int)) ∧ w.cell? ⟨b, o + m + 2, none⟩ = some (.int .u8 (s2 : Int)) ∧ w.cell? ⟨b, o + m + 3, none⟩ = some (.int .u8 (s3 : Int)) := by
  refine ⟨l[m]'(by omega), l[m + 1]'(by omega), l[m + 2]'(by omega), l[m + 3]'(by omega), ?_, hc m (by omega), hc (m + 1) (by omega), hc (m + 2) (by omega), hc (m + 3) (by omega)⟩
  apply List.ext_getElem
  · simp; omega
  · intro i h1 h2
    simp at h2
    obtain rfl | rfl | rfl | rfl : i = 0 ∨ i = 1 ∨ i = 2 ∨ i = 3 := by omega
    all_goals simp
theorem guard96 : Tryd.prog.eqGuardType Tryd.prog.depth 96 = false := by kernel_rfl
theorem cell8 {x : Nat} (h : x < 256) : Extern.Stop.cell (UInt8.ofNat x) = .int .u8 (x : Int) := by
  unfold Extern.Stop.cell
  congr 1
  simp
  omega
theorem beq8 {a b : Nat} (ha : a < 256) (hb : b < 256) : (UInt8.ofNat a == UInt8.ofNat b) = (a == b) := by
  rw [Bool.eq_iff_iff]
  simp [← UInt8.toNat_inj]
  omega
theorem arr_neq {a0 a1 a2 a3 b0 b1 b2 b3 : Nat} (h0 : a0 < 256) (h1 : a1 < 256) (h2 : a2 < 256) (h3 : a3 < 256) (g0 : b0 < 256) (g1 : b1 < 256) (g2 : b2 < 256) (g3 : b3 < 256) (W : World) :
    (Op.equalIn 10000 96 (.agg #[.int .u8 (a0 : Int), .int .u8 (a1 : Int), .int .u8 (a2 : Int), .int .u8 (a3 : Int)]) (.agg #[.int .u8 (b0 : Int), .int .u8 (b1 : Int), .int .u8 (b2 : Int), .int .u8 (b3 : Int)])).run Tryd.prog W = .ok ([a0, a1, a2, a3] == [b0, b1, b2, b3]) W := by
  have hsz : ∀ w, (sizeOf 5).run Tryd.prog w = .ok 1 w := fun w => by kernel_rfl
  have h := run_equalIn_bytes (P := Tryd.prog) W 9998 96 5 4 Tryd.underlying96 Tryd.underlying5 hsz [UInt8.ofNat a0, UInt8.ofNat a1, UInt8.ofNat a2, UInt8.ofNat a3] [UInt8.ofNat b0, UInt8.ofNat b1, UInt8.ofNat b2, UInt8.ofNat b3] rfl rfl
  simp only [List.map_cons, List.map_nil, cell8 h0, cell8 h1, cell8 h2, cell8 h3, cell8 g0, cell8 g1, cell8 g2, cell8 g3, List.cons_beq_cons, beq8 h0 g0, beq8 h1 g1, beq8 h2 g2, beq8 h3 g3] at h
  rw [show (10000 : Nat) = 9998 + 2 from rfl, h]
  rfl
theorem cast4 (s : Nat) : ((s % 256 : Nat) : Int) = (s : Int) % 256 ∧ ((s / 256 % 256 : Nat) : Int) = (s : Int) / 256 % 256 ∧ ((s / 65536 % 256 : Nat) : Int) = (s : Int) / 65536 % 256 ∧ ((s / 16777216 % 256 : Nat) : Int) = (s : Int) / 16777216 % 256 := ⟨by omega, by omega, by omega, by omega⟩
theorem sum4_lt (s : Nat) : s % 256 < 256 ∧ s / 256 % 256 < 256 ∧ s / 65536 % 256 < 256 ∧ s / 16777216 % 256 < 256 := ⟨by omega, by omega, by omega, by omega⟩
theorem step_callG {P : Program} {ops : Array Oper} {o : Oper} {a : Act} {w : World} {K : Act → World → Prop} {Q : Exit → Act → World → Prop} {E : Prop} (hw : Region.wanted o (yielded ops a.tmps) = true) (f : FuncId) (x : Operand) (t : TypeId)
    (hop : o.op = Op.call { callee := Callee.value (.func f), args := #[x], argTypes := #[t] }) (hen : ∀ args w, (callFunc f args).run P w = .ok (.enter f args) w)
    (hc : Calls P f #[a.eval x] w fun e w' => ∃ v, e = .returned v ∧ K (a.put o.dst v) w') :
    if Region.wanted o (yielded ops a.tmps) = true then Oper.wp P o a w K Q else E := by
  rw [if_pos hw]
  have h2 := hen #[a.eval x] w
  unfold Oper.wp
  have ev : a.eval (.func f) = .func (.func f) #[] #[] := rfl
  simp [execOp, hop, resolve, invoke, ev, Deferred.ofValue, h2, Result.andThen]
  show Calls P f #[a.eval x] w _
  refine hc.mono fun e w' h => ?_
  obtain ⟨v, rfl, hk⟩ := h
  exact hk
theorem run_arr (b q c : Nat) (V : World) : (Instr.arrayAt 96 (.slice (some ⟨b, q, none⟩) 4 c)).run Tryd.prog V = .ok (.pointer (some ⟨b, q, none⟩)) V := by
  simp [Instr.arrayAt, run_underlying Tryd.underlying96, Result.andThen]
theorem step_val {P : Program} {ops : Array Oper} {o : Oper} {a : Act} {w : World} {K : Act → World → Prop} {Q : Exit → Act → World → Prop} {E : Prop} (hw : Region.wanted o (yielded ops a.tmps) = true) (v : Value) (hv : (execOp a.eval o).run P w = .ok (.value v) w) (h : K (a.put o.dst v) w) :
    if Region.wanted o (yielded ops a.tmps) = true then Oper.wp P o a w K Q else E := by
  rw [if_pos hw]
  unfold Oper.wp
  simp only [hv]
  exact h
theorem en63 : Enters 63 := enter_of Tryd.func63 (by kernel_rfl) rfl
set_option maxRecDepth 100000 in
set_option maxHeartbeats 4000000 in
theorem inner_sum {w : World} {b o m c : Nat} {l : List Nat} (hn : m + 4 = l.length) (hs : m + 4 ≤ 8388608) (hcp : m + 4 ≤ c) (hcm : c ≤ 9223372036854775807) (hbw : b < w.heap.size) (hc : ∀ k (h : k < l.length), w.cell? ⟨b, o + k, none⟩ = some (.int .u8 (l[k] : Int))) (h8 : 4 ≤ m) (hlt : ∀ x ∈ l, x < 256) (he : l.take 4 = headB) :
    Calls Tryd.prog 55 #[.slice (some ⟨b, o, none⟩) (m + 4) c] w fun e w' => Below w.heap.size w w' ∧ ((sum4 (crcSum (l.take m)) ≠ l.drop m ∧ e = Broke) ∨ (sum4 (crcSum (l.take m)) = l.drop m ∧ ∃ c', m - 4 ≤ c' ∧ e = .returned (.slice (some ⟨b, o + 4, none⟩) (m - 4) c') )) := by
  obtain ⟨S, hS⟩ : ∃ S, S = strOfNums (I8 headB) := ⟨_, rfl⟩
  have cv : ∀ V : World, (∀ k (h : k < l.length), V.cell? ⟨b, o + k, none⟩ = some (.int .u8 (l[k] : Int))) → (convert 36 9 (.slice (some ⟨b, o, none⟩) 4 c)).run Tryd.prog V = .ok (.string S) V := fun V hV => by
    have := conv_cells (c := c) hV (by omega) 0
    rw [he, ← hS] at this
    exact this
  have d2 : S.toList = [72, 82, 80, 71] := by rw [hS]; exact head_eq
  have d1 : (S.toList == [72, 82, 80, 71]) = true := by simpa using d2
  have b1m : decide ((m : Int) < 4) = false := by simp; omega
  have b2m : ¬ (m : Int) < 4 := by omega
  have b5 : m ≤ c := by omega
  have b6 : (m : Int) ≤ (c : Int) := by omega
  have b8 : (m : Int) ≤ (m : Int) + 4 := by omega
  have b9 : ¬ (c = m) := by omega
  have b10 : (m : Int) + 4 - 4 = (m : Int) := by omega
  have b11 : (m : Int) + 4 ≤ (c : Int) := by omega
  have b3 : 4 ≤ c := by omega
  have b4 : (4 : Int) ≤ (c : Int) := by omega
  obtain ⟨s0, s1, s2, s3, hd, _, _, _, _⟩ := four_at hc m (by omega)
  have h4 : ∀ V : World, (∀ k (h : k < l.length), V.cell? ⟨b, o + k, none⟩ = some (.int .u8 (l[k] : Int))) → V.cell? ⟨b, o + m, none⟩ = some (.int .u8 (s0 : Int)) ∧ V.cell? ⟨b, o + m + 1, none⟩ = some (.int .u8 (s1 : Int)) ∧ V.cell? ⟨b, o + m + 2, none⟩ = some (.int .u8 (s2 : Int)) ∧ V.cell? ⟨b, o + m + 3, none⟩ = some (.int .u8 (s3 : Int)) := fun V hV => by
    obtain ⟨t0, t1, t2, t3, hd', e0, e1, e2, e3⟩ := four_at hV m (by omega)
    rw [hd] at hd'
    simp at hd'
    obtain ⟨rfl, rfl, rfl, rfl⟩ := hd'
    exact ⟨e0, e1, e2, e3⟩
  have hsl : ∀ x ∈ l.drop m, x < 256 := fun x hx => hlt x (List.mem_of_mem_drop hx)
  rw [hd] at hsl
  have l0 := hsl s0 (by simp); have l1 := hsl s1 (by simp); have l2 := hsl s2 (by simp); have l3 := hsl s3 (by simp)
  have hba : BA w w.heap.size (some ⟨b, o, none⟩) (l.take m) := .inr ⟨b, o, rfl, hbw, fun k hk => by rw [hc k (by simp at hk; omega)]; simp⟩
  have C63 := sum63 (w := w.drew) (n := m) (c := c) (l := l.take m) hba (by simp; omega) (by omega) (fun x hx => hlt x (List.mem_of_mem_take hx))
  rw [hd]
  obtain ⟨sm, hsm⟩ : ∃ sm, crcSum (l.take m) = sm := ⟨_, rfl⟩
  rw [hsm] at C63 ⊢
  obtain ⟨q0, q1, q2, q3⟩ := sum4_lt sm
  have HAN := hid (arr_neq q0 q1 q2 q3 l0 l1 l2 l3)
  have HCV := hid cv
  have H4 := hid h4
  have HC := hid hc
  have HSM := hid hsm
  clear hn hc hlt hS cv h4 hd hsl hba hsm he q0 q1 q2 q3 l0 l1 l2 l3
  have ra := fun V => run_arr b (o + m) (c - m) V
  go_enter Tryd.func55, Tryd.ntmps55
  go_upto_region 2 with fail
  refine wp_region_lexF [0, 1, 2, 3, 4, 5, 6, 7, 8, 9, 10, 11, 13, 14, 15, 16, 17] [12, 18, 19] (fun V => (convert 36 9 (.slice (some ⟨b, o, none⟩) 4 c)).run Tryd.prog V = .ok (.string S) V ∧ V.cell? ⟨b, o + m, none⟩ = some (.int .u8 (s0 : Int)) ∧ V.cell? ⟨b, o + m + 1, none⟩ = some (.int .u8 (s1 : Int)) ∧ V.cell? ⟨b, o + m + 2, none⟩ = some (.int .u8 (s2 : Int)) ∧ V.cell? ⟨b, o + m + 3, none⟩ = some (.int .u8 (s3 : Int))) (by kernel_rfl) (by kernel_rfl) rfl (by kernel_rfl) (by kernel_rfl) ⟨HCV.out _ HC.out, H4.out _ HC.out⟩ ?_
  simp only [opsAt, opsNo, List.getElem?_toArray, List.getElem?_cons_zero, List.getElem?_cons_succ]
  iterate 12
    refine lex_cons ?_ rfl (fun V hV => ?_) (fun _ _ _ h => h) ?_
    rotate_left
    · obtain ⟨w0, w1, w2, w3, w4⟩ := hV
      go_simp <;> with_reducible rfl
    simp only [Act.put, List.setIfInBounds_toArray, List.set_cons_zero, List.set_cons_succ]
  iterate 5
    refine lex_cons ?_ rfl (fun V hV => ?_) (fun _ _ _ h => h) ?_
    rotate_left
    · obtain ⟨w0, w1, w2, w3, w4⟩ := hV
      go_simp <;> with_reducible rfl
    simp only [Act.put, List.setIfInBounds_toArray, List.set_cons_zero, List.set_cons_succ]
  refine lex_nil (tailK_cons fun K hK => ?_)
  refine step_callG rfl 63 (.tmp 18) 36 rfl en63 ?_
  refine C63.mono ?_
  rintro e w5 ⟨rfl, hb5⟩
  refine ⟨_, rfl, ?_⟩
  have hc5 : ∀ k (h : k < l.length), w5.cell? ⟨b, o + k, none⟩ = some (.int .u8 (l[k] : Int)) := fun k hk => (cell_eq (hb5.block b hbw) _).trans (HC.out k hk)
  have HB5 : Hid (Below w.heap.size w w5) := (⟨rfl, rfl, rfl, Nat.le_refl _, fun _ _ => rfl⟩ : Below w.heap.size w w.drew).trans hb5
  refine hK.out _ _ (fun _ => ⟨HCV.out _ hc5, H4.out _ hc5⟩) (tailK_cons fun K2 hK2 => ?_)
  have han := HAN.out
  clear HAN
  obtain ⟨r, hr⟩ : ∃ r, ([sm % 256, sm / 256 % 256, sm / 65536 % 256, sm / 16777216 % 256] == [s0, s1, s2, s3]) = r := ⟨_, rfl⟩
  rw [hr] at han
  have HR := hid hr
  clear hr
  have g96 := guard96
  have han5 : (Op.equalIn 10000 96 (.agg #[.int .u8 ((sm : Int) % 256), .int .u8 ((sm : Int) / 256 % 256), .int .u8 ((sm : Int) / 65536 % 256), .int .u8 ((sm : Int) / 16777216 % 256)]) (.agg #[.int .u8 (s0 : Int), .int .u8 (s1 : Int), .int .u8 (s2 : Int), .int .u8 (s3 : Int)])).run Tryd.prog w5 = .ok r w5 := by
    have this := han w5
    obtain ⟨e0, e1, e2, e3⟩ := cast4 sm
    rw [e0, e1, e2, e3] at this
    exact this
  clear han
  refine step_val rfl (.bool (!r)) ?_ ?_
  · go_simp
  refine hK2.out _ _ (fun _ => ⟨HCV.out _ hc5, H4.out _ hc5⟩) (tailK_cons fun K3 hK3 => ?_)
  refine step_val rfl (.bool (!r)) ?_ ?_
  · go_simp <;> with_reducible rfl
  refine hK3.out _ _ (fun _ => ⟨HCV.out _ hc5, H4.out _ hc5⟩) (tailK_nil ?_)
  simp only [Act.put, List.setIfInBounds_toArray, List.set_cons_zero, List.set_cons_succ]
  cases r
  · go_wp2
    refine ⟨rfl, HB5.out, .inl ⟨fun e => ?_, rfl⟩⟩
    have := HR.out
    rw [show ([sm % 256, sm / 256 % 256, sm / 65536 % 256, sm / 16777216 % 256] : List Nat) = sum4 sm from rfl, e] at this
    simp at this
  · go_wp2
    all_goals go_ret
    all_goals refine ⟨HB5.out, .inr ⟨by have := HR.out; simpa [sum4] using this, ?_⟩⟩
    all_goals exact ⟨c - 4, by omega, rfl⟩
end Go.Proofs.YteanndophopplaaDoor
/- HELPERS: what lies between the head and the sum; programs that are their owner's. -/
namespace Go.Proofs.YteanndophopplaaDoor
open Go.RowKit
set_option linter.unusedVariables false
set_option linter.unusedSimpArgs false
theorem below_drewN (w : World) (q : Nat) : Below w.heap.size w (w.drewN q) := ⟨rfl, rfl, rfl, Nat.le_refl _, fun _ _ => rfl⟩
theorem inner55 {w : World} {ad : Option Addr} {n c : Nat} {l : List Nat} (h : BA w w.heap.size ad l) (hn : n = l.length) (hs : n ≤ 8388608) (hcp : n ≤ c) (hcm : c ≤ 9223372036854775807) (hlt : ∀ x ∈ l, x < 256) :
    Calls Tryd.prog 55 #[.slice ad n c] w fun e w' => Below w.heap.size w w' ∧ ((innerP l = none ∧ e = Broke) ∨ ∃ m a c', innerP l = some m ∧ e = .returned (.slice a m.length c') ∧ m.length ≤ c' ∧ BA w w.heap.size a m) := by
  by_cases h8 : n < 8
  · refine (inner_short (ad := ad) (c := c) h8).mono ?_
    rintro e w' ⟨rfl, q, rfl⟩
    exact ⟨below_drewN _ _, .inl ⟨by unfold innerP; rw [if_neg (by omega)], rfl⟩⟩
  · obtain ⟨b, o, rfl, hb, hc⟩ : ∃ b o, ad = some ⟨b, o, none⟩ ∧ b < w.heap.size ∧ ∀ k (h : k < l.length), w.cell? ⟨b, o + k, none⟩ = some (.int .u8 (l[k] : Int)) := by
      rcases h with e | e
      · rw [e] at hn; simp at hn; omega
      · exact e
    by_cases he : l.take 4 = headB
    · obtain ⟨m, hm⟩ : ∃ m, n = m + 4 := ⟨n - 4, by omega⟩
      subst hm
      refine (inner_sum hn (by omega) (by omega) hcm hb hc (by omega) hlt he).mono ?_
      have hl4 : l.length - 4 = m := by omega
      rintro e w' ⟨hB, ⟨hne, rfl⟩ | ⟨heq, c', hc', rfl⟩⟩
      · exact ⟨hB, .inl ⟨by unfold innerP; rw [hl4, if_neg (fun hx => hne hx.2.2)], rfl⟩⟩
      · have hml : ((l.take m).drop 4).length = m - 4 := by simp; omega
        refine ⟨hB, .inr ⟨(l.take m).drop 4, some ⟨b, o + 4, none⟩, c', ?_, by rw [hml], by omega, ?_⟩⟩
        · unfold innerP; rw [hl4, if_pos ⟨by omega, he, heq⟩]
        · refine .inr ⟨b, o + 4, rfl, hb, fun k hk => ?_⟩
          rw [hml] at hk
          have := hc (4 + k) (by omega)
          rw [Nat.add_assoc, this]
          simp
    · refine (inner_head hn hs hcp hc (by omega) hlt he).mono ?_
      rintro e w' ⟨rfl, q, rfl⟩
      exact ⟨below_drewN _ _, .inl ⟨by unfold innerP; rw [if_neg (fun hx => he hx.2.1)], rfl⟩⟩
/-- a program's instructions that are their owner's: the row, and each list of ranges, in a block by itself -/
structure PO (w : World) (base : Nat) (z : Value) (J : List In) (MS : List Iv) : Prop where
  len : MS.length = J.length
  row : w.ownsRow base 49 5 z J.length (MS.flatMap Iv.cs)
  io : ∀ j (h : j < MS.length) (h' : j < J.length), IOw w base z MS[j] J[j]
  apart : ∀ i j (h : i < MS.length) (h' : j < MS.length), i ≠ j → ∀ b, MS[i].rv.ownBlock = some b → MS[j].rv.ownBlock ≠ some b
theorem flat_at {MS : List Iv} {j : Nat} (h : j < MS.length) {w : World} {base n : Nat} {z : Value} {g c : Nat} (hz : z = .slice (some ⟨g, 0, none⟩) n c) (hr : w.ownsRow base 49 5 z n (MS.flatMap Iv.cs)) (hn : MS.length = n) : I5 w g 0 j MS[j] := by
  subst hz
  have e := fun k hk => flat5 MS j k h hk
  have c0 := fun k (hk : k < 5) => hr.cellAt (j * 5 + k) (by omega)
  refine ⟨?_, ?_, ?_, ?_, ?_⟩
  · have := c0 0 (by omega); rw [e 0 (by omega)] at this; simpa [Iv.cs] using this
  · have := c0 1 (by omega); rw [e 1 (by omega)] at this; simpa [Iv.cs] using this
  · have := c0 2 (by omega); rw [e 2 (by omega)] at this; simpa [Iv.cs] using this
  · have := c0 3 (by omega); rw [e 3 (by omega)] at this; simpa [Iv.cs] using this
  · have := c0 4 (by omega); rw [e 4 (by omega)] at this; simpa [Iv.cs] using this
theorem PO.pi {w : World} {base g n c : Nat} {J : List In} {MS : List Iv} (h : PO w base (.slice (some ⟨g, 0, none⟩) n c) J MS) (hn : n = J.length) : PI w w.heap.size (some ⟨g, 0, none⟩) n J := by
  subst hn
  refine ⟨rfl, fun hp => ⟨g, 0, fun j => MS.getD j default, rfl, (h.row.lt g rfl).2, fun i hi => ?_⟩⟩
  have hi' : i < MS.length := by rw [h.len]; exact hi
  have e : MS.getD i default = MS[i] := by simp [List.getD_eq_getElem?_getD, List.getElem?_eq_getElem hi']
  show I5 w g 0 i (MS.getD i default) ∧ IM w w.heap.size (MS.getD i default) J[i]
  rw [e]
  exact ⟨flat_at hi' rfl h.row h.len, (h.io i hi' hi).im⟩
/-- a reader of bytes is a reader -/
abbrev RDb (B rb : Nat) (w : World) (l : List Nat) : Prop := ∃ a c, RB B rb w l a c
theorem rdr_b {B rb : Nat} (h : B ≤ rb) : Rdr B rb (RDb B rb) where
  kept := fun w w' l ⟨a, c, hR⟩ h1 h2 => ⟨a, c, h1.trans hR.box, hR.ba.kept h2 (Nat.le_refl _), hR.low, hR.cap, hR.lt, hR.sm⟩
  lt := fun w l ⟨a, c, hR⟩ => (Array.getElem?_eq_some_iff.1 hR.box).1
  low := h
theorem numR_b (B rb : Nat) : NumR 56 rb (RDb B rb) (byteC 3 (by omega)) := fun w l ⟨a, c, hR⟩ => number56 hR
theorem en56 : Enters 56 := enter_of Tryd.func56 (by kernel_rfl) rfl
theorem en51 : Enters 51 := enter_of Tryd.func51 (by kernel_rfl) rfl
theorem en57 : Enters 57 := enter_of Tryd.func57 (by kernel_rfl) rfl
/-- an instruction is put into its place in a row that is filled -/
theorem flat_set (A : List Iv) (M N : Iv) (B : List Iv) : ∀ k, k < 5 → ((A ++ M :: B).flatMap Iv.cs).set (A.length * 5 + k) ((Iv.cs N).getD k undef) = (A.flatMap Iv.cs) ++ ((Iv.cs M).set k ((Iv.cs N).getD k undef) ++ B.flatMap Iv.cs) := by
  intro k hk
  rw [List.flatMap_append, List.flatMap_cons, List.set_append_right _ _ (by rw [flat5_len]; omega), flat5_len, show A.length * 5 + k - A.length * 5 = k by omega, List.set_append_left _ _ (by simp; omega)]
end Go.Proofs.YteanndophopplaaDoor
/- HELPERS: the row of instructions that is filled. -/
namespace Go.Proofs.YteanndophopplaaDoor
open Go.RowKit
set_option linter.unusedVariables false
set_option linter.unusedSimpArgs false
theorem flat5_set : ∀ (L : List Iv) (i : Nat) (M : Iv), i < L.length → (L.flatMap Iv.cs).take (i * 5) ++ Iv.cs M ++ (L.flatMap Iv.cs).drop (i * 5 + (Iv.cs M).length) = (L.set i M).flatMap Iv.cs := by
  intro L
  induction L with
  | nil => intro i M h; simp at h
  | cons a L ih =>
    intro i M h
    cases i with
    | zero => simp [List.flatMap_cons]
    | succ i =>
      have h1 := ih i M (by simpa using h)
      rw [List.set_cons_succ, List.flatMap_cons, List.flatMap_cons, ← h1]
      rw [show (i + 1) * 5 = (Iv.cs a).length + i * 5 by simp; omega, List.take_length_add_append, show (Iv.cs a).length + i * 5 + (Iv.cs M).length = (Iv.cs a).length + (i * 5 + (Iv.cs M).length) by omega, List.drop_length_add_append]
      simp
theorem size5 : (Tryd.prog.info? 49).map (·.size) = some 5 := by kernel_rfl
theorem step_store5 {ops : Array Oper} {o : Oper} {a : Act} {w : World} {K : Act → World → Prop} {Q : Exit → Act → World → Prop} {E : Prop} (hg : o.guard = none) (x y : Operand) (hop : o.op = .store 49 x y) (b i : Nat) (M : Iv) (hx : a.eval x = .pointer (some ⟨b, i * 5, none⟩)) (hy : a.eval y = M.v) (ht : w.there b (i * 5) 5)
    (hK : K (a.put o.dst undef) (w.setCells b (i * 5) (Iv.cs M))) : if Region.wanted o (yielded ops a.tmps) = true then Oper.wp Tryd.prog o a w K Q else E := by
  have hw : Region.wanted o (yielded ops a.tmps) = true := by simp [Region.wanted, hg]
  rw [if_pos hw]
  exact wp_store_mid 49 x y hop b (i * 5) #[.int .i64 M.op, .int .i64 M.x, .int .i64 M.y, .int .i64 M.a, .slice M.r1 M.r2 M.r3] hx hy ht size5 (by simp [Value.oneCell']) hK
theorem getRS_len {α : Type} {C : Codec α} {L : Nat} {l u : List α} {R : List (Int × Int)} (h : getRS C L l = some (R, u)) : R.length ≤ L := by
  unfold getRS at h
  split at h
  · simp at h
  split at h
  · simp at h
  rename_i hL
  rw [getR_len C _ _ _ _ h]; omega
theorem getF_len {α : Type} {C : Codec α} {L op : Nat} {l u : List α} {I : In} (h : getF C L op l = some (I, u)) : I.R.length ≤ L := by
  by_cases ho : op < 1 ∨ 7 < op
  · rw [getF_no ho] at h; cases h
  · obtain rfl | rfl | rfl | rfl | rfl | rfl | rfl : op = 1 ∨ op = 2 ∨ op = 3 ∨ op = 4 ∨ op = 5 ∨ op = 6 ∨ op = 7 := by omega
    · rw [getF_1] at h
      split at h
      · simp at h
      split at h
      · simp at h
      rename_i h2
      simp at h
      rw [← h.1]
      exact getRS_len h2
    · rw [getF_2] at h
      split at h
      · simp at h
      split at h
      · simp at h
      simp at h
      rw [← h.1]; simp
    · rw [getF_3] at h
      split at h
      · simp at h
      split at h
      · simp at h
      simp at h
      rw [← h.1]; simp
    · rw [getF_4] at h
      split at h
      · simp at h
      split at h
      · simp at h
      simp at h
      rw [← h.1]; simp
    · rw [getF_5] at h
      split at h
      · simp at h
      simp at h
      rw [← h.1]; simp
    · rw [getF_6] at h
      simp at h
      rw [← h.1]; simp
    · rw [getF_7] at h
      split at h
      · simp at h
      simp at h
      rw [← h.1]; simp
abbrev rowv (g n : Nat) : Value := .slice (some ⟨g, 0, none⟩) n n
/-- so many instructions are in their places, so many are to come -/
structure LI (N g n : Nat) (w : World) (MS : List Iv) (A : List In) (k : Nat) : Prop where
  len : MS.length = A.length
  tot : A.length + k = n
  row : w.ownsRow N 49 5 (rowv g n) n ((MS ++ List.replicate k (mkI 0)).flatMap Iv.cs)
  io : ∀ j (h : j < MS.length) (h' : j < A.length), IOw w N (rowv g n) MS[j] A[j]
  apart : ∀ i j (h : i < MS.length) (h' : j < MS.length), i ≠ j → ∀ b, MS[i].rv.ownBlock = some b → MS[j].rv.ownBlock ≠ some b
theorem IOw.kept {w w' : World} {base : Nat} {z : Value} {M : Iv} {I : In} (h : IOw w base z M I) (hk : ∀ b, M.rv.ownBlock = some b → w'.heap[b]? = w.heap[b]?) : IOw w' base z M I :=
  ⟨h.op, h.x, h.y, h.a, h.len, h.sm, row_kept h.rr hk, h.ne⟩
theorem LI.mo {N rb g n k : Nat} {w w' : World} {MS : List Iv} {A : List In} (h : LI N g n w MS A k) (hr : rb < N) (hm : Mo w w' rb) : LI N g n w' MS A k :=
  ⟨h.len, h.tot, row_kept h.row (fun b e => by
      have := h.row.lt b e
      exact hm.block b this.2 (by omega)),
   fun j hj hj' => (h.io j hj hj').kept (fun b e => by
      have := (h.io j hj hj').rr.lt b e
      exact hm.block b this.2 (by omega)), h.apart⟩
theorem LI.there {N g n k : Nat} {w : World} {MS : List Iv} {A : List In} (h : LI N g n w MS A (k + 1)) : w.there g (A.length * 5) 5 := row_there h.row (by have := h.tot; omega)
/-- the next one is put into its place -/
theorem LI.next {N rb g n k : Nat} {w1 w2 : World} {MS : List Iv} {A : List In} {M : Iv} {I : In} (h : LI N g n w1 MS A (k + 1)) (hr : rb < N) (h2 : Mo w1 w2 rb) (o0 : M.op = I.op) (o1 : M.x = I.x) (o2 : M.y = I.y) (o3 : M.a = I.a) (o4 : M.r2 = I.R.length) (o5 : w2.ownsRow w1.heap.size 51 2 M.rv I.R.length (O2 I.R)) (o6 : I.R.length ≤ 5000) :
    LI N g n (w2.setCells g (A.length * 5) (Iv.cs M)) (MS ++ [M]) (A ++ [I]) k := by
  have hb := h.row.lt g rfl
  have h' := h.mo hr h2
  have hlen : ((MS ++ List.replicate (k + 1) (mkI 0)).flatMap Iv.cs).length = (A.length + (k + 1)) * 5 := by rw [flat5_len, List.length_append, List.length_replicate, h.len]
  have hrow := row_setCells (Iv.cs M) (A.length * 5) w2 _ h'.row (by rw [hlen]; simp; omega)
  rw [flat5_set _ _ _ (by rw [List.length_append, List.length_replicate, h.len]; omega)] at hrow
  have eset : (MS ++ List.replicate (k + 1) (mkI 0)).set A.length M = (MS ++ [M]) ++ List.replicate k (mkI 0) := by
    rw [← h.len, List.set_append_right _ _ (Nat.le_refl _), Nat.sub_self, List.replicate_succ, List.set_cons_zero]
    simp
  rw [eset] at hrow
  have hgM : M.rv.ownBlock ≠ some g := fun e => by have := (o5.lt g e).1; omega
  have hN : N ≤ w1.heap.size := by have := hb.1; omega
  refine ⟨by simp [h.len], by have := h.tot; simp; omega, hrow, fun j hj hj' => ?_, fun i j hi hj hne b e1 e2 => ?_⟩
  · by_cases e : j < MS.length
    · rw [List.getElem_append_left e, List.getElem_append_left (by rw [← h.len]; exact e)]
      have a := h'.io j e (by rw [← h.len]; exact e)
      exact a.kept (fun b hb' => setCells_old g _ _ _ b (fun e => a.ne b hb' (by rw [e]; rfl)))
    · have ej : j = MS.length := by simp at hj; omega
      subst ej
      have e1 : (MS ++ [M])[MS.length] = M := by simp
      have e2 : (A ++ [I])[MS.length]'hj' = I := by
        have : MS.length = A.length := h.len
        simp [this]
      rw [e1, e2]
      refine ⟨o0, o1, o2, o3, o4, by omega, own_wide (row_kept o5 (fun b hb' => setCells_old g _ _ _ b (fun e => hgM (by rw [← e]; exact hb')))) hN, fun b hb' e => hgM ?_⟩
      simp [Value.ownBlock] at e
      rw [e]; exact hb'
  · by_cases ei : i < MS.length
    · rw [List.getElem_append_left ei] at e1
      by_cases ej : j < MS.length
      · rw [List.getElem_append_left ej] at e2
        exact h.apart i j ei ej hne b e1 e2
      · have : j = MS.length := by simp at hj; omega
        subst this
        have e3 : (MS ++ [M])[MS.length] = M := by simp
        rw [e3] at e2
        have a := ((h.io i ei (by rw [← h.len]; exact ei)).rr.lt b e1).2
        have c := (o5.lt b e2).1
        omega
    · have : i = MS.length := by simp at hi; omega
      subst this
      have e3 : (MS ++ [M])[MS.length] = M := by simp
      rw [e3] at e1
      have ej : j < MS.length := by simp at hj; omega
      rw [List.getElem_append_left ej] at e2
      have a := ((h.io j ej (by rw [← h.len]; exact ej)).rr.lt b e2).2
      have c := (o5.lt b e1).1
      omega
theorem LI.po {N g n base : Nat} {w : World} {MS : List Iv} {A : List In} (h : LI N g n w MS A 0) (hb : base ≤ N) : PO w base (rowv g n) A MS := by
  have hn : A.length = n := by have := h.tot; omega
  have hr := h.row
  rw [List.replicate_zero, List.append_nil] at hr
  refine ⟨h.len, by rw [hn]; exact own_wide hr hb, fun j hj hj' => ?_, h.apart⟩
  have a := h.io j hj hj'
  exact ⟨a.op, a.x, a.y, a.a, a.len, a.sm, own_wide a.rr hb, a.ne⟩
theorem LI.start {N n : Nat} {w : World} (hN : N ≤ w.heap.size) (hn : n ≤ maxLen) : LI N w.heap.size n (w.alloc (.cells (madeCells Z5.cells (n * 5)) 49)) [] [] n :=
  ⟨rfl, by simp, made_rowI n N w hN hn, fun j hj => by simp at hj, fun i j hi => by simp at hi⟩
theorem step_callG2 {P : Program} {ops : Array Oper} {o : Oper} {a : Act} {w : World} {K : Act → World → Prop} {Q : Exit → Act → World → Prop} {E : Prop} (hw : Region.wanted o (yielded ops a.tmps) = true) (f : FuncId) (x y : Operand) (t u : TypeId)
    (hop : o.op = Op.call { callee := Callee.value (.func f), args := #[x, y], argTypes := #[t, u] }) (hen : ∀ args w, (callFunc f args).run P w = .ok (.enter f args) w)
    (hc : Calls P f #[a.eval x, a.eval y] w fun e w' => (∃ v, e = .returned v ∧ K (a.put o.dst v) w') ∨ (∃ ch, e = .panicked ch ∧ Q (.panic ch) a w')) :
    if Region.wanted o (yielded ops a.tmps) = true then Oper.wp P o a w K Q else E := by
  rw [if_pos hw]
  have h2 := hen #[a.eval x, a.eval y] w
  unfold Oper.wp
  have ev : a.eval (.func f) = .func (.func f) #[] #[] := rfl
  simp [execOp, hop, resolve, invoke, ev, Deferred.ofValue, h2, Result.andThen]
  show Calls P f #[a.eval x, a.eval y] w _
  refine hc.mono fun e w' h => ?_
  rcases h with ⟨v, rfl, hk⟩ | ⟨ch, rfl, hq⟩
  · exact hk
  · exact hq
theorem step_callP {P : Program} {ops : Array Oper} {o : Oper} {a : Act} {w : World} {K : Act → World → Prop} {Q : Exit → Act → World → Prop} {E : Prop} (hw : Region.wanted o (yielded ops a.tmps) = true) (f : FuncId) (x : Operand) (t : TypeId)
    (hop : o.op = Op.call { callee := Callee.value (.func f), args := #[x], argTypes := #[t] }) (hen : ∀ args w, (callFunc f args).run P w = .ok (.enter f args) w)
    (hc : Calls P f #[a.eval x] w fun e w' => (∃ v, e = .returned v ∧ K (a.put o.dst v) w') ∨ (∃ ch, e = .panicked ch ∧ Q (.panic ch) a w')) :
    if Region.wanted o (yielded ops a.tmps) = true then Oper.wp P o a w K Q else E := by
  rw [if_pos hw]
  have h2 := hen #[a.eval x] w
  unfold Oper.wp
  have ev : a.eval (.func f) = .func (.func f) #[] #[] := rfl
  simp [execOp, hop, resolve, invoke, ev, Deferred.ofValue, h2, Result.andThen]
  show Calls P f #[a.eval x] w _
  refine hc.mono fun e w' h => ?_
  rcases h with ⟨v, rfl, hk⟩ | ⟨ch, rfl, hq⟩
  · exact hk
  · exact hq
end Go.Proofs.YteanndophopplaaDoor
/- HELPERS: a program that was read, if it may be. -/
namespace Go.Proofs.YteanndophopplaaDoor
open Go.RowKit
set_option linter.unusedVariables false
set_option linter.unusedSimpArgs false
set_option maxRecDepth 100000 in
set_option maxHeartbeats 4000000 in
theorem mayBe53 {w : World} {ad : Option Addr} {n c : Nat} {l : List In} {s k : Int} (h : PI w w.heap.size ad n l) :
    Calls Tryd.prog 53 #[pv ad n c s k] w fun e w' => Below w.heap.size w w' ∧ ((mayB l s k = false ∧ e = Broke) ∨ (mayB l s k = true ∧ e = .returned (pv ad n c s k))) := by
  obtain ⟨U, hU⟩ : ∃ U, U = (w.alloc (.cells #[.slice ad n c, .int .i64 s, .int .i64 k] 24)).alloc (.cells #[.slice none 0 0, .int .i64 0, .int .i64 0] 24) := ⟨_, rfl⟩
  have hb0 : Below w.heap.size w U := by rw [hU]; exact Joins.below_alloc2 w _ _
  have g0 : B3 U w.heap.size (.slice ad n c) (.int .i64 s) (.int .i64 k) := by rw [hU]; exact (heap_alloc_old _ _ (by simp)).trans (heap_alloc_new w _)
  have g1 : B3 U (w.heap.size + 1) (.slice none 0 0) (.int .i64 0) (.int .i64 0) := by
    rw [hU]
    have := heap_alloc_new (w.alloc (.cells #[.slice ad n c, .int .i64 s, .int .i64 k] 24)) (.cells #[.slice none 0 0, .int .i64 0, .int .i64 0] 24)
    rw [show (w.alloc (.cells #[.slice ad n c, .int .i64 s, .int .i64 k] 24)).heap.size = w.heap.size + 1 by simp] at this
    exact this
  have C37 := check10 (c := c) (s := s) (k := k) (h.kept hb0 hb0.size)
  have HB0 := hid hb0
  have HG0 := hid g0
  have HG1 := hid g1
  have l0 : w.heap.size < U.heap.size := (Array.getElem?_eq_some_iff.1 g0).1
  have l1 : w.heap.size + 1 < U.heap.size := (Array.getElem?_eq_some_iff.1 g1).1
  have HU := hid hU
  obtain ⟨c0, c1, c2⟩ := three_cells g0
  cases hm : mayB l s k with
  | false =>
    rw [hm] at C37
    clear g0 g1 hb0 h hU
    go_enter Tryd.func53, Tryd.ntmps53
    go_upto_region 1 with fail
    rw [← HU.out]
    go_wp2_with (go_at_call 37; (with_reducible refine C37.mono ?_); rintro e w2 ⟨rfl, hb2⟩; have HB2 := hid hb2; clear hb2 C37)
    exact ⟨rfl, HB0.out.trans (Joins.below_le HB2.out HB0.out.size), .inl ⟨trivial, rfl⟩⟩
  | true =>
    rw [hm] at C37
    clear g0 g1 hb0 h hU
    go_enter Tryd.func53, Tryd.ntmps53
    go_upto_region 1 with fail
    rw [← HU.out]
    go_wp2_with (go_at_call 37; (with_reducible refine C37.mono ?_); rintro e w2 ⟨rfl, hb2⟩; have HB2 := hid hb2; have e0 : B3 w2 w.heap.size (.slice ad n c) (.int .i64 s) (.int .i64 k) := (hb2.block _ l0).trans HG0.out; have e1 : B3 w2 (w.heap.size + 1) (.slice none 0 0) (.int .i64 0) (.int .i64 0) := (hb2.block _ l1).trans HG1.out; obtain ⟨d0, d1, d2⟩ := three_cells e0; obtain ⟨q0, q1, q2⟩ := three_cells e1; obtain ⟨f0, f1, f2⟩ := frz3 e1; have E1 := hid e1; clear hb2 C37 e0 e1)
    refine bodyPost_ret (results_cell_row rfl _ _ (w.heap.size + 1) 24 _ (0, 0) _ rfl (all3 E1.out _ _ _) Tryd.underlying24 rfl (by kernel_rfl)) rfl ?_
    refine ⟨?_, .inr ⟨trivial, rfl⟩⟩
    have hB : Below w.heap.size w w2 := HB0.out.trans (Joins.below_le HB2.out HB0.out.size)
    exact ((hB.setCell (by simp) _).setCell (by simp) _).setCell (by simp) _
end Go.Proofs.YteanndophopplaaDoor
/- HELPERS: the program that bytes are. -/
namespace Go.Proofs.YteanndophopplaaDoor
open Go.RowKit
set_option linter.unusedVariables false
set_option linter.unusedSimpArgs false
abbrev C3 : Codec Nat := byteC 3 (by omega)
theorem rest_n1 {m : List Nat} (h : C3.get m = none) : restP C3 5000 20000 m = none := by unfold restP; rw [h]
theorem rest_n2 {m m1 : List Nat} {k : Nat} (h : C3.get m = some (k, m1)) (h2 : C3.get m1 = none) : restP C3 5000 20000 m = none := by unfold restP; rw [h]; simp only; rw [h2]
theorem rest_n3 {m m1 m2 : List Nat} {k s : Nat} (h : C3.get m = some (k, m1)) (h2 : C3.get m1 = some (s, m2)) (h3 : C3.get m2 = none) : restP C3 5000 20000 m = none := by unfold restP; rw [h]; simp only; rw [h2]; simp only; rw [h3]
theorem rest_s {m m1 m2 m3 : List Nat} {k s n : Nat} (h : C3.get m = some (k, m1)) (h2 : C3.get m1 = some (s, m2)) (h3 : C3.get m2 = some (n, m3)) : restP C3 5000 20000 m = if 20000 < n then none else (match getN C3 5000 n m3 with | none => none | some (J, m4) => some ((J, (s : Int), (k : Int)), m4)) := by
  unfold restP; rw [h]; simp only; rw [h2]; simp only; rw [h3]
  by_cases hn : 20000 < n
  · simp [hn]
  · simp only [hn, if_false]; cases getN C3 5000 n m3 <;> rfl
theorem body_none {m : List Nat} (h : restP C3 5000 20000 m = none) : bodyP C3 5000 20000 m = none := by unfold bodyP; rw [h]
theorem getN_step {n : Nat} {l l1 : List Nat} {I : In} (h : getI C3 5000 l = some (I, l1)) : getN C3 5000 (n + 1) l = (match getN C3 5000 n l1 with | none => none | some (J, l2) => some (I :: J, l2)) := by
  rw [getN, h]
  simp only
  cases getN C3 5000 n l1 <;> rfl
theorem getN_stop {n : Nat} {l : List Nat} (h : getI C3 5000 l = none) : getN C3 5000 (n + 1) l = none := by
  rw [getN, h]
theorem getI_nil : getI C3 5000 [] = none := rfl
theorem getI_cons (x : Nat) (r : List Nat) : getI C3 5000 (x :: r) = getF C3 5000 x r := rfl
theorem PO.kept {w w' : World} {base : Nat} {z : Value} {J : List In} {MS : List Iv} (h : PO w base z J MS) (hk : ∀ b, base ≤ b → b < w.heap.size → w'.heap[b]? = w.heap[b]?) : PO w' base z J MS :=
  ⟨h.len, row_kept h.row (fun b e => hk b (h.row.lt b e).1 (h.row.lt b e).2), fun j hj hj' => (h.io j hj hj').kept (fun b e => hk b ((h.io j hj hj').rr.lt b e).1 ((h.io j hj hj').rr.lt b e).2), h.apart⟩
theorem PO.wide {w : World} {base base' : Nat} {z : Value} {J : List In} {MS : List Iv} (h : PO w base z J MS) (hb : base' ≤ base) : PO w base' z J MS :=
  ⟨h.len, own_wide h.row hb, fun j hj hj' => by
    have a := h.io j hj hj'
    exact ⟨a.op, a.x, a.y, a.a, a.len, a.sm, own_wide a.rr hb, a.ne⟩, h.apart⟩
/-- the boxes where reading begins -/
structure OB (w W : World) (m : List Nat) (a : Option Addr) (c : Nat) (rb : Nat) : Prop where
  res : W.heap[w.heap.size]? = some (.cells #[nilS, zI, zI] 24 (0, 0))
  p : W.heap[rb + 1]? = some (.cells #[nilS, zI, zI] 24 (0, 0))
  rd : RDb (w.heap.size + 1) rb W m
  low : w.heap.size + 1 ≤ rb
  sz : W.heap.size = rb + 2
  be : Below w.heap.size w W
theorem OB.mk' {w w0 w1 : World} {m : List Nat} {a : Option Addr} {c : Nat} (h0 : w0 = w.alloc (.cells #[nilS, zI, zI] 24)) (hb : Below w0.heap.size w0 w1) (hBA : BA w0 w0.heap.size a m) (hc : m.length ≤ c) (hlt : ∀ x ∈ m, x < 256) (hs : m.length ≤ 8388608) :
    OB w ((w1.alloc (.cells #[.slice a m.length c] 87)).alloc (.cells #[nilS, zI, zI] 24)) m a c w1.heap.size := by
  have s0 : w0.heap.size = w.heap.size + 1 := by rw [h0]; simp
  have hsz := hb.size
  have e0 : w0.heap[w.heap.size]? = some (.cells #[nilS, zI, zI] 24 (0, 0)) := by rw [h0]; exact heap_alloc_new w _
  have e1 := heap_alloc_new (w1.alloc (.cells #[.slice a m.length c] 87)) (.cells #[nilS, zI, zI] 24)
  have s1 : (w1.alloc (.cells #[.slice a m.length c] 87)).heap.size = w1.heap.size + 1 := by simp
  rw [s1] at e1
  have old : ∀ k, k < w1.heap.size → ((w1.alloc (.cells #[.slice a m.length c] 87)).alloc (.cells #[nilS, zI, zI] 24)).heap[k]? = w1.heap[k]? := fun k hk => (heap_alloc_old _ _ (by omega)).trans (heap_alloc_old _ _ hk)
  refine ⟨(old _ (by omega)).trans ((hb.block _ (by omega)).trans e0), e1, ⟨a, c, ?_⟩, by omega, by simp, ?_⟩
  · refine ⟨(heap_alloc_old _ _ (by omega)).trans (heap_alloc_new w1 _), ?_, by omega, hc, hlt, hs⟩
    rw [← s0]
    exact hBA.kept (fun b hb' => (old b (by omega)).trans (hb.block b hb')) (Nat.le_refl _)
  · have h1 : Below w.heap.size w w0 := by rw [h0]; exact Joins.below_alloc1 w _
    exact ((h1.trans (Joins.below_le hb (by omega))).alloc (by omega) _).alloc (by simp; omega) _
/-- what was read so far of a program -/
structure OC (w W : World) (v0 v1 v2 : Value) (m : List Nat) (rb : Nat) : Prop where
  res : W.heap[w.heap.size]? = some (.cells #[nilS, zI, zI] 24 (0, 0))
  p : B3 W (rb + 1) v0 v1 v2
  rd : RDb (w.heap.size + 1) rb W m
  low : w.heap.size + 1 ≤ rb
  sz : rb + 2 ≤ W.heap.size
  be : Below w.heap.size w W
theorem OB.oc {w W : World} {m : List Nat} {a : Option Addr} {c rb : Nat} (h : OB w W m a c rb) : OC w W nilS zI zI m rb := ⟨h.res, h.p, h.rd, h.low, by rw [h.sz]; exact Nat.le_refl _, h.be⟩
theorem OC.mo {w W W' : World} {v0 v1 v2 : Value} {m m' : List Nat} {rb : Nat} (h : OC w W v0 v1 v2 m rb) (hm : Mo W W' rb) (hr : RDb (w.heap.size + 1) rb W' m') : OC w W' v0 v1 v2 m' rb := by
  have h1 := h.low
  have h2 := h.sz
  have h3 := hm.size
  have h4 := h.be.size
  refine ⟨(hm.block _ (by omega) (by omega)).trans h.res, (hm.block _ (by omega) (by omega)).trans h.p, hr, h1, by omega, ?_⟩
  exact h.be.trans (hm.below (by omega) (by omega))
theorem OC.set {w W : World} {v0 v1 v2 u0 u1 u2 : Value} {m : List Nat} {rb i : Nat} {v : Value} (h : OC w W v0 v1 v2 m rb) (hp : B3 (W.setCell ⟨rb + 1, i, none⟩ v) (rb + 1) u0 u1 u2) : OC w (W.setCell ⟨rb + 1, i, none⟩ v) u0 u1 u2 m rb := by
  have h1 := h.low
  have h2 := h.sz
  refine ⟨(Below.heap_setCell _ _ _ _ (show w.heap.size ≠ rb + 1 by omega)).trans h.res, hp, (rdr_b h1).set h.rd v (by show rb < rb + 1; omega), h1, by simp [World.setCell]; omega, h.be.setCell (by show w.heap.size ≤ rb + 1; omega) v⟩
theorem OC.set2 {w W : World} {v0 v1 v2 : Value} {m : List Nat} {rb : Nat} (h : OC w W v0 v1 v2 m rb) (v : Value) : OC w (W.setCell ⟨rb + 1, 2, none⟩ v) v0 v1 v m rb := h.set (Joins.block_setCell h.p v)
theorem OC.set1 {w W : World} {v0 v1 v2 : Value} {m : List Nat} {rb : Nat} (h : OC w W v0 v1 v2 m rb) (v : Value) : OC w (W.setCell ⟨rb + 1, 1, none⟩ v) v0 v v2 m rb := h.set (Joins.block_setCell h.p v)
theorem OC.set0 {w W : World} {v0 v1 v2 : Value} {m : List Nat} {rb : Nat} (h : OC w W v0 v1 v2 m rb) (v : Value) : OC w (W.setCell ⟨rb + 1, 0, none⟩ v) v v1 v2 m rb := h.set (Joins.block_setCell h.p v)
theorem OC.cells {w W : World} {v0 v1 v2 : Value} {m : List Nat} {rb g : Nat} (h : OC w W v0 v1 v2 m rb) (hg : rb + 2 ≤ g) (o : Nat) (vs : List Value) : OC w (W.setCells g o vs) v0 v1 v2 m rb := by
  have h1 := h.low
  refine ⟨(setCells_old g vs o W _ (by omega)).trans h.res, (setCells_old g vs o W _ (by omega)).trans h.p, (rdr_b h1).kept _ _ _ h.rd (setCells_old g vs o W _ (by omega)) (fun b hb => setCells_old g vs o W _ (by omega)), h1, by rw [setCells_size]; exact h.sz, Below.setCells (by omega) vs o _ _ h.be⟩
theorem OC.alloc {w W : World} {v0 v1 v2 : Value} {m : List Nat} {rb : Nat} (h : OC w W v0 v1 v2 m rb) (o : Obj) : OC w (W.alloc o) v0 v1 v2 m rb :=
  h.mo (Mo.alloc _ _ _) ((rdr_b h.low).kept _ _ _ h.rd (heap_alloc_old _ _ (by have := h.sz; omega)) (fun b hb => heap_alloc_old _ _ (by have := h.sz; have := h.low; omega)))
/-- one cell of the program that is read is written -/
theorem RDb.cell {B rb : Nat} {w : World} {l : List Nat} (h : RDb B rb w l) {a : Addr} (v : Value) (ha : rb < a.block) (hB : B ≤ rb) : RDb B rb (w.setCell a v) l := (rdr_b hB).set h v ha
set_option maxRecDepth 100000 in
set_option maxHeartbeats 4000000 in
theorem ofBytes_no {w : World} {ad : Option Addr} {n c : Nat} {l : List Nat} (h : BA w w.heap.size ad l) (hn : n = l.length) (hs : n ≤ 8388608) (hcp : n ≤ c) (hcm : c ≤ 9223372036854775807) (hlt : ∀ x ∈ l, x < 256) (hi : innerP l = none) :
    Calls Tryd.prog 36 #[.slice ad n c] w fun e w' => e = Broke ∧ Below w.heap.size w w' := by
  obtain ⟨w0, hw0⟩ : ∃ w0, w0 = w.alloc (.cells #[nilS, zI, zI] 24) := ⟨_, rfl⟩
  have hb0 : Below w.heap.size w w0 := by rw [hw0]; exact Joins.below_alloc1 w _
  have C55 := inner55 (w := w0) (c := c) (h.kept hb0.block hb0.size) hn hs hcp hcm hlt
  have C1 : Calls Tryd.prog 55 #[.slice ad n c] w0 fun e w' => e = Broke ∧ Below w0.heap.size w0 w' := C55.mono (by
    rintro e w' ⟨hB, ⟨_, rfl⟩ | ⟨m, a, c', h2, _⟩⟩
    · exact ⟨rfl, hB⟩
    · rw [hi] at h2; cases h2)
  rw [hw0] at C1 hb0
  have HB := hid hb0
  clear C55 hw0 hb0 h hn hlt hi
  go_enter Tryd.func36, Tryd.ntmps36
  go_wp2_with (go_at_call 55; (with_reducible refine C1.mono ?_); rintro e w1 ⟨rfl, hb1⟩)
  exact ⟨rfl, rfl, HB.out.trans (Joins.below_le hb1 HB.out.size)⟩
set_option maxRecDepth 100000 in
set_option maxHeartbeats 4000000 in
theorem ofBytes_in {w : World} {ad : Option Addr} {n c : Nat} {l m : List Nat} (h : BA w w.heap.size ad l) (hn : n = l.length) (hs : n ≤ 8388608) (hcp : n ≤ c) (hcm : c ≤ 9223372036854775807) (hlt : ∀ x ∈ l, x < 256) (hi : innerP l = some m)  :
    Calls Tryd.prog 36 #[.slice ad n c] w fun e w' => Below w.heap.size w w' ∧ ((bodyP C3 5000 20000 m = none ∧ e = Broke) ∨ ∃ J s k g MS, bodyP C3 5000 20000 m = some (J, s, k) ∧ e = .returned (pv (some ⟨g, 0, none⟩) J.length J.length s k) ∧ PO w' w.heap.size (.slice (some ⟨g, 0, none⟩) J.length J.length) J MS) := by
  obtain ⟨w0, hw0⟩ : ∃ w0, w0 = w.alloc (.cells #[nilS, zI, zI] 24) := ⟨_, rfl⟩
  have hb0 : Below w.heap.size w w0 := by rw [hw0]; exact Joins.below_alloc1 w _
  have C55 := inner55 (w := w0) (c := c) (h.kept hb0.block hb0.size) hn hs hcp hcm hlt
  have hm : m.length ≤ 8388608 ∧ ∀ x ∈ m, x < 256 := by
    have e := (inner_iff l m).1 hi
    have hl := congrArg List.length e
    simp [sum4] at hl
    refine ⟨by omega, fun x hx => hlt x (by rw [e]; simp [hx])⟩
  have C1 : Calls Tryd.prog 55 #[.slice ad n c] w0 fun e w' => ∃ a c', e = .returned (.slice a m.length c') ∧ OB w ((w'.alloc (.cells #[.slice a m.length c'] 87)).alloc (.cells #[nilS, zI, zI] 24)) m a c' w'.heap.size := C55.mono (by
    rintro e w' ⟨hB, ⟨h2, _⟩ | ⟨m', a, c', h2, rfl, h3, h4⟩⟩
    · rw [hi] at h2; cases h2
    · rw [hi] at h2; cases h2
      exact ⟨a, c', rfl, OB.mk' hw0 hB h4 h3 hm.2 hm.1⟩)
  rw [hw0] at C1
  obtain ⟨mn, hmn⟩ : ∃ mn, m.length = mn := ⟨_, rfl⟩
  rw [hmn] at C1
  clear C55 hw0 hb0 h hn hlt hi hm hmn
  go_enter Tryd.func36, Tryd.ntmps36
  go_upto_region 3 with (go_at_call 55; (with_reducible refine C1.mono ?_); rintro e w1 ⟨a1, c1, rfl, hOB⟩; have HOB := hid hOB; clear hOB C1)
  obtain ⟨W, hW⟩ : ∃ W, W = (w1.alloc (.cells #[.slice a1 mn c1] 87)).alloc (.cells #[nilS, zI, zI] 24) := ⟨_, rfl⟩
  have HO : Hid (OC w W nilS zI zI m w1.heap.size) := by rw [hW]; exact HOB.out.oc
  rw [← hW]
  obtain ⟨rb, hrb⟩ : ∃ rb, w1.heap.size = rb := ⟨_, rfl⟩
  rw [hrb] at HO ⊢
  clear HOB hW hrb
  have hN := numR_b (w.heap.size + 1) rb
  cases hg1 : C3.get m with
  | none =>
    have C1 := hN.none HO.out.rd hg1
    go_wp2_with (go_at_call 56; (with_reducible refine C1.mono ?_); rintro e w2 ⟨rfl, hM⟩)
    exact ⟨rfl, HO.out.be.trans (hM.below (by have := HO.out.low; omega) HO.out.be.size), .inl ⟨body_none (rest_n1 hg1), rfl⟩⟩
  | some p1 =>
    obtain ⟨k0, m1⟩ := p1
    have C1 := hN.some HO.out.rd hg1
    go_upto_region 4 with (go_at_call 56; (with_reducible refine C1.mono ?_); rintro e w2 ⟨rfl, hR2, hM2⟩; have h1 := HO.out.mo hM2 hR2; obtain ⟨c0, c1, c2⟩ := three_cells h1.p; obtain ⟨f0, f1, f2⟩ := frz3 h1.p; have H1 := hid (h1.set2 (.int .i64 (k0 : Int))); clear h1 hR2 hM2 C1)
    cases hg2 : C3.get m1 with
    | none =>
      have C2 := hN.none H1.out.rd hg2
      go_wp2_with (go_at_call 56; (with_reducible refine C2.mono ?_); rintro e w3 ⟨rfl, hM⟩)
      exact ⟨rfl, H1.out.be.trans (hM.below (by have := H1.out.low; omega) H1.out.be.size), .inl ⟨body_none (rest_n2 hg1 hg2), rfl⟩⟩
    | some p2 =>
      obtain ⟨s0, m2⟩ := p2
      have C2 := hN.some H1.out.rd hg2
      go_upto_region 5 with (go_at_call 56; (with_reducible refine C2.mono ?_); rintro e w3 ⟨rfl, hR3, hM3⟩; have h2 := H1.out.mo hM3 hR3; obtain ⟨c0, c1, c2⟩ := three_cells h2.p; obtain ⟨f0, f1, f2⟩ := frz3 h2.p; have H2 := hid (h2.set1 (.int .i64 (s0 : Int))); clear h2 hR3 hM3 C2)
      clear H1 HO
      cases hg3 : C3.get m2 with
      | none =>
        have C3' := hN.none H2.out.rd hg3
        go_wp2_with (go_at_call 56; (with_reducible refine C3'.mono ?_); rintro e w4 ⟨rfl, hM⟩)
        exact ⟨rfl, H2.out.be.trans (hM.below (by have := H2.out.low; omega) H2.out.be.size), .inl ⟨body_none (rest_n3 hg1 hg2 hg3), rfl⟩⟩
      | some p3 =>
        obtain ⟨n0, m3⟩ := p3
        have C3' := hN.some H2.out.rd hg3
        have HRS := hid (rest_s hg1 hg2 hg3)
        by_cases h20 : 20000 < n0
        · have b1 : decide ((n0 : Int) > 20000) = true := by simp; omega
          have b2 : (20000 : Int) < (n0 : Int) := by omega
          go_wp2_with (go_at_call 56; (with_reducible refine C3'.mono ?_); rintro e w4 ⟨rfl, hR, hM⟩)
          exact ⟨rfl, H2.out.be.trans (hM.below (by have := H2.out.low; omega) H2.out.be.size), .inl ⟨body_none (by rw [HRS.out, if_pos h20]), rfl⟩⟩
        · have b1 : decide ((n0 : Int) > 20000) = false := by simp; omega
          have b2 : ¬ ((20000 : Int) < (n0 : Int)) := by omega
          have mk := makeI n0 (by omega)
          go_upto_region 8 with (go_at_call 56; (with_reducible refine C3'.mono ?_); rintro e w4 ⟨rfl, hR4, hM4⟩; have H4 := hid (H2.out.mo hM4 hR4); clear hR4 hM4 C3')
          obtain ⟨g, hgg⟩ : ∃ g, w4.heap.size = g := ⟨_, rfl⟩
          have hp4 := (H4.out.alloc (.cells (madeCells #[.int .i64 0, .int .i64 0, .int .i64 0, .int .i64 0, .slice none 0 0] (n0 * 5)) 49)).p
          obtain ⟨c0, c1, c2⟩ := three_cells hp4
          obtain ⟨f0, f1, f2⟩ := frz3 hp4
          clear hgg
          go_upto_region 9 with fail
          obtain ⟨V, hV⟩ : ∃ V, V = (w4.alloc (.cells (madeCells #[.int .i64 0, .int .i64 0, .int .i64 0, .int .i64 0, .slice none 0 0] (n0 * 5)) 49)).setCell ⟨rb + 1, 0, none⟩ (.slice (some ⟨w4.heap.size, 0, none⟩) n0 n0) := ⟨_, rfl⟩
          have hOC : OC w V (rowv w4.heap.size n0) (.int .i64 (s0 : Int)) (.int .i64 (k0 : Int)) m3 rb := by rw [hV]; exact (H4.out.alloc _).set0 _
          have hLI : LI (rb + 2) w4.heap.size n0 V [] [] n0 := by
            have e : LI (rb + 2) w4.heap.size n0 (w4.alloc (.cells (madeCells Z5.cells (n0 * 5)) 49)) [] [] n0 := LI.start H4.out.sz (by unfold maxLen; omega)
            rw [hV]
            exact e.mo (rb := rb + 1) (by omega) (Mo.set _ _ _ _)
          rw [← hV]
          obtain ⟨g, hgg⟩ : ∃ g, w4.heap.size = g := ⟨_, rfl⟩
          rw [hgg] at hOC hLI ⊢
          have HOC := hid hOC
          have HLI := hid hLI
          obtain ⟨c0, c1, c2⟩ := three_cells hOC.p
          have hgN : rb + 2 ≤ g := by rw [← hgg]; exact H4.out.sz
          clear hV hOC hLI hgg f0 f1 f2 hp4 H4 H2 mk
          go_wp2_with fail
          clear c0 c1 c2
          go_loopw [25] (fun y wq => ∃ (i : Nat) (MS : List Iv) (A : List In) (li : List Nat), y = .int .i64 (i : Int) ∧ i ≤ n0 ∧ Hid (A.length = i) ∧ Hid (LI (rb + 2) g n0 wq MS A (n0 - i)) ∧ Hid (OC w wq (rowv g n0) (.int .i64 (s0 : Int)) (.int .i64 (k0 : Int)) li rb) ∧ Hid (getN C3 5000 n0 m3 = (match getN C3 5000 (n0 - i) li with | none => none | some (J, u) => some (A ++ J, u)))) (fun y _ => n0 - (intOf y).toNat)
          case atStart =>
            refine ⟨0, [], [], m3, rfl, by omega, rfl, HLI.out, HOC.out, ?_⟩
            show getN C3 5000 n0 m3 = (match getN C3 5000 n0 m3 with | none => none | some (J, u) => some ([] ++ J, u))
            cases getN C3 5000 n0 m3 <;> rfl
          case round =>
            clear HLI HOC
            obtain ⟨i, MS, A, li, rfl, hi', HA, HLI, HOC, HG⟩ := hrel
            have c0 := Joins.cell_of_block HOC.out.p 0
            have c1 := Joins.cell_of_block HOC.out.p 1
            have c2 := Joins.cell_of_block HOC.out.p 2
            by_cases hil : i < n0
            · have b3 : decide ((i : Int) < (n0 : Int)) = true := by simp; omega
              have b4 : (i : Int) < (n0 : Int) := by omega
              have ad1 : IntKind.i64.wrap ((i : Int) + 1) = (i : Int) + 1 := by simp [IntKind.wrap, IntKind.bits, IntKind.signed]; omega
              go_upto_region 12 with fail
              obtain ⟨k, hk⟩ : ∃ k, n0 - i = k + 1 := ⟨n0 - i - 1, by omega⟩
              rw [hk] at HLI HG
              have hrd := (rdr_b HOC.out.low).kept _ wr.drew _ HOC.out.rd rfl (fun _ _ => rfl)
              have HOd := hid (HOC.out.mo (Mo.drew wr rb) hrd)
              have HLd := hid (HLI.out.mo (rb := rb) (by omega) (Mo.drew wr rb))
              have HK := hid hk
              clear hk hrd
              refine wp_region_lexK [0, 1, 2, 5] [3, 4, 6, 7, 8] 8 (fun V => V.cell? ⟨rb + 1, 0, none⟩ = some (rowv g n0)) (by kernel_rfl) (by kernel_rfl) rfl (by kernel_rfl) (by kernel_rfl) c0 ?_
              simp only [opsAt, opsNo, List.getElem?_toArray, List.getElem?_cons_zero, List.getElem?_cons_succ]
              iterate 4
                refine lex_cons ?_ rfl (fun V hV => ?_) (fun _ _ _ h => h) ?_
                rotate_left
                · go_simp <;> with_reducible rfl
                simp only [Act.put, List.setIfInBounds_toArray, List.set_cons_zero, List.set_cons_succ]
              refine lex_nil (tailK_cons fun K1 hK1 => ?_)
              have hbe := HOd.out.be
              cases li with
              | nil =>
                obtain ⟨a', c', hRB⟩ := HOd.out.rd
                refine step_callP rfl 57 (.tmp 3) 87 rfl en57 ?_
                refine (next57_nil hRB).mono ?_
                rintro e w5 ⟨rfl, rfl⟩
                refine .inr ⟨_, rfl, ?_⟩
                exact ⟨rfl, hbe, .inl ⟨body_none (by rw [HRS.out, if_neg h20, HG.out, getN_stop getI_nil]), rfl⟩⟩
              | cons x r =>
                obtain ⟨a', c', hRB⟩ := HOd.out.rd
                have hx := hRB.lt x (by simp)
                refine step_callP rfl 57 (.tmp 3) 87 rfl en57 ?_
                refine (next57_cons hRB).mono ?_
                rintro e w5 ⟨rfl, hR5, hM5⟩
                refine .inl ⟨_, rfl, ?_⟩
                have HO5 := hid (HOd.out.mo hM5 hR5)
                have HL5 := hid (HLd.out.mo (by omega) hM5)
                clear hRB hR5 hM5
                refine hK1.out _ _ (fun _ => Joins.cell_of_block HO5.out.p 0) (tailK_cons fun K2 hK2 => ?_)
                refine step_val rfl (.int .i64 (x : Int)) ?_ ?_
                · have b5 : IntKind.i64.wrap (x : Int) = (x : Int) := by simp [IntKind.wrap, IntKind.bits, IntKind.signed]; omega
                  go_simp
                refine hK2.out _ _ (fun _ => Joins.cell_of_block HO5.out.p 0) (tailK_cons fun K3 hK3 => ?_)
                have C51 := take51 hN en56 (rdr_b HO5.out.low) x HO5.out.rd
                have hbe5 := HO5.out.be
                refine step_callG2 rfl 51 (.tmp 32) (.tmp 33) 3 82 rfl en51 ?_
                refine C51.mono ?_
                rintro e w6 ⟨hM6, ⟨hgf, rfl⟩ | ⟨I, u, hgf, M, rfl, o0, o1, o2, o3, o4, o5, hR6⟩⟩
                · refine .inr ⟨_, rfl, ?_⟩
                  exact ⟨rfl, hbe5.trans (hM6.below (by have := HO5.out.low; omega) hbe5.size), .inl ⟨body_none (by rw [HRS.out, if_neg h20, HG.out, getN_stop (by rw [getI_cons, hgf])]), rfl⟩⟩
                · refine .inl ⟨_, rfl, ?_⟩
                  have HO6 := hid (HO5.out.mo hM6 hR6)
                  have HL6 := hid (HL5.out.mo (by omega) hM6)
                  have HLN := hid (HL5.out.next (by omega) hM6 o0 o1 o2 o3 o4 o5 (getF_len hgf))
                  have hIs := getN_step (n := k) (l := x :: r) (l1 := u) (I := I) (by rw [getI_cons, hgf])
                  refine hK3.out _ _ (fun _ => Joins.cell_of_block HO6.out.p 0) (tailK_cons fun K5 hK5 => ?_)
                  refine step_val rfl (.pointer (some ⟨g, i * 5, none⟩)) ?_ ?_
                  · go_simp
                  refine hK5.out _ _ (fun _ => Joins.cell_of_block HO6.out.p 0) (tailK_cons fun K4 hK4 => ?_)
                  have hth := HL6.out.there
                  rw [HA.out] at hth HLN
                  refine step_store5 rfl (.tmp 35) (.tmp 34) rfl g i M rfl rfl hth ?_
                  have HO7 := hid (HO6.out.cells (g := g) hgN (i * 5) (Iv.cs M))
                  have HGN : Hid (getN C3 5000 n0 m3 = (match getN C3 5000 k u with | none => none | some (J, u2) => some ((A ++ [I]) ++ J, u2))) := by
                    show _ = _
                    rw [HG.out, hIs]
                    cases getN C3 5000 k u with
                    | none => rfl
                    | some p => simp
                  clear o0 o1 o2 o3 o4 o5 hgf hM6 hR6 C51 hth hIs HO6 HL6 HO5 HL5 HG HLI HOC HLd HOd c0 c1 c2
                  refine hK4.out _ _ (fun h => absurd rfl h) (tailK_nil ?_)
                  simp only [Act.put, List.setIfInBounds_toArray, List.set_cons_zero, List.set_cons_succ]
                  go_wp2
                  refine ⟨⟨i + 1, MS ++ [M], A ++ [I], u, by push_cast; rfl, by omega, by show _ = _; rw [List.length_append, HA.out]; rfl, ?_, HO7.out, ?_⟩, by simp [intOf]; omega⟩
                  · rw [show n0 - (i + 1) = k by have := HK.out; omega]; exact HLN.out
                  · rw [show n0 - (i + 1) = k by have := HK.out; omega]; exact HGN.out
            · have b3 : decide ((i : Int) < (n0 : Int)) = false := by simp; omega
              obtain rfl : i = n0 := by omega
              rw [Nat.sub_self] at HLI HG
              have HGE : Hid (restP C3 5000 20000 m = some ((A, (s0 : Int), (k0 : Int)), li)) := by
                show _ = _
                rw [HRS.out, if_neg h20, HG.out]
                simp [getN]
              obtain ⟨a', c', hRB⟩ := HOC.out.rd
              cases li with
              | cons x r =>
                have k0' : wr.cell? ⟨rb, 0, none⟩ = some (.slice a' (r.length + 1) c') := Joins.cell_of_block hRB.box 0
                have hbe := HOC.out.be
                obtain ⟨rn, hrn⟩ : ∃ rn, r.length = rn := ⟨_, rfl⟩
                rw [hrn] at k0'
                have b4 : (0 : Int) < (rn : Int) + 1 := by omega
                have b5 : decide ((rn : Int) + 1 > 0) = true := by rw [decide_eq_true_eq]; omega
                clear hRB hrn
                go_wp2
                exact ⟨rfl, hbe, .inl ⟨by unfold bodyP; rw [HGE.out], rfl⟩⟩
              | nil =>
                have k0' : wr.cell? ⟨rb, 0, none⟩ = some (.slice a' 0 c') := Joins.cell_of_block hRB.box 0
                have hpo := HLI.out.po (base := rb + 2) (Nat.le_refl _)
                have hlow := HOC.out.low
                have hpi := hpo.pi (by rw [HA.out])
                have C53 := mayBe53 (c := i) (s := (s0 : Int)) (k := (k0 : Int)) hpi
                have HPO := hid hpo
                have HBE := hid HOC.out.be
                have HRES := hid HOC.out.res
                have hrs : w.heap.size < wr.heap.size := (Array.getElem?_eq_some_iff.1 HOC.out.res).1
                have HGB : Hid (bodyP C3 5000 20000 m = if mayB A (s0 : Int) (k0 : Int) then some (A, (s0 : Int), (k0 : Int)) else none) := by
                  show _ = _
                  unfold bodyP; rw [HGE.out]
                clear hpo hpi hRB HOC HLI HRS HG HGE hg1 hg2 hg3
                have hi2 : i ≤ 20000 := by omega
                go_upto_region 16 with fail
                cases hm : mayB A (s0 : Int) (k0 : Int) with
                | false =>
                  have D53 : Calls Tryd.prog 53 #[pv (some ⟨g, 0, none⟩) i i (s0 : Int) (k0 : Int)] wr fun e w' => e = Broke ∧ Below wr.heap.size wr w' := C53.mono (by
                    rintro e w' ⟨hb, ⟨_, rfl⟩ | ⟨h2, _⟩⟩
                    · exact ⟨rfl, hb⟩
                    · rw [hm] at h2; cases h2)
                  clear C53
                  go_wp2_with (go_at_call 53; (with_reducible refine D53.mono ?_); rintro e w5 ⟨rfl, hb5⟩)
                  exact ⟨rfl, HBE.out.trans (Joins.below_le hb5 HBE.out.size), .inl ⟨by rw [HGB.out, hm]; rfl, rfl⟩⟩
                | true =>
                  have D53 : Calls Tryd.prog 53 #[pv (some ⟨g, 0, none⟩) i i (s0 : Int) (k0 : Int)] wr fun e w' => e = .returned (pv (some ⟨g, 0, none⟩) i i (s0 : Int) (k0 : Int)) ∧ Below wr.heap.size wr w' := C53.mono (by
                    rintro e w' ⟨hb, ⟨h2, _⟩ | ⟨_, rfl⟩⟩
                    · rw [hm] at h2; cases h2
                    · exact ⟨rfl, hb⟩)
                  clear C53
                  go_wp2_with (go_at_call 53; (with_reducible refine D53.mono ?_); rintro e w5 ⟨rfl, hb5⟩; have HB5 := hid hb5; have e1 : B3 w5 w.heap.size (.slice none 0 0) (.int .i64 0) (.int .i64 0) := (hb5.block _ hrs).trans HRES.out; obtain ⟨q0, q1, q2⟩ := three_cells e1; obtain ⟨f0, f1, f2⟩ := frz3 e1; have E1 := hid e1; clear hb5 D53 e1)
                  refine bodyPost_ret (results_cell_row rfl _ _ w.heap.size 24 _ (0, 0) _ rfl (all3 E1.out _ _ _) Tryd.underlying24 rfl (by kernel_rfl)) rfl ?_
                  have hB : Below w.heap.size w w5 := HBE.out.trans (Joins.below_le HB5.out HBE.out.size)
                  refine ⟨((hB.setCell (Nat.le_refl _) _).setCell (Nat.le_refl _) _).setCell (Nat.le_refl _) _, .inr ⟨A, (s0 : Int), (k0 : Int), g, MS, by rw [HGB.out, hm]; rfl, by rw [HA.out], ?_⟩⟩
                  rw [HA.out]
                  exact (HPO.out.kept (fun b h1 h2 => (set3_old (by omega) _ _ _).trans (HB5.out.block b h2))).wide (by omega)
theorem ofBytes36 {w : World} {ad : Option Addr} {n c : Nat} {l : List Nat} (h : BA w w.heap.size ad l) (hn : n = l.length) (hs : n ≤ 8388608) (hcp : n ≤ c) (hcm : c ≤ 9223372036854775807) (hlt : ∀ x ∈ l, x < 256) :
    Calls Tryd.prog 36 #[.slice ad n c] w fun e w' => Below w.heap.size w w' ∧ ((loadP C3 5000 20000 l = none ∧ e = Broke) ∨ ∃ J s k g MS, loadP C3 5000 20000 l = some (J, s, k) ∧ e = .returned (pv (some ⟨g, 0, none⟩) J.length J.length s k) ∧ PO w' w.heap.size (.slice (some ⟨g, 0, none⟩) J.length J.length) J MS) := by
  unfold loadP
  cases hi : innerP l with
  | none =>
    refine (ofBytes_no h hn hs hcp hcm hlt hi).mono ?_
    rintro e w' ⟨rfl, hb⟩
    exact ⟨hb, .inl ⟨rfl, rfl⟩⟩
  | some m => exact ofBytes_in h hn hs hcp hcm hlt hi
end Go.Proofs.YteanndophopplaaDoor
namespace Go.Proofs.YteanndophopplaaDoor
open Go.RowKit Go.Extern.Stop Go.Stop Go.Extern
set_option linter.unusedVariables false
set_option linter.unusedSimpArgs false
theorem res19 (tmps : Array Value) (w : World) (tb eb : Nat) (v0 v1 v2 ev : Value) (h2 : tmps.getD 2 undef = .pointer (some ⟨tb, 0, none⟩)) (h3 : tmps.getD 3 undef = .pointer (some ⟨eb, 0, none⟩)) (ht : B3 w tb v0 v1 v2) (he : w.heap[eb]? = some (.cells #[ev] 30 (0, 0))) :
    (results Tryd.f19 tmps).run Tryd.prog w = .ok (.tuple #[.agg #[v0, v1, v2], ev]) w := by
  have h24 : (Tryd.prog.info? 24).map (fun i => i.size) = some (#[v0, v1, v2] : Array Value).size := by kernel_rfl
  have hl := run_loadVar_row (P := Tryd.prog) w tb 24 24 #[v0, v1, v2] (0, 0) _ ht Tryd.underlying24 rfl h24
  have h2' : tmps[2]?.getD undef = .pointer (some ⟨tb, 0, none⟩) := by simpa using h2
  have h3' : tmps[3]?.getD undef = .pointer (some ⟨eb, 0, none⟩) := by simpa using h3
  have hc := Joins.cell_of_block he 0
  simp at hc
  have hl2 : (loadVar 30 ⟨eb, 0, none⟩).run Tryd.prog w = .ok ev w := by simp [loadVar, isAgg, underlying, Tryd.underlying30, hc, Result.andThen]
  simp [results, Tryd.results19, h2', h3', asAddr, hl, hl2, Result.andThen]
/-- what comes of nothing -/
abbrev noP (code : Int) : Ending := .returned (.tuple #[.agg #[nilS, zI, zI], .int .i64 code])
set_option maxHeartbeats 2000000 in
theorem load19_long {w : World} {ad : Option Addr} {n c : Nat} (h : 8388608 < n) : Calls Tryd.prog 19 #[.slice ad n c] w fun e w' => e = noP 2 ∧ Below w.heap.size w w' := by
  have hb : decide (8388608 < (n : Int)) = true := by simp; omega
  have hb2 : (8388608 : Int) < (n : Int) := by omega
  go_enter_defers Tryd.func19, Tryd.ntmps19
  go_wp2
  refine ⟨_, res19 _ _ w.heap.size (w.heap.size + 1) nilS zI zI (.int .i64 2) rfl rfl ?_ ?_, rfl, ?_⟩
  · exact (heap_alloc_old _ _ (by simp)).trans (heap_alloc_new w _)
  · have := heap_alloc_new (w.alloc (.cells #[nilS, zI, zI] 24)) (.cells #[.int .i64 2] 30)
    simpa using this
  · exact Joins.below_alloc2 w _ _
/-- what is read is no program -/
theorem load19_gave {w : World} {ad : Option Addr} {n c : Nat} (h : ¬ 8388608 < n) (HR : ∀ W, Below w.heap.size w W → Calls Tryd.prog 36 #[.slice ad n c] W fun e w' => e = Broke ∧ Below W.heap.size W w') :
    Calls Tryd.prog 19 #[.slice ad n c] w fun e w' => e = noP 101 ∧ Below w.heap.size w w' := by
  have hb : decide (8388608 < (n : Int)) = false := by simp; omega
  have hb2 : ¬ (8388608 : Int) < (n : Int) := by omega
  have hmf : ∀ (fn : Fn) (first cap : Array Value) (w : World), (Instr.makeFunc fn first cap).run Tryd.prog w = .ok (.func fn first cap) w := fun _ _ _ _ => rfl
  have B0 : Below w.heap.size w ((w.alloc (.cells #[nilS, zI, zI] 24)).alloc (.cells #[zI] 30)) := Joins.below_alloc2 w _ _
  have C1 := HR _ B0
  go_enter_defers Tryd.func19, Tryd.ntmps19
  go_wp2_with (go_at_call 36; (with_reducible refine C1.mono ?_); rintro e w2 ⟨rfl, B2⟩)
  have htb : B3 w2 w.heap.size nilS zI zI := (B2.block _ (by simp; omega)).trans ((heap_alloc_old _ _ (by simp)).trans (heap_alloc_new w _))
  have heb : w2.heap[w.heap.size + 1]? = some (.cells #[zI] 30 (0, 0)) := (B2.block _ (by simp)).trans (by have := heap_alloc_new (w.alloc (.cells #[nilS, zI, zI] 24)) (.cells #[zI] 30); simpa using this)
  have BB : Below w.heap.size w w2 := B0.trans (Joins.below_le B2 (by simp; omega))
  refine leaves_cons (f := 35) (args := #[.pointer (some ⟨w.heap.size, 0, none⟩), .pointer (some ⟨w.heap.size + 1, 0, none⟩)]) (by simp) (by simp [go_sem]) ?_
  refine (defer35_gave w.heap.size (w.heap.size + 1) nilS zI zI zI [] w2 htb heb (by omega)).mono ?_
  rintro e u' w3 ⟨rfl, rfl, h1, h2, F3⟩
  refine ⟨_, res19 _ _ w.heap.size (w.heap.size + 1) nilS zI zI _ rfl rfl h1 h2, rfl, ⟨F3.os.trans BB.os, F3.tape.trans BB.tape, F3.output.trans BB.output, Nat.le_trans BB.size F3.size, fun j hj => ?_⟩⟩
  have := BB.size
  exact (F3.block j (by omega) (by omega) (by omega)).trans (BB.block j hj)
set_option maxHeartbeats 4000000 in
/-- what is read is a program -/
theorem load19_fine {w : World} {Q0 : List In → Int → Int → Prop} {ad : Option Addr} {n c : Nat} (h : ¬ 8388608 < n) (HR : ∀ W, Below w.heap.size w W → w.heap.size + 2 ≤ W.heap.size → Calls Tryd.prog 36 #[.slice ad n c] W fun e w' => ∃ g s k J MS, e = .returned (pv (some ⟨g, 0, none⟩) J.length J.length s k) ∧ Below W.heap.size W w' ∧ PO w' W.heap.size (rowv g J.length) J MS ∧ Q0 J s k) :
    Calls Tryd.prog 19 #[.slice ad n c] w fun e w' => ∃ g s k J MS, e = .returned (.tuple #[pv (some ⟨g, 0, none⟩) J.length J.length s k, zI]) ∧ Below w.heap.size w w' ∧ PO w' w.heap.size (rowv g J.length) J MS ∧ Q0 J s k := by
  have hb : decide (8388608 < (n : Int)) = false := by simp; omega
  have hb2 : ¬ (8388608 : Int) < (n : Int) := by omega
  have hmf : ∀ (fn : Fn) (first cap : Array Value) (w : World), (Instr.makeFunc fn first cap).run Tryd.prog w = .ok (.func fn first cap) w := fun _ _ _ _ => rfl
  have B0 : Below w.heap.size w ((w.alloc (.cells #[nilS, zI, zI] 24)).alloc (.cells #[zI] 30)) := Joins.below_alloc2 w _ _
  have C1 := HR _ B0 (by simp)
  go_enter_defers Tryd.func19, Tryd.ntmps19
  go_wp2_with (go_at_call 36; (with_reducible refine C1.mono ?_); rintro e w2 ⟨g, s, k, J, MS, rfl, B2, hpo, hq⟩; have htb : B3 w2 w.heap.size nilS zI zI := (B2.block _ (by simp; omega)).trans ((heap_alloc_old _ _ (by simp)).trans (heap_alloc_new w _)); have heb : w2.heap[w.heap.size + 1]? = some (.cells #[zI] 30 (0, 0)) := (B2.block _ (by simp)).trans (by have := heap_alloc_new (w.alloc (.cells #[nilS, zI, zI] 24)) (.cells #[zI] 30); simpa using this); have BB : Below w.heap.size w w2 := B0.trans (Joins.below_le B2 (by simp; omega)); obtain ⟨q0, q1, q2⟩ := three_cells htb; obtain ⟨f0, f1, f2⟩ := frz3 htb; have k0 : w2.cell? ⟨w.heap.size + 1, 0, none⟩ = some (.int .i64 0) := Joins.cell_of_block heb 0; have g0 := Joins.unfrozen_of_block heb 0)
  refine leaves_cons (f := 35) (args := #[.pointer (some ⟨w.heap.size, 0, none⟩), .pointer (some ⟨w.heap.size + 1, 0, none⟩)]) (by simp) (by simp [go_sem]) ?_
  have G3 := fr2_of (V := .int .i64 0) B2 htb heb (by omega) (.slice (some ⟨g, 0, none⟩) J.length J.length) (.int .i64 s) (.int .i64 k)
  refine (defer35_idle w.heap.size (w.heap.size + 1) _).mono ?_
  rintro e u' w3 ⟨rfl, rfl, rfl⟩
  refine ⟨_, res19 _ _ w.heap.size (w.heap.size + 1) _ _ _ _ rfl rfl G3.1 G3.2.1, g, s, k, J, MS, rfl, ?_, ?_, hq⟩
  · have F := G3.2.2
    refine ⟨F.os.trans B0.os, F.tape.trans B0.tape, F.output.trans B0.output, Nat.le_trans B0.size F.size, fun j hj => ?_⟩
    exact (F.block j (by have := B0.size; omega) (by omega) (by omega)).trans (B0.block j hj)
  · refine (hpo.kept (fun b h1 h2 => ?_)).wide (by simp; omega)
    simp at h1
    exact (Below.heap_setCell _ _ _ _ (show b ≠ w.heap.size + 1 by omega)).trans (set3_old (by omega) _ _ _)
/-- what Load answers -/
def LoadAns (l : List Nat) (w : World) (e : Ending) (w' : World) : Prop := Below w.heap.size w w' ∧
  ((8388608 < l.length ∧ e = noP 2) ∨ (l.length ≤ 8388608 ∧ loadP C3 5000 20000 l = none ∧ e = noP 101) ∨ (l.length ≤ 8388608 ∧ ∃ g s k J MS, loadP C3 5000 20000 l = some (J, s, k) ∧ e = .returned (.tuple #[pv (some ⟨g, 0, none⟩) J.length J.length s k, zI]) ∧ PO w' w.heap.size (rowv g J.length) J MS))
theorem load19 {w : World} {ad : Option Addr} {n c : Nat} {l : List Nat} (h : BA w w.heap.size ad l) (hn : n = l.length) (hcp : n ≤ c) (hcm : c ≤ 9223372036854775807) (hlt : ∀ x ∈ l, x < 256) : Calls Tryd.prog 19 #[.slice ad n c] w (LoadAns l w) := by
  by_cases h8 : 8388608 < n
  · refine (load19_long (ad := ad) (c := c) h8).mono ?_
    rintro e w' ⟨rfl, hb⟩
    exact ⟨hb, .inl ⟨by omega, rfl⟩⟩
  · have C36 : ∀ W, Below w.heap.size w W → _ := fun W hW => ofBytes36 (w := W) (ad := ad) (c := c) (h.kept hW.block hW.size) hn (by omega) hcp hcm hlt
    cases hl : loadP C3 5000 20000 l with
    | none =>
      refine (load19_gave (ad := ad) (c := c) h8 (fun W hW => (C36 W hW).mono ?_)).mono ?_
      · rintro e w' ⟨hb, ⟨_, rfl⟩ | ⟨J, s, k, g, MS, h2, _⟩⟩
        · exact ⟨rfl, hb⟩
        · rw [hl] at h2; cases h2
      · rintro e w' ⟨rfl, hb⟩
        exact ⟨hb, .inr (.inl ⟨by omega, hl, rfl⟩)⟩
    | some p =>
      obtain ⟨J0, s0, k0⟩ := p
      refine (load19_fine (ad := ad) (c := c) (Q0 := fun J s k => loadP C3 5000 20000 l = some (J, s, k)) h8 (fun W hW _ => (C36 W hW).mono ?_)).mono ?_
      · rintro e w' ⟨hb, ⟨h2, _⟩ | ⟨J, s, k, g, MS, h2, rfl, hpo⟩⟩
        · rw [hl] at h2; cases h2
        · exact ⟨g, s, k, J, MS, rfl, hb, hpo, h2⟩
      · rintro e w' ⟨g, s, k, J, MS, rfl, hb, hpo, hq⟩
        exact ⟨hb, .inr (.inr ⟨by omega, g, s, k, J, MS, hq, rfl, hpo⟩)⟩
end Go.Proofs.YteanndophopplaaDoor
