/- HELPERS: what holds through the loops of ownBytes. -/
import Derived.Test.YtjglehklfdhgaaaDoorOwnG
namespace Go.Proofs.YtjglehklfdhgaaaDoor
open Go.RowKit Go.Mx
set_option linter.unusedVariables false
set_option linter.unusedSimpArgs false
/-- rows of one-cell elements of type E, in slices of type T, n of them; they lie as values in the block g; mk j is the j-th row's mark -/
structure Rws (E T : TypeId) (base g n : Nat) (v : Nat → Value) (len : Nat → Nat) (mk : Nat → Value) (w0 : World) : Prop where
  hg : g < w0.heap.size
  hgb : base ≤ w0.heap.size
  hd : ∀ i j, i < n → j < n → i ≠ j → ∀ b, (v i).ownBlock = some b → (v j).ownBlock ≠ some b
  hgv : ∀ j, j < n → (v j).ownBlock ≠ some g
  hlt : ∀ j, j < n → ∀ b, (v j).ownBlock = some b → base ≤ b ∧ b < w0.heap.size
  hone : ∀ j, (mk j).oneCell' = true
theorem own_kept {w w' : World} {base e n : Nat} {v : Value} {xs : List Value} (h : w.ownsRow base e 1 v n xs) (hk : ∀ b, v.ownBlock = some b → w'.heap[b]? = w.heap[b]?) : w'.ownsRow base e 1 v n xs := by
  refine ⟨h.1, ?_⟩
  rcases h.2 with hn | ⟨g, cap, cur, hv, hb, hg, rest⟩
  · exact .inl hn
  · exact .inr ⟨g, cap, cur, hv, hb, by rw [hk g (by rw [hv]; rfl)]; exact hg, rest⟩
section
variable {E T : TypeId} {base g n : Nat} {v : Nat → Value} {len : Nat → Nat} {mk : Nat → Value} {w0 : World}
/-- the first loops -/
structure I1 (E : TypeId) (base g n : Nat) (v : Nat → Value) (len : Nat → Nat) (w0 : World) (X : Nat → List Value) (w : World) : Prop where
  own : ∀ j, j < n → w.ownsRow base E 1 (v j) (len j) (X j)
  cel : ∀ j, j < n → w.cell? ⟨g, j, none⟩ = some (v j)
  siz : w.heap.size = w0.heap.size
  bel : Below base w0 w
def upd (X : Nat → List Value) (i : Nat) (l : List Value) : Nat → List Value := fun j => if j = i then l else X j
theorem I1.step {X : Nat → List Value} {w : World} (R : Rws E T base g n v len mk w0) (h : I1 E base g n v len w0 X w) {i k b cap : Nat} (hi : i < n) (hv : v i = .slice (some ⟨b, 0, none⟩) (len i) cap) (c : Value) :
    I1 E base g n v len w0 (upd X i ((X i).set k c)) (w.setCell ⟨b, k, none⟩ c) := by
  have hb : (v i).ownBlock = some b := by rw [hv]; rfl
  have hlt := R.hlt i hi b hb
  refine ⟨fun j hj => ?_, fun j hj => ?_, by simp [World.setCell, h.siz], h.bel.setCell hlt.1 _⟩
  · unfold upd
    split
    · rename_i e
      subst e
      have h1 := h.own j hj
      rw [hv] at h1 ⊢
      exact (h1.stored k c).1
    · rename_i e
      refine own_kept (h.own j hj) (fun b' hb' => heap_setCell_other w ⟨b, k, none⟩ b' c ?_)
      intro e2
      exact R.hd i j hi hj (fun e3 => e e3.symm) b hb (by rw [hb', e2])
  · rw [World.cell?_of_block (a := ⟨g, j, none⟩) (heap_setCell_other w ⟨b, k, none⟩ g c (fun e => R.hgv i hi (by rw [hb, e])))]
    exact h.cel j hj
def cnt (len : Nat → Nat) (q : Nat) : Nat := len (q / 2) + (if q % 2 = 0 then 40 else 0)
/-- where a value's block lies to the rest -/
def Sep (n : Nat) (v : Nat → Value) (w : World) (long : Value) (i : Nat) (x : Value) : Prop := ∀ b, x.ownBlock = some b → b < w.heap.size ∧ long.ownBlock ≠ some b ∧ ∀ t, i ≤ t → t < n → (v t).ownBlock ≠ some b
/-- the rows that are still to come, and what was kept -/
structure I3 (E T : TypeId) (base g n : Nat) (v : Nat → Value) (len : Nat → Nat) (mk : Nat → Value) (w0 : World) (i i' : Nat) (long : Value) (L : List Value) (w : World) : Prop where
  own : ∀ j, i' ≤ j → j < n → w.ownsRow base E 1 (v j) (len j) (List.replicate (len j) (mk j))
  cel : ∀ j, j < n → w.cell? ⟨g, j, none⟩ = some (v j)
  lon : w.ownsRow w0.heap.size T 1 long (2 * i) L
  mar : ∀ q, q < 2 * i → Mark w (L.getD q undef) (cnt len q) (mk (q / 2)) ∧ Sep n v w long i (L.getD q undef)
  siz : w0.heap.size ≤ w.heap.size
  bel : Below base w0 w
/-- what stays as it was where only one block, that of none of these, is written -/
theorem I3.kept {i i' : Nat} {long : Value} {L : List Value} {w w' : World} (R : Rws E T base g n v len mk w0) (h : I3 E T base g n v len mk w0 i i' long L w) (row : Option Nat)
    (hk : ∀ k, k < w.heap.size → row ≠ some k → w'.heap[k]? = w.heap[k]?) (hsz : w.heap.size ≤ w'.heap.size) (hb : Below base w0 w')
    (h1 : ∀ j, i' ≤ j → j < n → ∀ b, (v j).ownBlock = some b → row ≠ some b) (h2 : row ≠ some g) (h3 : ∀ b, long.ownBlock = some b → row ≠ some b) (h4 : ∀ q, q < 2 * i → ∀ b, (L.getD q undef).ownBlock = some b → row ≠ some b) :
    I3 E T base g n v len mk w0 i i' long L w' := by
  refine ⟨fun j hj hjn => own_kept (h.own j hj hjn) (fun b hb' => hk b (by have := (R.hlt j hjn b hb').2; have := h.siz; omega) (h1 j hj hjn b hb')), fun j hj => ?_, own_kept h.lon (fun b hb' => hk b (h.lon.lt b hb').2 (h3 b hb')), fun q hq => ?_, by have := h.siz; omega, hb⟩
  · rw [World.cell?_of_block (a := ⟨g, j, none⟩) (hk g (by have := R.hg; have := h.siz; omega) h2)]
    exact h.cel j hj
  · obtain ⟨hm, hs⟩ := h.mar q hq
    refine ⟨hm.kept (fun b hb' => hk b (hs b hb').1 (h4 q hq b hb')), fun b hb' => ?_⟩
    obtain ⟨s1, s2, s3⟩ := hs b hb'
    exact ⟨by omega, s2, s3⟩
/-- the row that grows -/
structure I4 (E T : TypeId) (base g n : Nat) (v : Nat → Value) (len : Nat → Nat) (mk : Nat → Value) (w0 : World) (i t : Nat) (long : Value) (L : List Value) (x : Value) (w : World) : Prop where
  inv : I3 E T base g n v len mk w0 i (i + 1) long L w
  mar : Mark w (v i) (len i) (mk i)
  own : w.ownsRow base E 1 x (len i + t) (List.replicate (len i + t) (mk i))
  blk : x.ownBlock = (v i).ownBlock ∨ ∃ b, x.ownBlock = some b ∧ w0.heap.size ≤ b ∧ long.ownBlock ≠ some b ∧ ∀ q, q < 2 * i → (L.getD q undef).ownBlock ≠ some b
theorem I4.start {i : Nat} {long : Value} {L : List Value} {w : World} (h : I3 E T base g n v len mk w0 i i long L w) (hi : i < n) : I4 E T base g n v len mk w0 i 0 long L (v i) w :=
  ⟨⟨fun j hj hjn => h.own j (by omega) hjn, h.cel, h.lon, h.mar, h.siz, h.bel⟩, mark_own (h.own i (Nat.le_refl _) hi), h.own i (Nat.le_refl _) hi, .inl rfl⟩
theorem form_head {w : World} {base e n : Nat} {v : Value} {xs : List Value} (h : w.ownsRow base e 1 v n xs) : (∃ ad cap, v = .slice ad n cap) ∧ ∀ ad cap, v = .slice ad n cap → 0 < n → ∃ b, ad = some ⟨b, 0, none⟩ := by
  rcases Joins.ownsRow_forms h with ⟨rfl, h0⟩ | ⟨g, cap, rfl⟩
  · refine ⟨⟨none, 0, by rw [h0]⟩, fun ad cap he hp => by omega⟩
  · refine ⟨⟨_, cap, rfl⟩, fun ad cap' he _ => ?_⟩
    simp only [Value.slice.injEq] at he
    exact ⟨g, he.1.symm⟩
theorem I4.step {i t : Nat} {long x x' : Value} {L : List Value} {w w' : World} {o : Obj} (R : Rws E T base g n v len mk w0) (h : I4 E T base g n v len mk w0 i t long L x w) (hi : i < n)
    (hf : ∃ ad cap, v i = .slice ad (len i) cap) (hfb : ∀ ad cap, v i = .slice ad (len i) cap → 0 < len i → ∃ b, ad = some ⟨b, 0, none⟩)
    (ho : w'.ownsRow base E 1 x' (len i + t + 1) (List.replicate (len i + t) (mk i) ++ [mk i])) (hm : Moved (w.alloc o) w' x x') : I4 E T base g n v len mk w0 i (t + 1) long L x' w' := by
  have ho' : w'.ownsRow base E 1 x' (len i + (t + 1)) (List.replicate (len i + (t + 1)) (mk i)) := by
    rw [← List.replicate_succ'] at ho
    exact ho
  have hsa : (w.alloc o).heap.size = w.heap.size + 1 := by simp
  have hBx : ∀ k, x.ownBlock = some k → base ≤ k ∧ k < w.heap.size := fun k hk => h.own.lt k hk
  -- which blocks are as they were
  have hkeep : ∀ k, k < w.heap.size → x.ownBlock ≠ some k → w'.heap[k]? = w.heap[k]? := by
    intro k hk hne
    have ha : (w.alloc o).heap[k]? = w.heap[k]? := heap_alloc_old w o hk
    rcases hm with ⟨_, hg⟩ | ⟨_, hg⟩
    · rw [hg.block k (by omega) (fun e => hne e.symm), ha]
    · rw [hg.block k (by omega) (by simp), ha]
  have hsz : w.heap.size ≤ w'.heap.size := by
    rcases hm with ⟨_, hg⟩ | ⟨_, hg⟩ <;> (have := hg.size; omega)
  have hbel : Below base w0 w' := by
    have hb0 : Below base w0 (w.alloc o) := h.inv.bel.alloc (by have := R.hgb; have := h.inv.siz; omega) o
    have hbs : base ≤ (w.alloc o).heap.size := by have := R.hgb; have := h.inv.siz; omega
    rcases hm with ⟨_, hg⟩ | ⟨_, hg⟩
    · exact hb0.grown hg hbs (fun k hk => (hBx k hk).1)
    · exact hb0.grown hg hbs (fun k hk => by cases hk)
  have hlong : ∀ b, long.ownBlock = some b → w0.heap.size ≤ b ∧ b < w.heap.size := fun b hb => h.inv.lon.lt b hb
  have hinv : I3 E T base g n v len mk w0 i (i + 1) long L w' := by
    refine h.inv.kept R x.ownBlock hkeep hsz hbel ?_ ?_ ?_ ?_
    · intro j hj hjn b hb e
      rcases h.blk with hx | ⟨b', hx, hb1, _, _⟩
      · exact R.hd i j hi hjn (by omega) b (by rw [← hx]; exact e) hb
      · have := (R.hlt j hjn b hb).2
        rw [hx] at e
        injection e with e
        omega
    · intro e
      rcases h.blk with hx | ⟨b', hx, hb1, _, _⟩
      · exact R.hgv i hi (by rw [← hx]; exact e)
      · have := R.hg
        rw [hx] at e
        injection e with e
        omega
    · intro b hb e
      rcases h.blk with hx | ⟨b', hx, _, hl, _⟩
      · have h1 := hlong b hb
        have h2 := (R.hlt i hi b (by rw [← hx]; exact e)).2
        omega
      · rw [hx] at e
        exact hl (by rw [hb, e])
    · intro q hq b hb e
      rcases h.blk with hx | ⟨b', hx, _, _, hl⟩
      · exact ((h.inv.mar q hq).2 b hb).2.2 i (Nat.le_refl _) hi (by rw [← hx]; exact e)
      · rw [hx] at e
        exact hl q hq (by rw [hb, e])
  refine ⟨hinv, ?_, ho', ?_⟩
  · by_cases hsame : x.ownBlock = (v i).ownBlock
    · rcases hm with ⟨h5, hg⟩ | ⟨h5, hg⟩
      · exact mark_head ho' (by omega) hf hfb (by rw [h5, hsame])
      · refine h.mar.kept (fun b hb => ?_)
        have hbl := (R.hlt i hi b hb).2
        have := h.inv.siz
        rw [hg.block b (by omega) (by simp), heap_alloc_old w o (by omega)]
    · refine h.mar.kept (fun b hb => hkeep b (by have := (R.hlt i hi b hb).2; have := h.inv.siz; omega) (fun e => hsame (by rw [hb, e])))
  · rcases hm with ⟨h5, hg⟩ | ⟨h5, hg⟩
    · rw [h5]; exact h.blk
    · right
      have := h.inv.siz
      refine ⟨_, h5, by omega, fun e => ?_, fun q hq e => ?_⟩
      · have := (hlong _ e).2; omega
      · have := ((h.inv.mar q hq).2 _ e).1; omega
/-- the two that are put behind -/
theorem I4.put {i : Nat} {long long' x : Value} {L : List Value} {w w' : World} {o : Obj} (R : Rws E T base g n v len mk w0) (h : I4 E T base g n v len mk w0 i 40 long L x w) (hi : i < n)
    (ho : w'.ownsRow w0.heap.size T 1 long' (2 * i + 2) (L ++ [x, v i])) (hm : Moved (w.alloc o) w' long long') : I3 E T base g n v len mk w0 (i + 1) (i + 1) long' (L ++ [x, v i]) w' := by
  have hsa : (w.alloc o).heap.size = w.heap.size + 1 := by simp
  have hlong : ∀ b, long.ownBlock = some b → w0.heap.size ≤ b ∧ b < w.heap.size := fun b hb => h.inv.lon.lt b hb
  have hsiz := h.inv.siz
  have hkeep : ∀ k, k < w.heap.size → long.ownBlock ≠ some k → w'.heap[k]? = w.heap[k]? := by
    intro k hk hne
    have ha : (w.alloc o).heap[k]? = w.heap[k]? := heap_alloc_old w o hk
    rcases hm with ⟨_, hg⟩ | ⟨_, hg⟩
    · rw [hg.block k (by omega) (fun e => hne e.symm), ha]
    · rw [hg.block k (by omega) (by simp), ha]
  have hsz : w.heap.size ≤ w'.heap.size := by
    rcases hm with ⟨_, hg⟩ | ⟨_, hg⟩ <;> (have := hg.size; omega)
  have hbel : Below base w0 w' := by
    have hb0 : Below base w0 (w.alloc o) := h.inv.bel.alloc (by have := R.hgb; omega) o
    have hbs : base ≤ (w.alloc o).heap.size := by have := R.hgb; omega
    rcases hm with ⟨_, hg⟩ | ⟨_, hg⟩
    · exact hb0.grown hg hbs (fun k hk => by have := (hlong k hk).1; have := R.hgb; omega)
    · exact hb0.grown hg hbs (fun k hk => by cases hk)
  have hlong' : ∀ b, long'.ownBlock = some b → w0.heap.size ≤ b := fun b hb => (ho.lt b hb).1
  have hneL : ∀ b, b < w.heap.size → long.ownBlock ≠ some b → long'.ownBlock ≠ some b := by
    intro b hb hne
    rcases hm with ⟨h5, _⟩ | ⟨h5, _⟩
    · rw [h5]; exact hne
    · rw [h5]; intro e; injection e with e; omega
  have hvi : ∀ j, j < n → ∀ b, (v j).ownBlock = some b → b < w.heap.size ∧ long.ownBlock ≠ some b := fun j hj b hb => by
    have h1 := (R.hlt j hj b hb).2
    exact ⟨by omega, fun e => by have := (hlong b e).1; omega⟩
  have hx : ∀ b, x.ownBlock = some b → b < w.heap.size ∧ long.ownBlock ≠ some b ∧ ∀ t, i + 1 ≤ t → t < n → (v t).ownBlock ≠ some b := by
    intro b hb
    have hlt := (h.own.lt b hb).2
    rcases h.blk with hxv | ⟨b', hxb, hb1, hl, _⟩
    · rw [hxv] at hb
      exact ⟨hlt, (hvi i hi b hb).2, fun t ht htn => R.hd i t hi htn (by omega) b hb⟩
    · rw [hxb] at hb
      injection hb with hb
      subst hb
      exact ⟨hlt, hl, fun t ht htn e => by have := (R.hlt t htn _ e).2; omega⟩
  have hLl : L.length = 2 * i := by have := h.inv.lon.1; omega
  refine ⟨fun j hj hjn => own_kept (h.inv.own j hj hjn) (fun b hb => hkeep b (hvi j hjn b hb).1 (hvi j hjn b hb).2), fun j hj => ?_, ?_, fun q hq => ?_, by omega, hbel⟩
  · rw [World.cell?_of_block (a := ⟨g, j, none⟩) (hkeep g (by have := R.hg; omega) (fun e => by have := (hlong g e).1; have := R.hg; omega))]
    exact h.inv.cel j hj
  · exact ho
  · by_cases h1 : q < 2 * i
    · have e : (L ++ [x, v i]).getD q undef = L.getD q undef := by simp [List.getD_eq_getElem?_getD, List.getElem?_append_left (show q < L.length by omega)]
      rw [e]
      obtain ⟨hmk, hs⟩ := h.inv.mar q h1
      refine ⟨hmk.kept (fun b hb => hkeep b (hs b hb).1 (hs b hb).2.1), fun b hb => ?_⟩
      obtain ⟨s1, s2, s3⟩ := hs b hb
      exact ⟨by omega, hneL b s1 s2, fun t ht htn => s3 t (by omega) htn⟩
    · by_cases h2 : q = 2 * i
      · subst h2
        have e : (L ++ [x, v i]).getD (2 * i) undef = x := by simp [List.getD_eq_getElem?_getD, ← hLl]
        have ec : cnt len (2 * i) = len i + 40 := by unfold cnt; rw [show 2 * i / 2 = i by omega, show 2 * i % 2 = 0 by omega]; rfl
        rw [e, ec, show 2 * i / 2 = i by omega]
        refine ⟨(mark_own h.own).kept (fun b hb => hkeep b (hx b hb).1 (hx b hb).2.1), fun b hb => ?_⟩
        obtain ⟨s1, s2, s3⟩ := hx b hb
        exact ⟨by omega, hneL b s1 s2, s3⟩
      · have h3 : q = 2 * i + 1 := by omega
        subst h3
        have e : (L ++ [x, v i]).getD (2 * i + 1) undef = v i := by simp [List.getD_eq_getElem?_getD, ← hLl]
        have ec : cnt len (2 * i + 1) = len i := by unfold cnt; rw [show (2 * i + 1) / 2 = i by omega, show (2 * i + 1) % 2 = 1 by omega]; rfl
        rw [e, ec, show (2 * i + 1) / 2 = i by omega]
        refine ⟨h.mar.kept (fun b hb => hkeep b (hvi i hi b hb).1 (hvi i hi b hb).2), fun b hb => ?_⟩
        exact ⟨by have := (hvi i hi b hb).1; omega, hneL b (hvi i hi b hb).1 (hvi i hi b hb).2, fun t ht htn => R.hd i t hi htn (by omega) b hb⟩
end
end Go.Proofs.YtjglehklfdhgaaaDoor
