/- HELPERS: what holds through the loops of ownRanges. Made by tools/genownranges.py. -/
import Derived.Test.YtjglehklfdhgaaaDoorDcK
import Derived.Test.YtjglehklfdhgaaaDoorOwnB
namespace Go.Proofs.YtjglehklfdhgaaaDoor
open Go.RowKit Go.Mx
set_option linter.unusedVariables false
set_option linter.unusedSimpArgs false
def mk0 (_ : Nat) : Value := .int .i64 0
theorem fl_setP (L : List (Int × Int)) (k : Nat) (c : Int × Int) (hk : k < L.length) : fl (L.set k c) = ((fl L).set (k * 2) (.int .i64 c.1)).set (k * 2 + 1) (.int .i64 c.2) := by
  induction L generalizing k with
  | nil => simp at hk
  | cons x t ih =>
    cases k with
    | zero => simp [fl, encR]
    | succ k =>
      have h := ih k (by simpa using hk)
      simp only [fl, List.set_cons_succ, List.flatMap_cons, encR] at h ⊢
      rw [h, show (k + 1) * 2 = k * 2 + 1 + 1 by omega]
      simp
theorem run_append_move2 {P : Program} (w : World) (base : Nat) (t ty e : TypeId) (i : TypeInfo) (z : Value) (bytes : Nat) (ht : P.underlying t = some (.slice e)) (hi : P.info? e = some i) (hz : i.zero = some z)
    (hsize : i.size = 2) (hby : i.bytes = bytes) (hzs : z.cells.size = 2)
    (v : Value) (n : Nat) (xs : List Value) (hown : w.ownsRow base e 2 v n xs)
    (a : Addr) (m c : Nat) (news : List Value) (hl : news.length = m * 2) (hm : 0 < m) (hnews : ∀ j u, news[j]? = some u → w.cell? (a.add j) = some u) (h1 : ∀ u ∈ news, u.oneCell' = true)
    (h63 : n + m ≤ maxLen) (hbytes : (n + m) * bytes ≤ 140737488355328) (hbase : base ≤ w.heap.size) :
    ∃ v' w', (Builtin.append_ #[t, t] ty #[v, .slice (some a) m c]).run P w = .ok v' w' ∧ w'.ownsRow base e 2 v' (n + m) (xs ++ news) ∧ Moved w w' v v' := by
  obtain ⟨v', w', hrun, h2, h3, h4, h5⟩ := run_append_own_at (P := P) w base t ty e i z 2 bytes ht hi hz hsize hby hzs (by decide) v n xs hown a m c news (by omega) hnews h1 h63 hbytes hbase
  refine ⟨v', w', hrun, h2, ?_⟩
  rcases hown.2 with ⟨rfl, rfl⟩ | ⟨g, cap, cur, rfl, hbg, hg, hnc, hcm, hcs, htake⟩
  · rcases h5 with h5 | h5
    · exact .inl ⟨h5, h3⟩
    · exact .inr ⟨h5, h3⟩
  · by_cases hroom : n + m ≤ cap
    · have hr := run_append_room (P := P) w t ty e i ht hi g n cap cur hg a m c news (by rw [hsize]; omega) hnews h1 hroom (by rw [hsize, hcs]; omega)
      have he := hrun.symm.trans hr
      injection he with e1 e2
      left
      exact ⟨by rw [e1]; rfl, h3⟩
    · have holds : ∀ j u, xs[j]? = some u → w.cell? ((⟨g, 0, none⟩ : Addr).add j) = some u := hown.cells (g := g) rfl
      have hr := run_append_grow (P := P) w t ty e i z ht hi hz ⟨g, 0, none⟩ n cap xs (by rw [hsize]; exact hown.1) holds a m c news (by rw [hsize]; omega) hnews (by omega) (by unfold maxLen at h63; omega) (growslice_fits (by omega) (by rw [hby]; exact hbytes))
      have he := hrun.symm.trans hr
      injection he with e1 e2
      right
      refine ⟨by rw [e1]; rfl, ?_⟩
      rw [e2]
      exact ⟨rfl, rfl, rfl, by simp, fun k hk _ => heap_alloc_old w.drew _ hk⟩
theorem wpList_append_move2 {P : Program} {w : World} {ops : Array Oper} {rest : List Oper} {o : Oper} {a : Act} {Q : Exit → Act → World → Prop} (hgd : o.guard = none) (s x : Operand) (t : TypeId)
    (ho : o.op = .call { callee := .builtin .append, args := #[s, x], argTypes := #[t, t] })
    (base : Nat) (e : TypeId) (i : TypeInfo) (z : Value) (bytes : Nat) (ht : P.underlying t = some (.slice e)) (hi : P.info? e = some i) (hz : i.zero = some z)
    (hsize : i.size = 2) (hby : i.bytes = bytes) (hzs : z.cells.size = 2)
    (v : Value) (n : Nat) (xs : List Value) (hs : a.eval s = v) (hown : w.ownsRow base e 2 v n xs)
    (ad : Addr) (m c : Nat) (news : List Value) (hx : a.eval x = .slice (some ad) m c) (hl : news.length = m * 2) (hm : 0 < m) (hnews : ∀ j u, news[j]? = some u → w.cell? (ad.add j) = some u) (h1 : ∀ u ∈ news, u.oneCell' = true)
    (h63 : n + m ≤ maxLen) (hbytes : (n + m) * bytes ≤ 140737488355328) (hbase : base ≤ w.heap.size)
    (h : ∀ v' w', Hid (w'.ownsRow base e 2 v' (n + m) (xs ++ news)) → Hid (Moved w w' v v') → wpList P ops Q rest (a.put o.dst v') w') : wpList P ops Q (o :: rest) a w := by
  refine wpList_plain hgd fun K hK => ?_
  obtain ⟨v', w', hr, h2, h3⟩ := run_append_move2 (P := P) w base t o.type e i z bytes ht hi hz hsize hby hzs v n xs hown ad m c news hl hm hnews h1 h63 hbytes hbase
  unfold Oper.wp execOp
  simp only [ho, resolve, invoke, builtin, Sem.run_bind, Sem.run_pure, Result.andThen_ok, List.map_toArray, List.map_cons, List.map_nil, hs, hx, hr]
  exact hK _ _ (h v' w' h2 h3)
/-- all n ranges of a slice are c -/
def MarkP (w : World) (v : Value) (n : Nat) (c : Int × Int) : Prop := ∃ ad cap, v = .slice ad n cap ∧ (n = 0 ∨ ∃ b, ad = some ⟨b, 0, none⟩ ∧ ∀ k, k < n → w.cell? ⟨b, k * 2, none⟩ = some (.int .i64 c.1) ∧ w.cell? ⟨b, k * 2 + 1, none⟩ = some (.int .i64 c.2))
theorem MarkP.kept {w w' : World} {v : Value} {n : Nat} {c : Int × Int} (h : MarkP w v n c) (hk : ∀ b, v.ownBlock = some b → w'.heap[b]? = w.heap[b]?) : MarkP w' v n c := by
  obtain ⟨ad, cap, rfl, h | ⟨b, rfl, hc⟩⟩ := h
  · exact ⟨ad, cap, rfl, .inl h⟩
  · exact ⟨_, cap, rfl, .inr ⟨b, rfl, fun k hk' => ⟨(World.cell?_of_block (a := ⟨b, k * 2, none⟩) (hk b rfl)).trans (hc k hk').1, (World.cell?_of_block (a := ⟨b, k * 2 + 1, none⟩) (hk b rfl)).trans (hc k hk').2⟩⟩⟩
theorem fl_rep (m : Nat) (c : Int × Int) (k : Nat) (hk : k < m) : (fl (List.replicate m c))[k * 2]? = some (.int .i64 c.1) ∧ (fl (List.replicate m c))[k * 2 + 1]? = some (.int .i64 c.2) := by
  have h := fl_getD (List.replicate m c) k (by simpa using hk)
  have e : (List.replicate m c).getD k (0, 0) = c := by simp [List.getD_eq_getElem?_getD, hk]
  rw [e] at h
  exact h
theorem mark_ownP {w : World} {base n : Nat} {v : Value} {c : Int × Int} (h : w.ownsRow base 57 2 v n (fl (List.replicate n c))) : MarkP w v n c := by
  rcases Joins.ownsRow_forms h with ⟨rfl, h0⟩ | ⟨g, cap, rfl⟩
  · exact ⟨none, 0, by rw [h0], .inl h0⟩
  · refine ⟨_, cap, rfl, .inr ⟨g, rfl, fun k hk => ?_⟩⟩
    rw [h.cellAt (k * 2) (by omega), h.cellAt (k * 2 + 1) (by omega)]
    exact fl_rep n c k hk
/-- a shorter slice at the head of an owned row's block -/
theorem mark_headP {w : World} {base n m : Nat} {v g : Value} {c : Int × Int} (h : w.ownsRow base 57 2 g m (fl (List.replicate m c))) (hn : n ≤ m) (hf : ∃ ad cap, v = .slice ad n cap) (hb : ∀ ad cap, v = .slice ad n cap → 0 < n → ∃ b, ad = some ⟨b, 0, none⟩) (hbl : g.ownBlock = v.ownBlock) : MarkP w v n c := by
  obtain ⟨ad, cap, rfl⟩ := hf
  by_cases h0 : n = 0
  · exact ⟨ad, cap, rfl, .inl h0⟩
  · obtain ⟨b, rfl⟩ := hb ad cap rfl (by omega)
    refine ⟨_, cap, rfl, .inr ⟨b, rfl, fun k hk => ?_⟩⟩
    rcases Joins.ownsRow_forms h with ⟨rfl, h1⟩ | ⟨g', cap', rfl⟩
    · simp [Value.ownBlock] at hbl
    · simp only [Value.ownBlock, Option.some.injEq] at hbl
      subst hbl
      rw [h.cellAt (k * 2) (by omega), h.cellAt (k * 2 + 1) (by omega)]
      exact fl_rep m c k (by omega)
theorem form_headP {w : World} {base e size n : Nat} {v : Value} {xs : List Value} (h : w.ownsRow base e size v n xs) : (∃ ad cap, v = .slice ad n cap) ∧ ∀ ad cap, v = .slice ad n cap → 0 < n → ∃ b, ad = some ⟨b, 0, none⟩ := by
  rcases Joins.ownsRow_forms h with ⟨rfl, h0⟩ | ⟨g, cap, rfl⟩
  · refine ⟨⟨none, 0, by rw [h0]⟩, fun ad cap he hp => by omega⟩
  · refine ⟨⟨_, cap, rfl⟩, fun ad cap' he _ => ?_⟩
    simp only [Value.slice.injEq] at he
    exact ⟨g, he.1.symm⟩
section
variable {base g n : Nat} {v : Nat → Value} {len : Nat → Nat} {mk : Nat → Int × Int} {w0 : World}
/-- the first loops -/
structure J1 (base g n : Nat) (v : Nat → Value) (len : Nat → Nat) (w0 : World) (X : Nat → List (Int × Int)) (w : World) : Prop where
  own : ∀ j, j < n → w.ownsRow base 57 2 (v j) (len j) (fl (X j))
  cel : ∀ j, j < n → w.cell? ⟨g, j, none⟩ = some (v j)
  siz : w.heap.size = w0.heap.size
  bel : Below base w0 w
def updP (X : Nat → List (Int × Int)) (i : Nat) (l : List (Int × Int)) : Nat → List (Int × Int) := fun j => if j = i then l else X j
theorem J1.step {X : Nat → List (Int × Int)} {w : World} (R : Rws 57 42 base g n v len mk0 w0) (h : J1 base g n v len w0 X w) {i k b cap : Nat} (hi : i < n) (hk : k < (X i).length) (hv : v i = .slice (some ⟨b, 0, none⟩) (len i) cap) (c : Int × Int) :
    J1 base g n v len w0 (updP X i ((X i).set k c)) ((w.setCell ⟨b, k * 2, none⟩ (.int .i64 c.1)).setCell ⟨b, k * 2 + 1, none⟩ (.int .i64 c.2)) := by
  have hb : (v i).ownBlock = some b := by rw [hv]; rfl
  have hlt := R.hlt i hi b hb
  refine ⟨fun j hj => ?_, fun j hj => ?_, by simp [World.setCell, h.siz], (h.bel.setCell hlt.1 _).setCell hlt.1 _⟩
  · unfold updP
    split
    · rename_i e
      subst e
      have h1 := h.own j hj
      rw [hv] at h1 ⊢
      rw [fl_setP _ _ _ hk]
      exact ((h1.stored (k * 2) (.int .i64 c.1)).1.stored (k * 2 + 1) (.int .i64 c.2)).1
    · rename_i e
      have hne : ∀ b', (v j).ownBlock = some b' → b' ≠ b := fun b' hb' e2 => R.hd i j hi hj (fun e3 => e e3.symm) b hb (by rw [hb', e2])
      refine own_kept2 (h.own j hj) (fun b' hb' => ?_)
      rw [heap_setCell_other _ ⟨b, k * 2 + 1, none⟩ b' _ (fun e2 => hne b' hb' e2), heap_setCell_other w ⟨b, k * 2, none⟩ b' _ (fun e2 => hne b' hb' e2)]
  · have hgb : g ≠ b := fun e => R.hgv i hi (by rw [hb, e])
    rw [World.cell?_of_block (a := ⟨g, j, none⟩) (heap_setCell_other _ ⟨b, k * 2 + 1, none⟩ g _ hgb), World.cell?_of_block (a := ⟨g, j, none⟩) (heap_setCell_other w ⟨b, k * 2, none⟩ g _ hgb)]
    exact h.cel j hj
def cntP (len : Nat → Nat) (q : Nat) : Nat := len (q / 2) + (if q % 2 = 0 then 20 else 0)
/-- the rows that are still to come, and what was kept -/
structure J3 (base g n : Nat) (v : Nat → Value) (len : Nat → Nat) (mk : Nat → Int × Int) (w0 : World) (i i' : Nat) (long : Value) (L : List Value) (w : World) : Prop where
  own : ∀ j, i' ≤ j → j < n → w.ownsRow base 57 2 (v j) (len j) (fl (List.replicate (len j) (mk j)))
  cel : ∀ j, j < n → w.cell? ⟨g, j, none⟩ = some (v j)
  lon : w.ownsRow w0.heap.size 42 1 long (2 * i) L
  mar : ∀ q, q < 2 * i → MarkP w (L.getD q undef) (cntP len q) (mk (q / 2)) ∧ Sep n v w long i (L.getD q undef)
  siz : w0.heap.size ≤ w.heap.size
  bel : Below base w0 w
/-- what stays as it was where only one block, that of none of these, is written -/
theorem J3.kept {i i' : Nat} {long : Value} {L : List Value} {w w' : World} (R : Rws 57 42 base g n v len mk0 w0) (h : J3 base g n v len mk w0 i i' long L w) (row : Option Nat)
    (hk : ∀ k, k < w.heap.size → row ≠ some k → w'.heap[k]? = w.heap[k]?) (hsz : w.heap.size ≤ w'.heap.size) (hb : Below base w0 w')
    (h1 : ∀ j, i' ≤ j → j < n → ∀ b, (v j).ownBlock = some b → row ≠ some b) (h2 : row ≠ some g) (h3 : ∀ b, long.ownBlock = some b → row ≠ some b) (h4 : ∀ q, q < 2 * i → ∀ b, (L.getD q undef).ownBlock = some b → row ≠ some b) :
    J3 base g n v len mk w0 i i' long L w' := by
  refine ⟨fun j hj hjn => own_kept2 (h.own j hj hjn) (fun b hb' => hk b (by have := (R.hlt j hjn b hb').2; have := h.siz; omega) (h1 j hj hjn b hb')), fun j hj => ?_, own_kept2 h.lon (fun b hb' => hk b (h.lon.lt b hb').2 (h3 b hb')), fun q hq => ?_, by have := h.siz; omega, hb⟩
  · rw [World.cell?_of_block (a := ⟨g, j, none⟩) (hk g (by have := R.hg; have := h.siz; omega) h2)]
    exact h.cel j hj
  · obtain ⟨hm, hs⟩ := h.mar q hq
    refine ⟨hm.kept (fun b hb' => hk b (hs b hb').1 (h4 q hq b hb')), fun b hb' => ?_⟩
    obtain ⟨s1, s2, s3⟩ := hs b hb'
    exact ⟨by omega, s2, s3⟩
/-- the row that grows -/
structure J4 (base g n : Nat) (v : Nat → Value) (len : Nat → Nat) (mk : Nat → Int × Int) (w0 : World) (i t : Nat) (long : Value) (L : List Value) (x : Value) (w : World) : Prop where
  inv : J3 base g n v len mk w0 i (i + 1) long L w
  mar : MarkP w (v i) (len i) (mk i)
  own : w.ownsRow base 57 2 x (len i + t) (fl (List.replicate (len i + t) (mk i)))
  blk : x.ownBlock = (v i).ownBlock ∨ ∃ b, x.ownBlock = some b ∧ w0.heap.size ≤ b ∧ long.ownBlock ≠ some b ∧ ∀ q, q < 2 * i → (L.getD q undef).ownBlock ≠ some b
theorem J4.start {i : Nat} {long : Value} {L : List Value} {w : World} (h : J3 base g n v len mk w0 i i long L w) (hi : i < n) : J4 base g n v len mk w0 i 0 long L (v i) w :=
  ⟨⟨fun j hj hjn => h.own j (by omega) hjn, h.cel, h.lon, h.mar, h.siz, h.bel⟩, mark_ownP (h.own i (Nat.le_refl _) hi), h.own i (Nat.le_refl _) hi, .inl rfl⟩
theorem J4.step {i t : Nat} {long x x' : Value} {L : List Value} {w w' : World} {o : Obj} (R : Rws 57 42 base g n v len mk0 w0) (h : J4 base g n v len mk w0 i t long L x w) (hi : i < n)
    (hf : ∃ ad cap, v i = .slice ad (len i) cap) (hfb : ∀ ad cap, v i = .slice ad (len i) cap → 0 < len i → ∃ b, ad = some ⟨b, 0, none⟩)
    (ho : w'.ownsRow base 57 2 x' (len i + t + 1) (fl (List.replicate (len i + t) (mk i) ++ [mk i]))) (hm : Moved (w.alloc o) w' x x') : J4 base g n v len mk w0 i (t + 1) long L x' w' := by
  have ho' : w'.ownsRow base 57 2 x' (len i + (t + 1)) (fl (List.replicate (len i + (t + 1)) (mk i))) := by
    rw [← List.replicate_succ'] at ho
    exact ho
  have hsa : (w.alloc o).heap.size = w.heap.size + 1 := by simp
  have hBx : ∀ k, x.ownBlock = some k → base ≤ k ∧ k < w.heap.size := fun k hk => h.own.lt k hk
  -- which blocks are as they were
  have hkeep : ∀ k, k < w.heap.size → x.ownBlock ≠ some k → w'.heap[k]? = w.heap[k]? := by
    intro k hk hne
    have ha : (w.alloc o).heap[k]? = w.heap[k]? := heap_alloc_old w o hk
    rcases hm with ⟨_, hg⟩ | ⟨_, hg⟩
    · rw [hg.block k (by omega) (fun e => hne e.symm), ha]
    · rw [hg.block k (by omega) (by simp), ha]
  have hsz : w.heap.size ≤ w'.heap.size := by
    rcases hm with ⟨_, hg⟩ | ⟨_, hg⟩ <;> (have := hg.size; omega)
  have hbel : Below base w0 w' := by
    have hb0 : Below base w0 (w.alloc o) := h.inv.bel.alloc (by have := R.hgb; have := h.inv.siz; omega) o
    have hbs : base ≤ (w.alloc o).heap.size := by have := R.hgb; have := h.inv.siz; omega
    rcases hm with ⟨_, hg⟩ | ⟨_, hg⟩
    · exact hb0.grown hg hbs (fun k hk => (hBx k hk).1)
    · exact hb0.grown hg hbs (fun k hk => by cases hk)
  have hlong : ∀ b, long.ownBlock = some b → w0.heap.size ≤ b ∧ b < w.heap.size := fun b hb => h.inv.lon.lt b hb
  have hinv : J3 base g n v len mk w0 i (i + 1) long L w' := by
    refine h.inv.kept R x.ownBlock hkeep hsz hbel ?_ ?_ ?_ ?_
    · intro j hj hjn b hb e
      rcases h.blk with hx | ⟨b', hx, hb1, _, _⟩
      · exact R.hd i j hi hjn (by omega) b (by rw [← hx]; exact e) hb
      · have := (R.hlt j hjn b hb).2
        rw [hx] at e
        injection e with e
        omega
    · intro e
      rcases h.blk with hx | ⟨b', hx, hb1, _, _⟩
      · exact R.hgv i hi (by rw [← hx]; exact e)
      · have := R.hg
        rw [hx] at e
        injection e with e
        omega
    · intro b hb e
      rcases h.blk with hx | ⟨b', hx, _, hl, _⟩
      · have h1 := hlong b hb
        have h2 := (R.hlt i hi b (by rw [← hx]; exact e)).2
        omega
      · rw [hx] at e
        exact hl (by rw [hb, e])
    · intro q hq b hb e
      rcases h.blk with hx | ⟨b', hx, _, _, hl⟩
      · exact ((h.inv.mar q hq).2 b hb).2.2 i (Nat.le_refl _) hi (by rw [← hx]; exact e)
      · rw [hx] at e
        exact hl q hq (by rw [hb, e])
  refine ⟨hinv, ?_, ho', ?_⟩
  · by_cases hsame : x.ownBlock = (v i).ownBlock
    · rcases hm with ⟨h5, hg⟩ | ⟨h5, hg⟩
      · exact mark_headP ho' (by omega) hf hfb (by rw [h5, hsame])
      · refine h.mar.kept (fun b hb => ?_)
        have hbl := (R.hlt i hi b hb).2
        have := h.inv.siz
        rw [hg.block b (by omega) (by simp), heap_alloc_old w o (by omega)]
    · refine h.mar.kept (fun b hb => hkeep b (by have := (R.hlt i hi b hb).2; have := h.inv.siz; omega) (fun e => hsame (by rw [hb, e])))
  · rcases hm with ⟨h5, hg⟩ | ⟨h5, hg⟩
    · rw [h5]; exact h.blk
    · right
      have := h.inv.siz
      refine ⟨_, h5, by omega, fun e => ?_, fun q hq e => ?_⟩
      · have := (hlong _ e).2; omega
      · have := ((h.inv.mar q hq).2 _ e).1; omega
/-- the two that are put behind -/
theorem J4.put {i : Nat} {long long' x : Value} {L : List Value} {w w' : World} {o : Obj} (R : Rws 57 42 base g n v len mk0 w0) (h : J4 base g n v len mk w0 i 20 long L x w) (hi : i < n)
    (ho : w'.ownsRow w0.heap.size 42 1 long' (2 * i + 2) (L ++ [x, v i])) (hm : Moved (w.alloc o) w' long long') : J3 base g n v len mk w0 (i + 1) (i + 1) long' (L ++ [x, v i]) w' := by
  have hsa : (w.alloc o).heap.size = w.heap.size + 1 := by simp
  have hlong : ∀ b, long.ownBlock = some b → w0.heap.size ≤ b ∧ b < w.heap.size := fun b hb => h.inv.lon.lt b hb
  have hsiz := h.inv.siz
  have hkeep : ∀ k, k < w.heap.size → long.ownBlock ≠ some k → w'.heap[k]? = w.heap[k]? := by
    intro k hk hne
    have ha : (w.alloc o).heap[k]? = w.heap[k]? := heap_alloc_old w o hk
    rcases hm with ⟨_, hg⟩ | ⟨_, hg⟩
    · rw [hg.block k (by omega) (fun e => hne e.symm), ha]
    · rw [hg.block k (by omega) (by simp), ha]
  have hsz : w.heap.size ≤ w'.heap.size := by
    rcases hm with ⟨_, hg⟩ | ⟨_, hg⟩ <;> (have := hg.size; omega)
  have hbel : Below base w0 w' := by
    have hb0 : Below base w0 (w.alloc o) := h.inv.bel.alloc (by have := R.hgb; omega) o
    have hbs : base ≤ (w.alloc o).heap.size := by have := R.hgb; omega
    rcases hm with ⟨_, hg⟩ | ⟨_, hg⟩
    · exact hb0.grown hg hbs (fun k hk => by have := (hlong k hk).1; have := R.hgb; omega)
    · exact hb0.grown hg hbs (fun k hk => by cases hk)
  have hlong' : ∀ b, long'.ownBlock = some b → w0.heap.size ≤ b := fun b hb => (ho.lt b hb).1
  have hneL : ∀ b, b < w.heap.size → long.ownBlock ≠ some b → long'.ownBlock ≠ some b := by
    intro b hb hne
    rcases hm with ⟨h5, _⟩ | ⟨h5, _⟩
    · rw [h5]; exact hne
    · rw [h5]; intro e; injection e with e; omega
  have hvi : ∀ j, j < n → ∀ b, (v j).ownBlock = some b → b < w.heap.size ∧ long.ownBlock ≠ some b := fun j hj b hb => by
    have h1 := (R.hlt j hj b hb).2
    exact ⟨by omega, fun e => by have := (hlong b e).1; omega⟩
  have hx : ∀ b, x.ownBlock = some b → b < w.heap.size ∧ long.ownBlock ≠ some b ∧ ∀ t, i + 1 ≤ t → t < n → (v t).ownBlock ≠ some b := by
    intro b hb
    have hlt := (h.own.lt b hb).2
    rcases h.blk with hxv | ⟨b', hxb, hb1, hl, _⟩
    · rw [hxv] at hb
      exact ⟨hlt, (hvi i hi b hb).2, fun t ht htn => R.hd i t hi htn (by omega) b hb⟩
    · rw [hxb] at hb
      injection hb with hb
      subst hb
      exact ⟨hlt, hl, fun t ht htn e => by have := (R.hlt t htn _ e).2; omega⟩
  have hLl : L.length = 2 * i := by have := h.inv.lon.1; omega
  refine ⟨fun j hj hjn => own_kept2 (h.inv.own j hj hjn) (fun b hb => hkeep b (hvi j hjn b hb).1 (hvi j hjn b hb).2), fun j hj => ?_, ?_, fun q hq => ?_, by omega, hbel⟩
  · rw [World.cell?_of_block (a := ⟨g, j, none⟩) (hkeep g (by have := R.hg; omega) (fun e => by have := (hlong g e).1; have := R.hg; omega))]
    exact h.inv.cel j hj
  · exact ho
  · by_cases h1 : q < 2 * i
    · have e : (L ++ [x, v i]).getD q undef = L.getD q undef := by simp [List.getD_eq_getElem?_getD, List.getElem?_append_left (show q < L.length by omega)]
      rw [e]
      obtain ⟨hmk, hs⟩ := h.inv.mar q h1
      refine ⟨hmk.kept (fun b hb => hkeep b (hs b hb).1 (hs b hb).2.1), fun b hb => ?_⟩
      obtain ⟨s1, s2, s3⟩ := hs b hb
      exact ⟨by omega, hneL b s1 s2, fun t ht htn => s3 t (by omega) htn⟩
    · by_cases h2 : q = 2 * i
      · subst h2
        have e : (L ++ [x, v i]).getD (2 * i) undef = x := by simp [List.getD_eq_getElem?_getD, ← hLl]
        have ec : cntP len (2 * i) = len i + 20 := by unfold cntP; rw [show 2 * i / 2 = i by omega, show 2 * i % 2 = 0 by omega]; rfl
        rw [e, ec, show 2 * i / 2 = i by omega]
        refine ⟨(mark_ownP h.own).kept (fun b hb => hkeep b (hx b hb).1 (hx b hb).2.1), fun b hb => ?_⟩
        obtain ⟨s1, s2, s3⟩ := hx b hb
        exact ⟨by omega, hneL b s1 s2, s3⟩
      · have h3 : q = 2 * i + 1 := by omega
        subst h3
        have e : (L ++ [x, v i]).getD (2 * i + 1) undef = v i := by simp [List.getD_eq_getElem?_getD, ← hLl]
        have ec : cntP len (2 * i + 1) = len i := by unfold cntP; rw [show (2 * i + 1) / 2 = i by omega, show (2 * i + 1) % 2 = 1 by omega]; rfl
        rw [e, ec, show (2 * i + 1) / 2 = i by omega]
        refine ⟨h.mar.kept (fun b hb => hkeep b (hvi i hi b hb).1 (hvi i hi b hb).2), fun b hb => ?_⟩
        exact ⟨by have := (hvi i hi b hb).1; omega, hneL b (hvi i hi b hb).1 (hvi i hi b hb).2, fun t ht htn => R.hd i t hi htn (by omega) b hb⟩
end
end Go.Proofs.YtjglehklfdhgaaaDoor
