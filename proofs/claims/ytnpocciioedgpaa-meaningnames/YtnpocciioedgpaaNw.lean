/- HELPERS: a walk's object is made. -/
import Derived.Test.YtnpocciioedgpaaBf
import Derived.Test.YtnpocciioedgpaaSb
import Derived.Test.YtnpocciioedgpaaRp
import Derived.Test.YtnpocciioedgpaaAt
namespace Go.Proofs.Ytnpocciioedgpaa
open Go.RowKit
set_option linter.unusedVariables false
set_option linter.unusedSimpArgs false
theorem step_append_moveN {P : Program} {ops : Array Oper} {o : Oper} {a : Act} {w : World} {K : Act → World → Prop} {Q : Exit → Act → World → Prop} {E : Prop}
    (hg : o.guard = none) (s x : Operand) (t : TypeId) (hop : o.op = Op.call { callee := Callee.builtin Builtin.append, args := #[s, x], argTypes := #[t, t] })
    (base : Nat) (e : TypeId) (i : TypeInfo) (z : Value) (size bytes : Nat) (h1 : P.underlying t = some (.slice e)) (h2 : P.info? e = some i) (h3 : i.zero = some z) (h4 : i.size = size) (h5 : i.bytes = bytes) (h6 : z.cells.size = size) (h7 : 0 < size)
    (v : Value) (n : Nat) (xs : List Value) (hs : a.eval s = v) (hown : w.ownsRow base e size v n xs)
    (ad : Addr) (m c : Nat) (news : List Value) (hx : a.eval x = .slice (some ad) m c) (hn : news.length = m * size) (hm : 0 < m) (hc : ∀ j u, news[j]? = some u → w.cell? (ad.add j) = some u) (h1c : ∀ u ∈ news, u.oneCell' = true)
    (b1 : n + m ≤ maxLen) (b2 : (n + m) * bytes ≤ 140737488355328) (hb : base ≤ w.heap.size)
    (hK : ∀ v' w', w'.ownsRow base e size v' (n + m) (xs ++ news) → Moved w w' v v' → K (a.put o.dst v') w') :
    if Region.wanted o (yielded ops a.tmps) = true then Oper.wp P o a w K Q else E := by
  have hw : Region.wanted o (yielded ops a.tmps) = true := by simp [Region.wanted, hg]
  rw [if_pos hw]
  obtain ⟨v', w', hrun, r1, r2⟩ := run_append_moveN (P := P) w base t o.type e i z size bytes h1 h2 h3 h4 h5 h6 h7 v n xs hown ad m c news hn hm hc h1c b1 b2 hb
  unfold Oper.wp
  simp [execOp, hop, resolve, invoke, builtin, hs, hx, hrun, Result.andThen]
  exact hK v' w' r1 r2
theorem step_call2 {P : Program} {ops : Array Oper} {o : Oper} {a : Act} {w : World} {K : Act → World → Prop} {Q : Exit → Act → World → Prop} {E : Prop} (hg : o.guard = none) (f : FuncId) (x y : Operand) (t u : TypeId)
    (hop : o.op = Op.call { callee := Callee.value (.func f), args := #[x, y], argTypes := #[t, u] }) (hen : ∀ args w, (callFunc f args).run P w = .ok (.enter f args) w)
    (hc : Calls P f #[a.eval x, a.eval y] w fun e w' => ∃ v, e = .returned v ∧ K (a.put o.dst v) w') :
    if Region.wanted o (yielded ops a.tmps) = true then Oper.wp P o a w K Q else E := by
  have hw : Region.wanted o (yielded ops a.tmps) = true := by simp [Region.wanted, hg]
  rw [if_pos hw]
  have h2 := hen #[a.eval x, a.eval y] w
  unfold Oper.wp
  have ev : a.eval (.func f) = .func (.func f) #[] #[] := rfl
  simp [execOp, hop, resolve, invoke, ev, Deferred.ofValue, h2, Result.andThen]
  show Calls P f #[a.eval x, a.eval y] w _
  refine hc.mono fun e w' h => ?_
  obtain ⟨v, rfl, hk⟩ := h
  exact hk
theorem en50 : ∀ (args : Array Value) (w : World), (callFunc 50 args).run Try.prog w = .ok (.enter 50 args) w := enter_of Try.func50 (by kernel_rfl) rfl
abbrev Nd.c (N : Nd) (k : Int) : Array Value := #[.int .i64 k, .slice N.r1 N.r2 N.r3, .int .i64 N.a2, .slice N.s1 N.s2 N.s3, .int .i64 N.a4, .int .i64 N.a5, .bool N.a6, .int .i64 N.a7, .string N.a8]
theorem moved_old {w w' : World} {v v' : Value} {k : Nat} (h : Moved w w' v v') (hk : k < w.heap.size) (hn : v.ownBlock ≠ some k) : w'.heap[k]? = w.heap[k]? := by
  rcases h with ⟨_, h⟩ | ⟨_, h⟩
  · exact h.block k hk (fun e => hn e.symm)
  · exact h.block k hk (by simp)
/-- the object while what holds is told: z the node's box, then the map, then the object -/
structure Hol (w wq : World) (N : Nd) (tv hv : Value) (i : Nat) (vals : List Int) : Prop where
  bel : Below w.heap.size w wq
  node : wq.heap[w.heap.size]? = some (.cells (N.c 6) 28 (0, 0))
  map : wq.heap[w.heap.size + 1]? = some (.map #[] 0)
  ob : wq.heap[w.heap.size + 1 + 1]? = some (.cells #[tv, hv, .nilFunc, .int .i64 0, .map (some (w.heap.size + 1)), .slice none 0 0, .slice none 0 0] 86 (0, 0))
  row : wq.ownsRow (w.heap.size + 1 + 1 + 1) 3 1 hv i (I64 vals)
theorem Hol.next {w wr w1 w2 : World} {N : Nd} {tv v' : Value} {v1 : Option Addr} {v3 i : Nat} {vals : List Int} {x : Int} (H : Hol w wr N tv (.slice v1 i v3) i vals) (hb : Below wr.drew.heap.size wr.drew w1) (o : Obj) (hm : Moved (w1.alloc o) w2 (.slice v1 i v3) v')
    (ho : w2.ownsRow (w.heap.size + 1 + 1 + 1) 3 1 v' (i + 1) (I64 vals ++ [.int .i64 x])) : Hol w (w2.setCell ⟨w.heap.size + 1 + 1, 1, none⟩ v') N tv v' (i + 1) (vals ++ [x]) := by
  have hlo := (Array.getElem?_eq_some_iff.1 H.ob).1
  have hs1 : wr.heap.size ≤ w1.heap.size := hb.size
  have hne : ∀ k, k < w.heap.size + 1 + 1 + 1 → (Value.slice v1 i v3).ownBlock ≠ some k := fun k hk e => by have := (H.row.lt k e).1; omega
  have e2 : ∀ k, k < w.heap.size + 1 + 1 + 1 → w2.heap[k]? = wr.heap[k]? := fun k hk => (moved_old hm (by simp; omega) (hne k hk)).trans ((heap_alloc_old w1 o (by omega)).trans (hb.block k (by show k < wr.heap.size; omega)))
  have e3 : ∀ k, k < w.heap.size + 1 + 1 → (w2.setCell ⟨w.heap.size + 1 + 1, 1, none⟩ v').heap[k]? = wr.heap[k]? := fun k hk => (Below.heap_setCell _ _ _ _ (by show k ≠ w.heap.size + 1 + 1; omega)).trans (e2 k (by omega))
  have hob := (e2 (w.heap.size + 1 + 1) (by omega)).trans H.ob
  have hs2 : w1.heap.size ≤ w2.heap.size := by rcases hm with ⟨_, h⟩ | ⟨_, h⟩ <;> (have := h.size; simp at this; omega)
  refine ⟨⟨?_, ?_, ?_, ?_, fun k hk => (e3 k (by omega)).trans (H.bel.block k hk)⟩, (e3 _ (by omega)).trans H.node, (e3 _ (by omega)).trans H.map, Joins.block_setCell (i := 1) hob _, ?_⟩
  · rcases hm with ⟨_, h⟩ | ⟨_, h⟩ <;> exact h.os.trans (hb.os.trans H.bel.os)
  · rcases hm with ⟨_, h⟩ | ⟨_, h⟩ <;> exact h.tape.trans (hb.tape.trans H.bel.tape)
  · rcases hm with ⟨_, h⟩ | ⟨_, h⟩ <;> exact h.output.trans (hb.output.trans H.bel.output)
  · have := H.bel.size; simp [World.setCell]; omega
  · rw [show I64 (vals ++ [x]) = I64 vals ++ [.int .i64 x] by simp]
    exact own_setCell ho (own_ne ho hob (by decide))
/-- what begins a tree, and is asked of it: a loop's box b, its way -/
def Begins (g K : Nat) (N : Nd) (n n2 : Int) (B : Way) (W1 : Nat → Way) (FX : List Nat) (w : World) : Prop :=
  ∀ (A : Six) (w' : World) (v : Value) (F0 : List Nat), Below w.heap.size w w' → O7 w' g A n → Rep g K [] w' v B F0 → g ∉ F0 →
    Calls Try.prog 53 #[pt g, N.v 6, v] w' fun e w'' => ∃ b u F, e = .returned u ∧ w'.heap.size ≤ b ∧ Mk g K [b] w' w'' A n2 u (W1 b) (FX ++ F0) F ∧ Bx w'' b 84 u ∧ b ∉ F
set_option maxRecDepth 100000 in
set_option maxHeartbeats 4000000 in
theorem newWalks31 (N : Nd) (tb tcap : Nat) (n2 : Int) (W1 : Nat → Way) (FX : List Nat) (w : World) (ht : w.heap[tb]? = some (.cells #[.int .i64 97] 3 (0, 0))) (hFX : ∀ k ∈ FX, k < w.heap.size)
    (HGI : Hid (∀ w', Below w.heap.size w w' → Calls Try.prog 52 #[N.v 6] w' fun e w'' => e = .returned (.int .i64 1) ∧ Below w'.heap.size w' w'')) (HBG : Hid (Begins (w.heap.size + 1 + 1) 4 N 1 n2 (.once 1 .through) W1 FX w)) :
    Calls Try.prog 31 #[N.v 6, .slice (some ⟨tb, 0, none⟩) 1 tcap] w fun e w' => ∃ g b u F B C, e = .returned (pt g) ∧ w.heap.size ≤ g ∧ WS w.heap.size w' g C ⟨[], [-1, -1, -1, -1], []⟩ B ∧ C.tv = .slice (some ⟨tb, 0, none⟩) 1 tcap ∧ C.wh = u ∧ C.K = 4 ∧ Rep g 4 [b] w' u (W1 b) F ∧ Bx w' b 84 u ∧ (∀ k ∈ F, k ∉ B) ∧ b ∉ B ∧ (∀ k ∈ B, w.heap.size ≤ k) ∧ Below w.heap.size w w' := by
  have hm := hmf
  have hmm : ∀ w, (Instr.makeMap 82 none).run Try.prog w = .ok (.map (some w.heap.size)) (w.alloc (.map #[] 0)) := fun _ => rfl
  obtain ⟨h1, h2, h3, h4⟩ := three_new w (N.o 6) (.map #[] 0) (.cells #[.slice (some ⟨tb, 0, none⟩) 1 tcap, .slice none 0 0, .nilFunc, .int .i64 0, .map (some (w.heap.size + 1)), .slice none 0 0, .slice none 0 0] 86)
  have hH : Hol w _ N (.slice (some ⟨tb, 0, none⟩) 1 tcap) (.slice none 0 0) 0 [] := ⟨below_two w _ _ |>.trans (Joins.below_le (Joins.below_alloc1 _ _) (by simp; omega)), h1, h2, h3, World.ownsRow_nil _ _ _ _⟩
  have HH := hid hH
  have htl := (Array.getElem?_eq_some_iff.1 ht).1
  obtain ⟨i0, hi0, hz0, hz1, hz2⟩ := info_parts info3
  have HT := hid ht
  clear hH h1 h2 h3 h4 ht
  go_enter Try.func31, Try.ntmps31
  go_wp2_with fail
  obtain ⟨z, hz⟩ : ∃ z, z = w.heap.size := ⟨_, rfl⟩
  go_loopw [14] (fun x wq => ∃ i : Nat, x = .int .i64 (i : Int) ∧ i ≤ 2 ∧ Hid (∃ hv vals, Hol w wq N (.slice (some ⟨tb, 0, none⟩) 1 tcap) hv i vals)) (fun x _ => 2 - (intOf x).toNat)
  case atStart => exact ⟨0, rfl, by omega, by exact ⟨_, _, HH.out⟩⟩
  case round =>
    obtain ⟨i, rfl, hi, HI⟩ := hrel
    by_cases hil : i < 2
    · obtain ⟨hv, vals, hX⟩ := HI.out
      have b1 : decide ((i : Int) < 2) = true := by simp; omega
      have b2 : (i : Int) < 2 := by omega
      have HX := hid hX
      have ad1 : IntKind.i64.wrap ((i : Int) + 1) = (i : Int) + 1 := by simp [IntKind.wrap, IntKind.bits, IntKind.signed]; omega
      have g1 : wr.cell? ⟨w.heap.size + 1 + 1, 1, none⟩ = some hv := Joins.cell_of_block hX.ob 1
      obtain ⟨v1, v3, rfl⟩ : ∃ v1 v3, hv = .slice v1 i v3 := by
        rcases Joins.ownsRow_forms hX.row with ⟨rfl, h⟩ | ⟨b, cap, rfl⟩
        · exact ⟨none, 0, by rw [h]⟩
        · exact ⟨_, _, rfl⟩
      have hAt := Look.at10 [97] (some ⟨tb, 0, none⟩) 1 tcap (i : Int) wr.drew ⟨rfl, by omega, .inr ⟨tb, 0, rfl, by have := hX.bel.size; show tb < wr.heap.size; omega, fun k hk => by
        have e : k = 0 := by omega
        subst e
        exact bx0 (t := 3) ((hX.bel.block tb htl).trans HT.out)⟩⟩
      clear hX HI
      rw [← hz] at g1 ⊢
      have HZ := hid hz
      clear hz
      go_wp2_with fail
      have hrow1 : ∀ w1, Below wr.drew.heap.size wr.drew w1 → w1.ownsRow (w.heap.size + 1 + 1 + 1) 3 1 (.slice v1 i v3) i (I64 vals) ∧ w1.heap[w.heap.size + 1 + 1]? = some (.cells #[.slice (some ⟨tb, 0, none⟩) 1 tcap, .slice v1 i v3, .nilFunc, .int .i64 0, .map (some (w.heap.size + 1)), .slice none 0 0, .slice none 0 0] 86 (0, 0)) ∧ w.heap.size + 1 + 1 + 1 ≤ w1.heap.size := fun w1 hb => by
        have hl := (Array.getElem?_eq_some_iff.1 HX.out.ob).1
        exact ⟨row_kept HX.out.row fun b hb2 => hb.block b (HX.out.row.lt b hb2).2, (hb.block _ hl).trans HX.out.ob, by have := hb.size; have h : wr.heap.size ≤ w1.heap.size := this; omega⟩
      rw [← HZ.out] at hrow1
      have HR1 := hid hrow1
      clear hrow1
      go_region_law (first | (refine step_append_moveN rfl (.tmp 21) (.tmp 25) 29 rfl (z + 1 + 1 + 1) 3 i0 (.int .i64 0) 1 8 Try.underlying29 hi0 hz0 hz1 hz2 rfl (by decide) (.slice v1 i v3) i (I64 vals) rfl ((HR1.out w1 HB1.out).1.alloc _) ⟨w1.heap.size, 0, none⟩ 1 1 [.int .i64 (Look.atN [97] (i : Int))] rfl rfl (by decide) (one_new w1 _ 3) (by intro u hu; simp at hu; subst hu; rfl) (by unfold maxLen; omega) (by omega) (by have := (HR1.out w1 HB1.out).2.2; simp; omega) ?_; intro v' w2 ho2 hm2; obtain ⟨vb, vc, rfl⟩ := Joins.ownsRow_form ho2 (by omega); have hbl := (HR1.out w1 HB1.out); have hne : (Value.slice v1 i v3).ownBlock ≠ some (z + 1 + 1) := (fun e => by have := (hbl.1.lt _ e).1; omega); have hb2 : w2.heap[z + 1 + 1]? = some (.cells #[.slice (some ⟨tb, 0, none⟩) 1 tcap, .slice v1 i v3, .nilFunc, .int .i64 0, .map (some (z + 1)), .slice none 0 0, .slice none 0 0] 86 (0, 0)) := (moved_old hm2 (by simp; omega) hne).trans ((heap_alloc_old w1 _ (by omega)).trans hbl.2.1); have c2 : w2.cell? ⟨z + 1 + 1, 1, none⟩ = some (.slice v1 i v3) := Joins.cell_of_block hb2 1; have f2 := Joins.unfrozen_of_block hb2 1; have HO2 := hid ho2; have HM2 := hid hm2; have HB2 := hid hb2; clear ho2 hm2 hb2 hbl hne) | (refine step_call2 rfl 50 (.tmp 22) (.tmp 23) 29 3 rfl en50 (Calls.mono hAt (fun e w1 hG => ?_)); obtain ⟨he, hb1⟩ := hG; subst he; refine ⟨_, rfl, ?_⟩; have d1 : w1.cell? ⟨z + 1 + 1, 1, none⟩ = some (.slice v1 i v3) := Joins.cell_of_block (HR1.out w1 hb1).2.1 1; have dl : z + 1 + 1 < w1.heap.size := (by have := (HR1.out w1 hb1).2.2; omega); have HB1 := hid hb1; clear hb1 hAt))
      all_goals
        go_wp2
        refine ⟨⟨i + 1, by push_cast; rfl, by omega, ?_⟩, by simp [intOf]; omega⟩
        have h := HX.out.next HB1.out _ HM2.out (by rw [← HZ.out]; exact HO2.out)
        rw [← HZ.out] at h
        exact ⟨_, _, h⟩
    · obtain rfl : i = 2 := by omega
      obtain ⟨hv, vals, hX⟩ := HI.out
      have HX := hid hX
      have hlo := (Array.getElem?_eq_some_iff.1 hX.ob).1
      obtain ⟨o0, o1, o2, o3, o4, o5, o6, o7, o8⟩ := nine hX.node
      have HG1 := HGI.out (wr.alloc (.cells #[M1] 3)) (hX.bel.alloc (by have := hX.bel.size; omega) _)
      clear hX HI
      rw [← hz] at o0 o1 o2 o3 o4 o5 o6 o7 o8 hlo ⊢
      have HZ := hid hz
      clear hz
      have zl : z < wr.heap.size := by omega
      have hgo : ∀ w1 w2, Below (wr.alloc (.cells #[M1] 3)).heap.size (wr.alloc (.cells #[M1] 3)) w1 → Below w1.heap.size w1 w2 → ∀ k, k < wr.heap.size → w2.heap[k]? = wr.heap[k]? := fun w1 w2 h1 h2 k hk => (h2.block k (by have := h1.size; simp at this; omega)).trans ((h1.block k (by simp; omega)).trans (heap_alloc_old wr _ hk))
      have HGO := hid hgo
      clear hgo
      go_upto_region 8 with (first | (go_at_call 52; (with_reducible refine HG1.mono ?_); rintro e w1 ⟨rfl, hb1⟩; have HB1 := hid hb1; have HC1 := repeat51 wr.heap.size 1 w1 ((hb1.cell (p := ⟨wr.heap.size, 0, none⟩) (by simp)).trans (by simp)) (by have := hb1.size; simp at this; omega); clear hb1 HG1) | (go_at_call 51; (with_reducible refine HC1.mono ?_); rintro e w2 ⟨rfl, hb2, hn2⟩; have HB2 := hid hb2; have HN2 := hid hn2; have hg2 : w2.heap[z + 1 + 1]? = some (.cells #[.slice (some ⟨tb, 0, none⟩) 1 tcap, hv, .nilFunc, .int .i64 0, .map (some (z + 1)), .slice none 0 0, .slice none 0 0] 86 (0, 0)) := (HGO.out w1 w2 HB1.out hb2 _ hlo).trans (by rw [HZ.out]; exact HX.out.ob); have c5 : w2.cell? ⟨z + 1 + 1, 5, none⟩ = some (.slice none 0 0) := Joins.cell_of_block hg2 5; have f5 := Joins.unfrozen_of_block hg2 5; have HG2 := hid hg2; clear hb2 hn2 HC1 hg2))
      obtain ⟨nb, hnb⟩ : ∃ nb, nb = w1.heap.size := ⟨_, rfl⟩
      rw [← hnb]
      obtain ⟨X, hX⟩ : ∃ X, X = w2.setCell ⟨z + 1 + 1, 5, none⟩ (.slice (some ⟨nb, 0, none⟩) 4 4) := ⟨_, rfl⟩
      rw [← hX]
      have hs1 : wr.heap.size < w1.heap.size := by have := HB1.out.size; simp at this; omega
      have hXs : X.heap.size = w2.heap.size := by rw [hX]; simp [World.setCell]
      have hnl : nb < X.heap.size := by rw [hXs, hnb]; exact (Array.getElem?_eq_some_iff.1 HN2.out).1
      have hXo : ∀ k, k < wr.heap.size → k ≠ z + 1 + 1 → X.heap[k]? = wr.heap[k]? := fun k hk hne => by rw [hX]; exact (Below.heap_setCell _ _ _ _ hne).trans (HGO.out w1 w2 HB1.out HB2.out k hk)
      have hXg : O7 X (z + 1 + 1) ⟨.slice (some ⟨tb, 0, none⟩) 1 tcap, hv, .nilFunc, .map (some (z + 1)), .slice (some ⟨nb, 0, none⟩) 4 4, .slice none 0 0⟩ 0 := by rw [hX]; exact Joins.block_setCell (i := 5) HG2.out _
      have hXn : X.heap[nb]? = some (.cells #[M1, M1, M1, M1] 3 (0, 0)) := by rw [hX]; exact (Below.heap_setCell _ _ _ _ (by show nb ≠ z + 1 + 1; omega)).trans (by rw [hnb]; exact HN2.out)
      have hXz : X.heap[z]? = some (.cells (N.c 6) 28 (0, 0)) := (hXo z zl (by omega)).trans (by rw [HZ.out]; exact HX.out.node)
      have hXm : X.heap[z + 1]? = some (.map #[] 0) := (hXo (z + 1) (by omega) (by omega)).trans (by rw [HZ.out]; exact HX.out.map)
      have hXb : Below w.heap.size w X := by
        rw [hX]
        have hz := HZ.out
        exact (HX.out.bel.trans (Joins.below_le (((Below.refl _ wr).alloc (Nat.le_refl _) _).trans (Joins.below_le (HB1.out.trans (Joins.below_le HB2.out (by simp; omega))) (by simp))) HX.out.bel.size)).setCell (by show w.heap.size ≤ z + 1 + 1; omega) _
      have HC : Calls Try.prog 54 #[pt (z + 1 + 1), .func (.func 55) #[pt (z + 1 + 1)] #[]] X.drew fun e w' => ∃ v F, e = .returned v ∧ Mk (z + 1 + 1) 4 [] X.drew w' ⟨.slice (some ⟨tb, 0, none⟩) 1 tcap, hv, .nilFunc, .map (some (z + 1)), .slice (some ⟨nb, 0, none⟩) 4 4, .slice none 0 0⟩ 1 v (.once 1 .through) [] F := by
        simpa using once54 (z + 1 + 1) 4 [] _ 0 (.func (.func 55) #[pt (z + 1 + 1)] #[]) .through [] X.drew hXg .through (by simp) ⟨by omega, by omega⟩
      have hS : ∀ w3 : World, (∀ k, k < X.heap.size → k ≠ z + 1 + 1 → w3.heap[k]? = X.heap[k]?) → w3.heap[z]? = some (.cells (N.c 6) 28 (0, 0)) := fun w3 h => (h z (by omega) (by omega)).trans hXz
      have HSZ := hid hS
      have HXG := hid hXg
      have HXN := hid hXn
      have HXM := hid hXm
      have HXB := hid hXb
      have HXS := hid hXs
      have hgX : z + 1 + 1 < X.heap.size := by omega
      have x9 := nine hXz
      have HBGz := hid HBG.out
      rw [← HZ.out] at HBGz
      clear hX hXo hXg hXn hXz hXm hXb hXs hS c5 f5 o0 o1 o2 o3 o4 o5 o6 o7 o8
      go_region_held2 (fun w3 => w3.cell? ⟨z, 0, none⟩ = some (.int .i64 6) ∧ w3.cell? ⟨z, 1, none⟩ = some (.slice N.r1 N.r2 N.r3) ∧ w3.cell? ⟨z, 2, none⟩ = some (.int .i64 N.a2) ∧ w3.cell? ⟨z, 3, none⟩ = some (.slice N.s1 N.s2 N.s3) ∧ w3.cell? ⟨z, 4, none⟩ = some (.int .i64 N.a4) ∧ w3.cell? ⟨z, 5, none⟩ = some (.int .i64 N.a5) ∧ w3.cell? ⟨z, 6, none⟩ = some (.bool N.a6) ∧ w3.cell? ⟨z, 7, none⟩ = some (.int .i64 N.a7) ∧ w3.cell? ⟨z, 8, none⟩ = some (.string N.a8))
        (first | exact x9 | exact nine (HSZ.out w3 (fun k hk hne => M3.out.chg.block k hk (by simpa using hne))) | exact nine (HSZ.out w4 (fun k hk hne => HO4.out k hk hne)) | exact nine (HSZ.out _ (fun k hk hne => (Below.heap_setCell _ _ _ _ hne).trans (HO4.out k hk hne))))
        (first | (go_at_call 54; (with_reducible refine HC.mono ?_); rintro e w3 ⟨v3, F3, rfl, m3⟩; obtain ⟨f3, fi3, ca3, rfl⟩ := m3.rep.form; have HC2 := HBGz.out _ w3 _ F3 (HXB.out.drew.trans (m3.chg.below (by have := HXB.out.size; show w.heap.size ≤ X.heap.size; omega) (fun k hk => by simp at hk; have := HZ.out; omega))) m3.ob m3.rep (m3.away (by simp) hgX); have M3 := hid m3; clear m3 HC) | (go_at_call 53; (with_reducible refine HC2.mono ?_); rintro e w4 ⟨b, u, F, rfl, hbs, m4, hx4, hbF⟩; obtain ⟨f4, fi4, ca4, rfl⟩ := m4.rep.form; have c2 : w4.cell? ⟨z + 1 + 1, 2, none⟩ = some .nilFunc := Joins.cell_of_block m4.ob 2; have f2 := Joins.unfrozen_of_block m4.ob 2; have ho4 : ∀ k, k < X.heap.size → k ≠ z + 1 + 1 → w4.heap[k]? = X.heap[k]? := (fun k hk hne => (m4.chg.block k (by have := M3.out.chg.size; have h : X.heap.size ≤ w3.heap.size := this; omega) (by simpa using hne)).trans (M3.out.chg.block k hk (by simpa using hne))); have HO4 := hid ho4; have M4 := hid m4; have HX4 := hid hx4; have HBF := hid hbF; have HBS := hid hbs; clear m4 hx4 hbF hbs ho4 HC2))
      all_goals
        go_wp2
        go_ret
        obtain ⟨Y, hY⟩ : ∃ Y, Y = w4.setCell ⟨z + 1 + 1, 2, none⟩ (.func (.func f4) fi4 ca4) := ⟨_, rfl⟩
        have hYo : ∀ k, k ≠ z + 1 + 1 → Y.heap[k]? = w4.heap[k]? := fun k hk => by rw [hY]; exact Below.heap_setCell _ _ _ _ hk
        have sX3 : X.heap.size ≤ w3.heap.size := M3.out.chg.size
        have s34 := M4.out.chg.size
        have hzz := HZ.out
        have hsw := HXB.out.size
        have hbs := HBS.out
        have hFn : ∀ k ∈ F, k ∈ FX ∨ X.heap.size ≤ k := fun k hk => by
          rcases M4.out.new k hk with h | h
          · rcases List.mem_append.1 h with h | h
            · exact .inl h
            · rcases M3.out.new k h with h | h
              · cases h
              · exact .inr h
          · right; omega
        have hgF : z + 1 + 1 ∉ F := fun hm => by
          rcases hFn _ hm with h | h
          · have := hFX _ h; omega
          · omega
        have hYb : Below w.heap.size w Y := by
          rw [hY]
          exact (HXB.out.drew.trans ((M3.out.chg.trans M4.out.chg).below (by show w.heap.size ≤ X.heap.size; omega) (fun k hk => by simp at hk; omega))).setCell (by show w.heap.size ≤ z + 1 + 1; omega) _
        refine ⟨z + 1 + 1, b, .func (.func f4) fi4 ca4, F, [z + 1 + 1, z + 1, nb], ⟨.slice (some ⟨tb, 0, none⟩) 1 tcap, hv, .func (.func f4) fi4 ca4, n2, z + 1, nb, 4, 4⟩, rfl, by omega, ?_, rfl, rfl, rfl, ?_, ?_, ?_, ?_, ?_, ?_⟩
        · rw [← hY]
          refine ⟨⟨.slice none 0 0, [], [], ?_, World.ownsRow_nil _ _ _ _, .nil, by simp, by simp [Value.ownBlock]⟩, ⟨#[], 0, ?_, rfl, (by intro x hx; cases hx), (by intro x hx; cases hx)⟩, ⟨rfl, .inr ⟨nb, 4, #[M1, M1, M1, M1], rfl, ?_, ?_, Nat.le_refl _, ?_, rfl, rfl⟩⟩, rfl, (by show 2 ≤ 4; decide), (by show 4 ≤ 10000; decide), ⟨(by show w.heap.size ≤ z + 1 + 1; omega), (by show w.heap.size ≤ z + 1; omega)⟩⟩
          · rw [hY]; exact Joins.block_setCell (i := 2) M4.out.ob _
          · show Y.heap[z + 1]? = _
            exact (hYo (z + 1) (by omega)).trans ((HO4.out (z + 1) (by omega) (by omega)).trans HXM.out)
          · show w.heap.size ≤ nb; omega
          · exact (hYo nb (by omega)).trans ((HO4.out nb hnl (by omega)).trans HXN.out)
          · unfold maxLen; omega
        · rw [← hY]
          exact M4.out.rep.kept fun k hk => hYo k (fun e => hgF (e ▸ hk))
        · rw [← hY]
          exact (hYo b (by omega)).trans HX4.out
        · intro k hk hm
          simp only [List.mem_cons, List.not_mem_nil, or_false] at hm
          rcases hFn k hk with h | h
          · have := hFX k h; omega
          · omega
        · intro hm
          simp only [List.mem_cons, List.not_mem_nil, or_false] at hm
          omega
        · intro k hm
          simp only [List.mem_cons, List.not_mem_nil, or_false] at hm
          omega
        · rw [← hY]
          exact hYb
end Go.Proofs.Ytnpocciioedgpaa
