/- HELPERS: captures lie within. -/
import Derived.Test.YtdidopgenhpakaaZS08
import Derived.Test.YtdidopgenhpakaaTh
import Derived.Test.YtdidopgenhpakaaZS02
import Derived.Test.YtdidopgenhpakaaGa
import Derived.Test.YtdidopgenhpakaaZS06
import Derived.Test.YtdidopgenhpakaaZS07
import Derived.Test.YtdidopgenhpakaaTk
/- HELPERS: a walk's object is made, for any text and tree. -/
namespace Go.Proofs.Ytdidopgenhpakaa
open Go.RowKit
set_option linter.unusedVariables false
set_option linter.unusedSimpArgs false
theorem step_call2 {P : Program} {ops : Array Oper} {o : Oper} {a : Act} {w : World} {K : Act → World → Prop} {Q : Exit → Act → World → Prop} {E : Prop} (hg : o.guard = none) (f : FuncId) (x y : Operand) (t u : TypeId)
    (hop : o.op = Op.call { callee := Callee.value (.func f), args := #[x, y], argTypes := #[t, u] }) (hen : ∀ args w, (callFunc f args).run P w = .ok (.enter f args) w)
    (hc : Calls P f #[a.eval x, a.eval y] w fun e w' => ∃ v, e = .returned v ∧ K (a.put o.dst v) w') :
    if Region.wanted o (yielded ops a.tmps) = true then Oper.wp P o a w K Q else E := by
  have hw : Region.wanted o (yielded ops a.tmps) = true := by simp [Region.wanted, hg]
  rw [if_pos hw]
  have h2 := hen #[a.eval x, a.eval y] w
  unfold Oper.wp
  have ev : a.eval (.func f) = .func (.func f) #[] #[] := rfl
  simp [execOp, hop, resolve, invoke, ev, Deferred.ofValue, h2, Result.andThen]
  show Calls P f #[a.eval x, a.eval y] w _
  refine hc.mono fun e w' h => ?_
  obtain ⟨v, rfl, hk⟩ := h
  exact hk
theorem en50 : ∀ (args : Array Value) (w : World), (callFunc 54 args).run Try.prog w = .ok (.enter 54 args) w := enter_of Try.func54 (by kernel_rfl) rfl
abbrev Nd.c (N : Nd) (k : Int) : Array Value := #[.int .i64 k, .slice N.r1 N.r2 N.r3, .int .i64 N.a2, .slice N.s1 N.s2 N.s3, .int .i64 N.a4, .int .i64 N.a5, .bool N.a6, .int .i64 N.a7, .string N.a8]
theorem moved_old {w w' : World} {v v' : Value} {k : Nat} (h : Moved w w' v v') (hk : k < w.heap.size) (hn : v.ownBlock ≠ some k) : w'.heap[k]? = w.heap[k]? := by
  rcases h with ⟨_, h⟩ | ⟨_, h⟩
  · exact h.block k hk (fun e => hn e.symm)
  · exact h.block k hk (by simp)
theorem text_below {N M : Nat} {w w' : World} {ad : Option Addr} {n : Nat} {l : List Int} (h : Look.TextAt N w ad n l) (hb : Below N w w') (hM : N ≤ M) : Look.TextAt M w' ad n l := by
  obtain ⟨h1, h2, h | ⟨b, off, ha, hbN, hc⟩⟩ := h.below hb
  · exact ⟨h1, h2, .inl h⟩
  · exact ⟨h1, h2, .inr ⟨b, off, ha, by omega, hc⟩⟩
/-- the object while what holds is told: z the node's box, then the map, then the object -/
structure Hol (w wq : World) (N : Nd) (k : Int) (tv hv : Value) (i : Nat) (vals : List Int) : Prop where
  bel : Below w.heap.size w wq
  node : wq.heap[w.heap.size]? = some (.cells (N.c k) 25 (0, 0))
  map : wq.heap[w.heap.size + 1]? = some (.map #[] 0)
  ob : wq.heap[w.heap.size + 1 + 1]? = some (.cells #[tv, hv, .nilFunc, .int .i64 0, .map (some (w.heap.size + 1)), .slice none 0 0, .slice none 0 0] 86 (0, 0))
  row : wq.ownsRow (w.heap.size + 1 + 1 + 1) 3 1 hv i (I64 vals)
theorem Hol.next {w wr w1 w2 : World} {N : Nd} {k : Int} {tv v' : Value} {v1 : Option Addr} {v3 i : Nat} {vals : List Int} {x : Int} (H : Hol w wr N k tv (.slice v1 i v3) i vals) (hb : Below wr.drew.heap.size wr.drew w1) (o : Obj) (hm : Moved (w1.alloc o) w2 (.slice v1 i v3) v')
    (ho : w2.ownsRow (w.heap.size + 1 + 1 + 1) 3 1 v' (i + 1) (I64 vals ++ [.int .i64 x])) : Hol w (w2.setCell ⟨w.heap.size + 1 + 1, 1, none⟩ v') N k tv v' (i + 1) (vals ++ [x]) := by
  have hlo := (Array.getElem?_eq_some_iff.1 H.ob).1
  have hs1 : wr.heap.size ≤ w1.heap.size := hb.size
  have hne : ∀ k, k < w.heap.size + 1 + 1 + 1 → (Value.slice v1 i v3).ownBlock ≠ some k := fun k hk e => by have := (H.row.lt k e).1; omega
  have e2 : ∀ k, k < w.heap.size + 1 + 1 + 1 → w2.heap[k]? = wr.heap[k]? := fun k hk => (moved_old hm (by simp; omega) (hne k hk)).trans ((heap_alloc_old w1 o (by omega)).trans (hb.block k (by show k < wr.heap.size; omega)))
  have e3 : ∀ k, k < w.heap.size + 1 + 1 → (w2.setCell ⟨w.heap.size + 1 + 1, 1, none⟩ v').heap[k]? = wr.heap[k]? := fun k hk => (Below.heap_setCell _ _ _ _ (by show k ≠ w.heap.size + 1 + 1; omega)).trans (e2 k (by omega))
  have hob := (e2 (w.heap.size + 1 + 1) (by omega)).trans H.ob
  have hs2 : w1.heap.size ≤ w2.heap.size := by rcases hm with ⟨_, h⟩ | ⟨_, h⟩ <;> (have := h.size; simp at this; omega)
  refine ⟨⟨?_, ?_, ?_, ?_, fun k hk => (e3 k (by omega)).trans (H.bel.block k hk)⟩, (e3 _ (by omega)).trans H.node, (e3 _ (by omega)).trans H.map, Joins.block_setCell (i := 1) hob _, ?_⟩
  · rcases hm with ⟨_, h⟩ | ⟨_, h⟩ <;> exact h.os.trans (hb.os.trans H.bel.os)
  · rcases hm with ⟨_, h⟩ | ⟨_, h⟩ <;> exact h.tape.trans (hb.tape.trans H.bel.tape)
  · rcases hm with ⟨_, h⟩ | ⟨_, h⟩ <;> exact h.output.trans (hb.output.trans H.bel.output)
  · have := H.bel.size; simp [World.setCell]; omega
  · rw [show I64 (vals ++ [x]) = I64 vals ++ [.int .i64 x] by simp]
    exact own_setCell ho (own_ne ho hob (by decide))
set_option maxRecDepth 100000 in
set_option maxHeartbeats 4000000 in
theorem newWalks31g (N : Nd) (k : Int) (tx : List Int) (ad : Option Addr) (tn tcap K : Nat) (gi : Int) (w : World) (htx : Look.TextAt w.heap.size w ad tn tx) (htn : tn ≤ 64) (hK : (K : Int) = 2 * gi + 2) (hgi : 0 ≤ gi ∧ gi ≤ 500)
    (HGI : Hid (∀ w', Below w.heap.size w w' → Calls Try.prog 56 #[N.v k] w' fun e w'' => e = .returned (.int .i64 gi) ∧ Below w'.heap.size w' w'')) (PB : Int → Way → List Nat → List Nat → World → Prop) (hPB : ∀ n W F FE w' w'', PB n W F FE w' → w'.heap.size ≤ w''.heap.size → (∀ k ∈ FE, w''.heap[k]? = w'.heap[k]?) → PB n W F FE w'')
    (HBG : Hid (∀ (A : Six) (w' : World) (v : Value) (F0 : List Nat), Below w.heap.size w w' → O7 w' (w.heap.size + 1 + 1) A 1 → Rep (w.heap.size + 1 + 1) K AL w' v (.once 1 .through) F0 → w.heap.size + 1 + 1 ∉ F0 → (∀ k ∈ F0, w.heap.size + 1 + 1 + 1 ≤ k) →
      Calls Try.prog 57 #[pt (w.heap.size + 1 + 1), N.v k, v] w' fun e w'' => ∃ u F FE n1 W, e = .returned u ∧ Mk (w.heap.size + 1 + 1) K AL w' w'' A n1 u W (List.range w.heap.size ++ F0) F ∧ PB n1 W F FE w'' ∧ (∀ k ∈ FE, k ∈ List.range w.heap.size ++ F0 ∨ w'.heap.size ≤ k))) :
    Calls Try.prog 40 #[N.v k, .slice ad tn tcap] w fun e w' => ∃ g u F FE B C n1 W, e = .returned (pt g) ∧ g = w.heap.size + 1 + 1 ∧ WS w.heap.size w' g C ⟨[], List.replicate K (-1), []⟩ B ∧ C.tv = .slice ad tn tcap ∧ (∃ hb, TX w' C.hv (hols tx) [hb] ∧ w.heap.size ≤ hb ∧ hb ∉ B ∧ hb < w'.heap.size) ∧ C.wh = u ∧ C.K = K ∧ Rep g K AL w' u W F ∧ PB n1 W F FE w' ∧ (∀ k ∈ F, k ∉ B) ∧ (∀ k ∈ FE, k ∉ B) ∧ (∀ k ∈ B, w.heap.size ≤ k) ∧ Below w.heap.size w w' := by
  have hm := hmf
  have hmm : ∀ w, (Instr.makeMap 82 none).run Try.prog w = .ok (.map (some w.heap.size)) (w.alloc (.map #[] 0)) := fun _ => rfl
  obtain ⟨h1, h2, h3, h4⟩ := three_new w (N.o k) (.map #[] 0) (.cells #[.slice ad tn tcap, .slice none 0 0, .nilFunc, .int .i64 0, .map (some (w.heap.size + 1)), .slice none 0 0, .slice none 0 0] 86)
  have hH : Hol w _ N k (.slice ad tn tcap) (.slice none 0 0) 0 [] := ⟨below_two' w _ _ |>.trans (Joins.below_le (Joins.below_alloc1 _ _) (by simp; omega)), h1, h2, h3, World.ownsRow_nil _ _ _ _⟩
  have HH := hid hH
  obtain ⟨i0, hi0, hz0, hz1, hz2⟩ := info_parts info3
  have HT := hid htx
  have HTL : Hid (tn = tx.length) := htx.1
  clear hH h1 h2 h3 h4 htx
  go_enter Try.func40, Try.ntmps40
  go_wp2_with fail
  obtain ⟨z, hz⟩ : ∃ z, z = w.heap.size := ⟨_, rfl⟩
  go_loopw [14] (fun x wq => ∃ i : Nat, x = .int .i64 (i : Int) ∧ i ≤ tn + 1 ∧ Hid (∃ hv vals, Hol w wq N k (.slice ad tn tcap) hv i vals ∧ vals = (List.range i).map fun (p : Nat) => Look.atN tx (p : Int))) (fun x _ => tn + 1 - (intOf x).toNat)
  case atStart => exact ⟨0, rfl, by omega, by exact ⟨_, _, HH.out, rfl⟩⟩
  case round =>
    obtain ⟨i, rfl, hi, HI⟩ := hrel
    by_cases hil : i < tn + 1
    · obtain ⟨hv, vals, hX, hvals⟩ := HI.out
      have HV := hid hvals
      clear hvals
      have b1 : decide ((i : Int) < (tn : Int) + 1) = true := by simp; omega
      have b2 : (i : Int) < (tn : Int) + 1 := by omega
      have HX := hid hX
      have ad1 : IntKind.i64.wrap ((i : Int) + 1) = (i : Int) + 1 := by simp [IntKind.wrap, IntKind.bits, IntKind.signed]; omega
      have g1 : wr.cell? ⟨w.heap.size + 1 + 1, 1, none⟩ = some hv := Joins.cell_of_block hX.ob 1
      obtain ⟨v1, v3, rfl⟩ : ∃ v1 v3, hv = .slice v1 i v3 := by
        rcases Joins.ownsRow_forms hX.row with ⟨rfl, h⟩ | ⟨b, cap, rfl⟩
        · exact ⟨none, 0, by rw [h]⟩
        · exact ⟨_, _, rfl⟩
      have hAt := Look.at10 tx ad tn tcap (i : Int) wr.drew (text_below HT.out hX.bel.drew (by have := hX.bel.size; exact this))
      clear hX HI
      rw [← hz] at g1 ⊢
      have HZ := hid hz
      clear hz
      go_wp2_with fail
      have hrow1 : ∀ w1, Below wr.drew.heap.size wr.drew w1 → w1.ownsRow (w.heap.size + 1 + 1 + 1) 3 1 (.slice v1 i v3) i (I64 vals) ∧ w1.heap[w.heap.size + 1 + 1]? = some (.cells #[.slice ad tn tcap, .slice v1 i v3, .nilFunc, .int .i64 0, .map (some (w.heap.size + 1)), .slice none 0 0, .slice none 0 0] 86 (0, 0)) ∧ w.heap.size + 1 + 1 + 1 ≤ w1.heap.size := fun w1 hb => by
        have hl := (Array.getElem?_eq_some_iff.1 HX.out.ob).1
        exact ⟨row_kept HX.out.row fun b hb2 => hb.block b (HX.out.row.lt b hb2).2, (hb.block _ hl).trans HX.out.ob, by have := hb.size; have h : wr.heap.size ≤ w1.heap.size := this; omega⟩
      rw [← HZ.out] at hrow1
      have HR1 := hid hrow1
      clear hrow1
      go_region_law (first | (refine step_append_moveN rfl (.tmp 21) (.tmp 25) 43 rfl (z + 1 + 1 + 1) 3 i0 (.int .i64 0) 1 8 Try.underlying43 hi0 hz0 hz1 hz2 rfl (by decide) (.slice v1 i v3) i (I64 vals) rfl ((HR1.out w1 HB1.out).1.alloc _) ⟨w1.heap.size, 0, none⟩ 1 1 [.int .i64 (Look.atN tx (i : Int))] rfl rfl (by decide) (one_new w1 _ 3) (by intro u hu; simp at hu; subst hu; rfl) (by unfold maxLen; omega) (by omega) (by have := (HR1.out w1 HB1.out).2.2; simp; omega) ?_; intro v' w2 ho2 hm2; obtain ⟨vb, vc, rfl⟩ := Joins.ownsRow_form ho2 (by omega); have hbl := (HR1.out w1 HB1.out); have hne : (Value.slice v1 i v3).ownBlock ≠ some (z + 1 + 1) := (fun e => by have := (hbl.1.lt _ e).1; omega); have hb2 : w2.heap[z + 1 + 1]? = some (.cells #[.slice ad tn tcap, .slice v1 i v3, .nilFunc, .int .i64 0, .map (some (z + 1)), .slice none 0 0, .slice none 0 0] 86 (0, 0)) := (moved_old hm2 (by simp; omega) hne).trans ((heap_alloc_old w1 _ (by omega)).trans hbl.2.1); have c2 : w2.cell? ⟨z + 1 + 1, 1, none⟩ = some (.slice v1 i v3) := Joins.cell_of_block hb2 1; have f2 := Joins.unfrozen_of_block hb2 1; have HO2 := hid ho2; have HM2 := hid hm2; have HB2 := hid hb2; clear ho2 hm2 hb2 hbl hne) | (refine step_call2 rfl 54 (.tmp 22) (.tmp 23) 43 3 rfl en50 (Calls.mono hAt (fun e w1 hG => ?_)); obtain ⟨he, hb1⟩ := hG; subst he; refine ⟨_, rfl, ?_⟩; have d1 : w1.cell? ⟨z + 1 + 1, 1, none⟩ = some (.slice v1 i v3) := Joins.cell_of_block (HR1.out w1 hb1).2.1 1; have dl : z + 1 + 1 < w1.heap.size := (by have := (HR1.out w1 hb1).2.2; omega); have HB1 := hid hb1; clear hb1 hAt))
      all_goals
        go_wp2
        refine ⟨⟨i + 1, by push_cast; rfl, by omega, ?_⟩, by simp [intOf]; omega⟩
        have h := HX.out.next HB1.out _ HM2.out (by rw [← HZ.out]; exact HO2.out)
        rw [← HZ.out] at h
        exact ⟨_, _, h, by rw [HV.out, List.range_succ, List.map_append]; rfl⟩
    · obtain rfl : i = tn + 1 := by omega
      obtain ⟨hv, vals, hX, hvals⟩ := HI.out
      have HV := hid hvals
      clear hvals
      have HX := hid hX
      have hlo := (Array.getElem?_eq_some_iff.1 hX.ob).1
      obtain ⟨o0, o1, o2, o3, o4, o5, o6, o7, o8⟩ := nine' hX.node
      have HG1 := HGI.out (wr.alloc (.cells #[M1] 3)) (hX.bel.alloc (by have := hX.bel.size; omega) _)
      have b9 : decide (((tn + 1 : Nat) : Int) < (tn : Int) + 1) = false := by simp
      have b9' : decide ((tn : Int) + 1 < (tn : Int) + 1) = false := by simp
      have m1 : IntKind.i64.wrap (2 * gi) = 2 * gi := by simp [IntKind.wrap, IntKind.bits, IntKind.signed]; omega
      have m2 : IntKind.i64.wrap (2 * gi + 2) = (K : Int) := by simp [IntKind.wrap, IntKind.bits, IntKind.signed]; omega
      clear hX HI
      rw [← hz] at o0 o1 o2 o3 o4 o5 o6 o7 o8 hlo ⊢
      have HZ := hid hz
      clear hz
      have zl : z < wr.heap.size := by omega
      have hgo : ∀ w1 w2, Below (wr.alloc (.cells #[M1] 3)).heap.size (wr.alloc (.cells #[M1] 3)) w1 → Below w1.heap.size w1 w2 → ∀ k, k < wr.heap.size → w2.heap[k]? = wr.heap[k]? := fun w1 w2 h1 h2 k hk => (h2.block k (by have := h1.size; simp at this; omega)).trans ((h1.block k (by simp; omega)).trans (heap_alloc_old wr _ hk))
      have HGO := hid hgo
      have HKK := hid hK
      clear hgo hK
      go_upto_region 8 with (first | (go_at_call 56; (with_reducible refine HG1.mono ?_); rintro e w1 ⟨rfl, hb1⟩; have HB1 := hid hb1; have HC1 := repeat51g wr.heap.size 1 K (by have := HKK.out; omega) (by have := HKK.out; omega) w1 ((hb1.cell (p := ⟨wr.heap.size, 0, none⟩) (by simp)).trans (by simp)) (by have := hb1.size; simp at this; omega); clear hb1 HG1) | (go_at_call 55; (with_reducible refine HC1.mono ?_); rintro e w2 ⟨rfl, hb2, hn2⟩; have HB2 := hid hb2; have HN2 := hid hn2; have hg2 : w2.heap[z + 1 + 1]? = some (.cells #[.slice ad tn tcap, hv, .nilFunc, .int .i64 0, .map (some (z + 1)), .slice none 0 0, .slice none 0 0] 86 (0, 0)) := (HGO.out w1 w2 HB1.out hb2 _ hlo).trans (by rw [HZ.out]; exact HX.out.ob); have c5 : w2.cell? ⟨z + 1 + 1, 5, none⟩ = some (.slice none 0 0) := Joins.cell_of_block hg2 5; have f5 := Joins.unfrozen_of_block hg2 5; have HG2 := hid hg2; clear hb2 hn2 HC1 hg2))
      obtain ⟨nb, hnb⟩ : ∃ nb, nb = w1.heap.size := ⟨_, rfl⟩
      rw [← hnb]
      obtain ⟨X, hX⟩ : ∃ X, X = w2.setCell ⟨z + 1 + 1, 5, none⟩ (.slice (some ⟨nb, 0, none⟩) K K) := ⟨_, rfl⟩
      rw [← hX]
      have hs1 : wr.heap.size < w1.heap.size := by have := HB1.out.size; simp at this; omega
      have hXs : X.heap.size = w2.heap.size := by rw [hX]; simp [World.setCell]
      obtain ⟨arr, ha1, ha2, ha3⟩ := HN2.out
      rw [← hnb] at ha1
      have hnl : nb < X.heap.size := by rw [hXs]; exact (Array.getElem?_eq_some_iff.1 ha1).1
      have hXo : ∀ k, k < wr.heap.size → k ≠ z + 1 + 1 → X.heap[k]? = wr.heap[k]? := fun k hk hne => by rw [hX]; exact (Below.heap_setCell _ _ _ _ hne).trans (HGO.out w1 w2 HB1.out HB2.out k hk)
      have hXg : O7 X (z + 1 + 1) ⟨.slice ad tn tcap, hv, .nilFunc, .map (some (z + 1)), .slice (some ⟨nb, 0, none⟩) K K, .slice none 0 0⟩ 0 := by rw [hX]; exact Joins.block_setCell (i := 5) HG2.out _
      have hXn : X.heap[nb]? = some (.cells arr 3 (0, 0)) := by rw [hX]; exact (Below.heap_setCell _ _ _ _ (by show nb ≠ z + 1 + 1; omega)).trans ha1
      have hXz : X.heap[z]? = some (.cells (N.c k) 25 (0, 0)) := (hXo z zl (by omega)).trans (by rw [HZ.out]; exact HX.out.node)
      have hXm : X.heap[z + 1]? = some (.map #[] 0) := (hXo (z + 1) (by omega) (by omega)).trans (by rw [HZ.out]; exact HX.out.map)
      have hXb : Below w.heap.size w X := by
        rw [hX]
        have hz := HZ.out
        exact (HX.out.bel.trans (Joins.below_le (((Below.refl _ wr).alloc (Nat.le_refl _) _).trans (Joins.below_le (HB1.out.trans (Joins.below_le HB2.out (by simp; omega))) (by simp))) HX.out.bel.size)).setCell (by show w.heap.size ≤ z + 1 + 1; omega) _
      have HC : Calls Try.prog 58 #[pt (z + 1 + 1), .func (.func 59) #[pt (z + 1 + 1)] #[]] X.drew fun e w' => ∃ v F, e = .returned v ∧ Mk (z + 1 + 1) K AL X.drew w' ⟨.slice ad tn tcap, hv, .nilFunc, .map (some (z + 1)), .slice (some ⟨nb, 0, none⟩) K K, .slice none 0 0⟩ 1 v (.once 1 .through) [] F := by
        simpa using once54 (z + 1 + 1) K AL _ 0 (.func (.func 59) #[pt (z + 1 + 1)] #[]) .through [] X.drew hXg .through (by simp) ⟨by omega, by omega⟩
      have hS : ∀ w3 : World, (∀ k, k < X.heap.size → k ≠ z + 1 + 1 → w3.heap[k]? = X.heap[k]?) → w3.heap[z]? = some (.cells (N.c k) 25 (0, 0)) := fun w3 h => (h z (by omega) (by omega)).trans hXz
      have HSZ := hid hS
      have HXG := hid hXg
      have HXN := hid hXn
      have HXM := hid hXm
      have HXB := hid hXb
      have HXS := hid hXs
      have HXO := hid hXo
      have HA2 := hid ha2
      have HA3 := hid ha3
      have hgX : z + 1 + 1 < X.heap.size := by omega
      have x9 := nine' hXz
      have HBGz := hid HBG.out
      rw [← HZ.out] at HBGz
      clear hX hXo hXg hXn hXz hXm hXb hXs hS c5 f5 o0 o1 o2 o3 o4 o5 o6 o7 o8 ha1 ha2 ha3
      go_region_held2 (fun w3 => w3.cell? ⟨z, 0, none⟩ = some (.int .i64 k) ∧ w3.cell? ⟨z, 1, none⟩ = some (.slice N.r1 N.r2 N.r3) ∧ w3.cell? ⟨z, 2, none⟩ = some (.int .i64 N.a2) ∧ w3.cell? ⟨z, 3, none⟩ = some (.slice N.s1 N.s2 N.s3) ∧ w3.cell? ⟨z, 4, none⟩ = some (.int .i64 N.a4) ∧ w3.cell? ⟨z, 5, none⟩ = some (.int .i64 N.a5) ∧ w3.cell? ⟨z, 6, none⟩ = some (.bool N.a6) ∧ w3.cell? ⟨z, 7, none⟩ = some (.int .i64 N.a7) ∧ w3.cell? ⟨z, 8, none⟩ = some (.string N.a8))
        (first | exact x9 | exact nine' (HSZ.out w3 (fun k hk hne => M3.out.chg.block k hk (by simpa using hne))) | exact nine' (HSZ.out w4 (fun k hk hne => HO4.out k hk hne)) | exact nine' (HSZ.out _ (fun k hk hne => (Below.heap_setCell _ _ _ _ hne).trans (HO4.out k hk hne))))
        (first | (go_at_call 58; (with_reducible refine HC.mono ?_); rintro e w3 ⟨v3, F3, rfl, m3⟩; obtain ⟨f3, fi3, ca3, rfl⟩ := m3.rep.form; have HC2 := HBGz.out _ w3 _ F3 (by rw [HZ.out]; exact HXB.out.drew.trans (m3.chg.below (by have := HXB.out.size; show w.heap.size ≤ X.heap.size; omega) (fun k hk => by simp at hk; have := HZ.out; omega))) m3.ob m3.rep (m3.away (by simp) hgX) (fun k hk => by rcases m3.new k hk with h | h; cases h; have h : X.heap.size ≤ k := h; omega); have M3 := hid m3; clear m3 HC) | (go_at_call 57; (with_reducible refine HC2.mono ?_); rintro e w4 ⟨u, F, FE, n1, W1, rfl, m4, pb4, hE4⟩; obtain ⟨f4, fi4, ca4, rfl⟩ := m4.rep.form; have c2 : w4.cell? ⟨z + 1 + 1, 2, none⟩ = some .nilFunc := Joins.cell_of_block m4.ob 2; have f2 := Joins.unfrozen_of_block m4.ob 2; have ho4 : ∀ k, k < X.heap.size → k ≠ z + 1 + 1 → w4.heap[k]? = X.heap[k]? := (fun k hk hne => (m4.chg.block k (by have := M3.out.chg.size; have h : X.heap.size ≤ w3.heap.size := this; omega) (by simpa using hne)).trans (M3.out.chg.block k hk (by simpa using hne))); have HO4 := hid ho4; have M4 := hid m4; have PB4 := hid pb4; have HE4 := hid hE4; clear m4 pb4 hE4 ho4 HC2))
      all_goals
        go_wp2
        go_ret
        obtain ⟨Y, hY⟩ : ∃ Y, Y = w4.setCell ⟨z + 1 + 1, 2, none⟩ (.func (.func f4) fi4 ca4) := ⟨_, rfl⟩
        have hYo : ∀ k, k ≠ z + 1 + 1 → Y.heap[k]? = w4.heap[k]? := fun k hk => by rw [hY]; exact Below.heap_setCell _ _ _ _ hk
        have hYs : Y.heap.size = w4.heap.size := by rw [hY]; simp [World.setCell]
        have sX3 : X.heap.size ≤ w3.heap.size := M3.out.chg.size
        have s34 := M4.out.chg.size
        have hzz := HZ.out
        have hsw := HXB.out.size
        have hold : ∀ k ∈ List.range z ++ F3, k < z ∨ X.heap.size ≤ k := fun k hk => by
          rcases List.mem_append.1 hk with h | h
          · simp at h; exact .inl h
          · rcases M3.out.new k h with h | h
            · cases h
            · exact .inr h
        have hFn : ∀ k ∈ F, k < z ∨ X.heap.size ≤ k := fun k hk => by
          rcases M4.out.new k hk with h | h
          · exact hold k h
          · right; omega
        have hEn : ∀ k ∈ FE, k < z ∨ X.heap.size ≤ k := fun k hk => by
          rcases HE4.out k hk with h | h
          · exact hold k h
          · right; omega
        have hYb : Below w.heap.size w Y := by
          rw [hY]
          exact (HXB.out.drew.trans ((M3.out.chg.trans M4.out.chg).below (by show w.heap.size ≤ X.heap.size; omega) (fun k hk => by simp at hk; omega))).setCell (by show w.heap.size ≤ z + 1 + 1; omega) _
        have harr : arr = (List.replicate K M1).toArray := by
          apply Array.ext
          · simp [HA2.out]
          · intro i h1 h2
            have := HA3.out i (by rw [← HA2.out]; exact h1)
            rw [Array.getElem?_eq_getElem h1] at this
            simp at this ⊢
            exact this
        have hKK := HKK.out
        have hYnb : Y.heap[nb]? = some (.cells (List.replicate K M1).toArray 3 (0, 0)) := (hYo nb (by omega)).trans ((HO4.out nb hnl (by omega)).trans (by rw [← harr]; exact HXN.out))
        obtain ⟨hb, hcap, rfl⟩ : ∃ hb hcap, hv = .slice (some ⟨hb, 0, none⟩) (tn + 1) hcap := by
          rcases Joins.ownsRow_forms HX.out.row with ⟨rfl, h⟩ | ⟨b, cap, rfl⟩
          · omega
          · exact ⟨_, _, rfl⟩
        have hrl := HX.out.row.lt hb rfl
        have hrowY : Y.ownsRow (w.heap.size + 1 + 1 + 1) 3 1 (.slice (some ⟨hb, 0, none⟩) (tn + 1) hcap) (tn + 1) (I64 vals) := row_kept HX.out.row fun b hb2 => by
          cases hb2
          exact (hYo hb (by omega)).trans ((HO4.out hb (by omega) (by omega)).trans (HXO.out hb hrl.2 (by omega)))
        have hvl : vals = hols tx := by rw [HV.out, HTL.out]; rfl
        have hlen : (hols tx).length = tn + 1 := by rw [hols_len, ← HTL.out]
        have hcapl : tn + 1 ≤ hcap := by
          rcases hrowY.2 with ⟨h, _⟩ | ⟨g, cap, cur, h, _, _, h2, _⟩
          · simp at h
          · simp only [Value.slice.injEq] at h
            obtain ⟨_, h3, rfl⟩ := h
            omega
        have htx : TX Y (.slice (some ⟨hb, 0, none⟩) (tn + 1) hcap) (hols tx) [hb] := by
          refine ⟨some ⟨hb, 0, none⟩, hcap, by rw [hlen], by rw [hlen]; exact hcapl, .inr ⟨hb, 0, rfl, by simp, (hrowY.lt hb rfl).2, fun j hj => ?_⟩⟩
          rw [Nat.zero_add, hrowY.cellAt j (by rw [hlen] at hj; omega), hvl]
          simp [List.getElem?_eq_getElem hj]
        have hws : WS w.heap.size Y (z + 1 + 1) ⟨.slice ad tn tcap, .slice (some ⟨hb, 0, none⟩) (tn + 1) hcap, .func (.func f4) fi4 ca4, n1, z + 1, nb, K, K⟩ ⟨[], List.replicate K (-1), []⟩ [z + 1 + 1, z + 1, nb] := by
          refine ⟨⟨.slice none 0 0, [], [], ?_, World.ownsRow_nil _ _ _ _, .nil, by simp, by simp [Value.ownBlock]⟩, ⟨#[], 0, ?_, rfl, (by intro x hx; cases hx), (by intro x hx; cases hx)⟩, ⟨by simp, .inr ⟨nb, K, (List.replicate K M1).toArray, by simp [Cx.nv], ?_, hYnb, by simp, ?_, by simp, ?_⟩⟩, by simp, (by show 2 ≤ K; omega), (by show K ≤ 10000; omega), ⟨(by show w.heap.size ≤ z + 1 + 1; omega), (by show w.heap.size ≤ z + 1; omega)⟩⟩
          · rw [hY]; exact Joins.block_setCell (i := 2) M4.out.ob _
          · show Y.heap[z + 1]? = _
            exact (hYo (z + 1) (by omega)).trans ((HO4.out (z + 1) (by omega) (by omega)).trans HXM.out)
          · show w.heap.size ≤ nb; omega
          · unfold maxLen; omega
          · simp
        have haB : ∀ k, (k < z ∨ X.heap.size ≤ k) → k ∉ [z + 1 + 1, z + 1, nb] := fun k h hm => by
          simp only [List.mem_cons, List.not_mem_nil, or_false] at hm
          rcases h with h | h <;> omega
        have hrep : Rep (z + 1 + 1) K AL Y (.func (.func f4) fi4 ca4) W1 F := M4.out.rep.kept fun k hk => hYo k (by rcases hFn k hk with h | h <;> omega)
        have hpb : PB n1 W1 F FE Y := hPB _ _ _ _ _ _ PB4.out (by omega) (fun k hk => hYo k (by rcases hEn k hk with h | h <;> omega))
        rw [← hY]
        refine ⟨z + 1 + 1, .func (.func f4) fi4 ca4, F, FE, [z + 1 + 1, z + 1, nb], _, n1, W1, rfl, by omega, hws, rfl, ⟨hb, htx, by omega, ?_, (hrowY.lt hb rfl).2⟩, rfl, rfl, hrep, hpb, fun k hk => haB k (hFn k hk), fun k hk => haB k (hEn k hk), fun k hm => ?_, hYb⟩
        · simp only [List.mem_cons, List.not_mem_nil, or_false]
          omega
        · simp only [List.mem_cons, List.not_mem_nil, or_false] at hm
          omega
end Go.Proofs.Ytdidopgenhpakaa
/- HELPERS: what comes of the walks from a place. -/
namespace Go.Proofs.Ytdidopgenhpakaa
open Go.RowKit
set_option linter.unusedVariables false
set_option linter.unusedSimpArgs false
mutual
theorem Rep.only {g K : Nat} {L L' : Nat → Prop} {w : World} {v : Value} {d : Way} {F : List Nat} (h : Rep g K L w v d F) (hL : ∀ b ∈ d.ags, L' b) : Rep g K L' w v d F := by
  cases h with
  | through => exact .through
  | once h5 h2 h3 hn hd => exact .once h5 h2 h3 hn (hd.only hL)
  | noted h3 h4 h5 hc hd => exact .noted h3 h4 h5 hc (hd.only hL)
  | runeOf h3 h4 h5 hr hd => exact .runeOf h3 h4 h5 hr (hd.only hL)
  | ifHolds h4 h3 h5 hd => exact .ifHolds h4 h3 h5 (hd.only hL)
  | inOrder h1 hs hl => exact .inOrder h1 hs (hl.only hL)
  | again hb => exact .again (hL _ (by simp [Way.ags]))
theorem Reps.only {g K : Nat} {L L' : Nat → Prop} {w : World} {v : List Value} {d : List Way} {F : List Nat} (h : Reps g K L w v d F) (hL : ∀ b ∈ agsL d, L' b) : Reps g K L' w v d F := by
  cases h with
  | nil => exact .nil
  | cons h hs => exact .cons (h.only fun b hb => hL b (by simp [agsL, hb])) (hs.only fun b hb => hL b (by simp [agsL, hb]))
end
theorem row_slice {w : World} {N e size n : Nat} {v : Value} {xs : List Value} (h : w.ownsRow N e size v n xs) : ∃ a l c, v = .slice a l c := by
  rcases h.2 with ⟨rfl, _⟩ | ⟨g, cap, cur, rfl, _⟩
  · exact ⟨_, _, _, rfl⟩
  · exact ⟨_, _, _, rfl⟩
/-- the parses as they lie in memory -/
def Parsed (N : Nat) (w : World) (pv : Value) (l : List (Int × List Int)) : Prop := ∃ cs F, w.ownsRow N 69 2 pv l.length cs ∧ PR N w cs l F
set_option maxRecDepth 100000 in
set_option maxHeartbeats 4000000 in
theorem from32g (N g p : Nat) (C : Cx) (L : Nat → Prop) (E : Nat → Way) (W : Way) (tx : List Int) (s s' : Sg) (u : Value) (F FE Ft B : List Nat) (w : World) (hN : N ≤ w.heap.size) (hW : WS N w g C s B) (hwh : C.wh = u) (hR : Rep g C.K L w u W F) (hEn : Env g C.K L w E FE) (o : Bool) (hE : ∀ k, (E k).few o) (hWf : W.few o) (hT : TT o w C tx Ft) (htx : tx.length ≤ 100000)
    (aF : ∀ k ∈ F, k ∉ B) (aE : ∀ k ∈ FE, k ∉ B) (aT : ∀ k ∈ Ft, k ∉ B) (hFE : ∀ k ∈ FE, k < w.heap.size) (hFt : ∀ k ∈ Ft, k < w.heap.size) (hp : p ≤ tx.length) (hl : s'.parses.length < 1000000) (hx : Ex tx E W p { s with notes := s.notes.set 0 (p : Int) } s') :
    Calls Try.prog 41 #[pt g, .int .i64 (p : Int)] w fun e w' => ∃ pv, e = .returned pv ∧ Parsed N w' pv s'.parses ∧ ∃ B', Chg w w' B B' := by
  obtain ⟨pv, cs, F0, hg, _⟩ := hW.ex
  have hK := hW.two
  have hnb := hW.nblk
  obtain ⟨cur, hn⟩ := hnb
  have g5 : w.cell? ⟨g, 5, none⟩ = some (.slice (some ⟨C.nb, 0, none⟩) C.K C.ncap) := Joins.cell_of_block hg 5
  have rd := hW.read 0 (by omega)
  have uf := Joins.unfrozen_of_block hn 0
  have i1 : (0 : Int) < (C.K : Int) := by omega
  obtain ⟨f, fi, ca, hu⟩ := hR.form
  subst hu
  obtain ⟨X, hX⟩ : ∃ X, X = w.setCell ⟨C.nb, 0, none⟩ (.int .i64 (p : Int)) := ⟨_, rfl⟩
  have hXs : WS N X g C { s with notes := s.notes.set 0 (p : Int) } B := by rw [hX]; exact hW.note 0 (by omega) (p : Int)
  have hXc : Chg w X B B := by rw [hX]; exact (Chg.refl w B).set (a := ⟨C.nb, 0, none⟩) (.int .i64 (p : Int)) hW.blocks.2.2
  obtain ⟨pv2, cs2, F2, hg2, _⟩ := hXs.ex
  have x2 : X.cell? ⟨g, 2, none⟩ = some (.func (.func f) fi ca) := by rw [← hwh]; exact Joins.cell_of_block hg2 2
  have HC := exec (N := N) (g := g) (C := C) (L := L) (FE := FE) (Ft := Ft) (tx := tx) (E := E) (o := o) hE htx hx X _ F B hWf hp hl (Nat.le_trans hN hXc.size) hXs (hR.kept fun k hk => hXc.block k (hR.low k hk) (aF k hk))
    (hEn.kept fun k hk hk2 => hXc.block k hk2 (aE k hk)) (hT.kept (fun k hk hk2 => hXc.block k hk2 (aT k hk)) hXc.size) aF aE aT (fun k hk => Nat.lt_of_lt_of_le (hFE k hk) hXc.size) (fun k hk => by have := hXc.size; have := hFt k hk; omega)
  obtain ⟨f', fi', ca', e1, hcf, hC⟩ := HC
  simp only [Value.func.injEq, Fn.func.injEq] at e1
  obtain ⟨rfl, rfl, rfl⟩ := e1
  have HXC := hid hXc
  have HX := hid hX
  clear hW hg hn hR hEn hT hx hXs hXc hg2 aF aE aT hFt hFE hE hWf hl
  go_enter Try.func41, Try.ntmps41
  go_upto_region 2 with fail
  rw [← hX]
  clear hX
  go_wp2_with (first | ((with_reducible refine hC.mono ?_); rintro e w2 ⟨rfl, B2, hW2, hC2⟩; obtain ⟨pv3, cs3, F3, hg3, hp3, hP3, _⟩ := hW2.ex; have y6 : w2.cell? ⟨g, 6, none⟩ = some pv3 := Joins.cell_of_block hg3 6; have HP3 : Hid (Parsed N w2 pv3 s'.parses) := ⟨cs3, F3, hp3, hP3⟩; obtain ⟨q1, q2, q3, rfl⟩ := row_slice hp3; have HC2 := hid hC2; clear hC hW2 hC2 hg3 hp3 hP3))
  go_ret
  exact ⟨_, rfl, HP3.out, B2, HXC.out.trans HC2.out⟩
end Go.Proofs.Ytdidopgenhpakaa
/- HELPERS: every way comes to its end. -/
namespace Go.Proofs.Ytdidopgenhpakaa
open Go.RowKit
set_option linter.unusedVariables false
set_option linter.unusedSimpArgs false
/-- all pairs of a thing and a place -/
def box (top len : Nat) : List (Int × Int) := (List.range (top + 1)).flatMap fun (n : Nat) => (List.range (len + 1)).map fun (p : Nat) => ((n : Int), (p : Int))
theorem mem_box {top len : Nat} {n : Int} {p : Nat} (h0 : 0 ≤ n) (h1 : n ≤ (top : Int)) (hp : p ≤ len) : (n, (p : Int)) ∈ box top len := by
  simp only [box, List.mem_flatMap, List.mem_range, List.mem_map]
  exact ⟨n.toNat, by omega, p, by omega, by rw [Int.toNat_of_nonneg h0]⟩
/-- how many of them were not done -/
def left (top len : Nat) (s : Sg) : Nat := (box top len).countP fun q => !decide (q ∈ s.done)
/-- at how many places nothing came through -/
def left1 (len : Nat) (s : Sg) : Nat := (List.range (len + 1)).countP fun (p : Nat) => !decide ((1, (p : Int)) ∈ s.done)
theorem countP_lt {α : Type} {l : List α} {p p' : α → Bool} (h : ∀ x ∈ l, p' x = true → p x = true) {q : α} (hq : q ∈ l) (h1 : p q = true) (h2 : p' q = false) : l.countP p' + 1 ≤ l.countP p := by
  induction l with
  | nil => cases hq
  | cons x l ih =>
    have hm : l.countP p' ≤ l.countP p := List.countP_mono_left fun y hy => h y (by simp [hy])
    simp only [List.mem_cons] at hq
    rcases hq with rfl | hq
    · rw [List.countP_cons_of_pos h1, List.countP_cons_of_neg (by simp [h2])]
      omega
    · have := ih (fun y hy => h y (by simp [hy])) hq
      by_cases hx : p' x = true
      · rw [List.countP_cons_of_pos hx, List.countP_cons_of_pos (h x (by simp) hx)]
        omega
      · rw [List.countP_cons_of_neg hx, List.countP_cons]
        omega
theorem left_done {top len : Nat} {s : Sg} {n : Int} {p : Nat} (h0 : 0 ≤ n) (h1 : n ≤ (top : Int)) (hp : p ≤ len) (hn : (n, (p : Int)) ∉ s.done) : left top len { s with done := s.done ++ [(n, (p : Int))] } + 1 ≤ left top len s := by
  refine countP_lt (fun x _ hx => ?_) (mem_box h0 h1 hp) (by simpa using hn) (by simp)
  simp at hx ⊢
  exact hx.1
theorem left1_le {len : Nat} {s : Sg} {q : Int × Int} : left1 len { s with done := s.done ++ [q] } ≤ left1 len s := by
  refine List.countP_mono_left fun x _ hx => ?_
  simp at hx ⊢
  exact hx.1
theorem left1_done {len : Nat} {s : Sg} {p : Nat} (hp : p ≤ len) (hn : ((1 : Int), (p : Int)) ∉ s.done) : left1 len { s with done := s.done ++ [(1, (p : Int))] } + 1 ≤ left1 len s := by
  refine countP_lt (q := p) (fun x _ hx => ?_) (by simp; omega) (by simpa using hn) (by simp)
  simp at hx ⊢
  exact hx.1
/-- a way comes to an end -/
def Good (tx : List Int) (E : Nat → Way) (top : Nat) (s : Sg) (W : Way) (p : Nat) : Prop :=
  ∃ s', Ex tx E W p s s' ∧ s'.parses.length + left1 tx.length s' ≤ s.parses.length + left1 tx.length s ∧ left top tx.length s' ≤ left top tx.length s ∧ s'.notes.length = s.notes.length
section
variable {tx : List Int} {E : Nat → Way} {top : Nat}
mutual
theorem good_way (m : Nat) (IH : ∀ s W p, left top tx.length s < m → W.tg top → p ≤ tx.length → Good tx E top s W p) (A : Nat → Prop) (hA : ∀ b, A b → ∀ s p, left top tx.length s ≤ m → p ≤ tx.length → Good tx E top s (.again b) p) :
    ∀ (W : Way), W.tg top → (∀ b ∈ W.ua, A b) → ∀ s p, left top tx.length s ≤ m → p ≤ tx.length → Good tx E top s W p
  | .through, hg, _, s, p, hs, hp => by simp [Way.tg] at hg
  | .once n d, hg, _, s, p, hs, hp => by
    simp only [Way.tg] at hg
    by_cases hd : (n, (p : Int)) ∈ s.done
    · exact ⟨s, .skip hd, Nat.le_refl _, Nat.le_refl _, rfl⟩
    · have hl := left_done hg.1.1 hg.1.2 hp hd
      rcases hg.2 with ⟨rfl, rfl⟩ | hg2
      · have hl1 := left1_done (len := tx.length) hp hd
        refine ⟨_, .once hd (.through p _), ?_, ?_, rfl⟩
        · show (s.parses ++ [((p : Int), s.notes.set 1 (p : Int))]).length + left1 tx.length { s with done := s.done ++ [(1, (p : Int))] } ≤ _
          simp only [List.length_append, List.length_cons, List.length_nil]
          omega
        · show left top tx.length { s with done := s.done ++ [(1, (p : Int))] } ≤ _
          omega
      · obtain ⟨s', h1, h2, h3, h4⟩ := IH { s with done := s.done ++ [(n, (p : Int))] } d p (by omega) hg2 hp
        have hl1 := left1_le (len := tx.length) (s := s) (q := (n, (p : Int)))
        exact ⟨s', .once hd h1, by have h2 : s'.parses.length + left1 tx.length s' ≤ s.parses.length + left1 tx.length { s with done := s.done ++ [(n, (p : Int))] } := h2; omega, by omega, h4⟩
  | .noted c d, hg, hu, s, p, hs, hp => by
    simp only [Way.tg] at hg
    obtain ⟨s', h1, h2, h3, h4⟩ := good_way m IH A hA d hg (fun b hb => hu b (by simpa [Way.ua] using hb)) { s with notes := s.notes.set c (p : Int) } p hs hp
    exact ⟨_, .noted h1, h2, h3, by simpa using h4⟩
  | .runeOf R d, hg, hu, s, p, hs, hp => by
    simp only [Way.tg] at hg
    by_cases h : tx.length ≤ p
    · exact ⟨s, .over h, Nat.le_refl _, Nat.le_refl _, rfl⟩
    · by_cases hr : (rightB R && hasB R (tx.getD p 0)) = true
      · obtain ⟨s', h1, h2, h3, h4⟩ := good_way m IH A hA d hg (fun b hb => hu b (by simpa [Way.ua] using hb)) s (p + 1) hs (by omega)
        exact ⟨s', .rune (by omega) hr h1, h2, h3, h4⟩
      · exact ⟨s, .other (by omega) (by simpa using hr), Nat.le_refl _, Nat.le_refl _, rfl⟩
  | .ifHolds a d, hg, hu, s, p, hs, hp => by
    simp only [Way.tg] at hg
    by_cases h : heldB tx a p = true
    · obtain ⟨s', h1, h2, h3, h4⟩ := good_way m IH A hA d hg (fun b hb => hu b (by simpa [Way.ua] using hb)) s p hs hp
      exact ⟨s', .holds h h1, h2, h3, h4⟩
    · exact ⟨s, .fails (by simpa using h), Nat.le_refl _, Nat.le_refl _, rfl⟩
  | .inOrder l, hg, hu, s, p, hs, hp => by
    simp only [Way.tg] at hg
    obtain ⟨ss, h0, h1, h2⟩ := good_ways m IH A hA l hg (fun b hb => hu b (by simpa [Way.ua] using hb)) s p hs hp
    subst h0
    exact ⟨_, .inOrder ss h1, h2⟩
  | .again b, hg, hu, s, p, hs, hp => hA b (hu b (by simp [Way.ua])) s p hs hp
theorem good_ways (m : Nat) (IH : ∀ s W p, left top tx.length s < m → W.tg top → p ≤ tx.length → Good tx E top s W p) (A : Nat → Prop) (hA : ∀ b, A b → ∀ s p, left top tx.length s ≤ m → p ≤ tx.length → Good tx E top s (.again b) p) :
    ∀ (l : List Way), tgL top l → (∀ b ∈ uaL l, A b) → ∀ s p, left top tx.length s ≤ m → p ≤ tx.length → ∃ ss : Nat → Sg, ss 0 = s ∧ (∀ i (hi : i < l.length), Ex tx E (l[i]'hi) p (ss i) (ss (i + 1))) ∧
      (ss l.length).parses.length + left1 tx.length (ss l.length) ≤ s.parses.length + left1 tx.length s ∧ left top tx.length (ss l.length) ≤ left top tx.length s ∧ (ss l.length).notes.length = s.notes.length
  | [], hg, hu, s, p, hs, hp => ⟨fun _ => s, rfl, fun i hi => by simp at hi, Nat.le_refl _, Nat.le_refl _, rfl⟩
  | d :: l, hg, hu, s, p, hs, hp => by
    simp only [tgL] at hg
    obtain ⟨s1, h1, h2, h3, h4⟩ := good_way m IH A hA d hg.1 (fun b hb => hu b (by simp [uaL, hb])) s p hs hp
    obtain ⟨ss, e0, e1, e2, e3, e4⟩ := good_ways m IH A hA l hg.2 (fun b hb => hu b (by simp [uaL, hb])) s1 p (by omega) hp
    refine ⟨fun i => match i with | 0 => s | i + 1 => ss i, rfl, fun i hi => ?_, by simp only [List.length_cons]; omega, by simp only [List.length_cons]; omega, by simp only [List.length_cons]; rw [e4, h4]⟩
    cases i with
    | zero => simpa [e0] using h1
    | succ i => simpa using e1 i (by simpa using hi)
end
theorem good_all (hE : ∀ b, (E b).tg top ∧ (E b).ua = []) : ∀ (m : Nat) (s : Sg) (W : Way) (p : Nat), left top tx.length s ≤ m → W.tg top → p ≤ tx.length → Good tx E top s W p := by
  intro m
  induction m using Nat.strongRecOn with
  | _ m ihm =>
  have IH : ∀ s W p, left top tx.length s < m → W.tg top → p ≤ tx.length → Good tx E top s W p := fun s W p h1 h2 h3 => ihm (left top tx.length s) h1 s W p (Nat.le_refl _) h2 h3
  have hA : ∀ b, True → ∀ s p, left top tx.length s ≤ m → p ≤ tx.length → Good tx E top s (.again b) p := fun b _ s p hs hp => by
    obtain ⟨s', h1, h2⟩ := good_way m IH (fun _ => False) (fun b hb => hb.elim) (E b) (hE b).1 (fun x hx => by rw [(hE b).2] at hx; cases hx) s p hs hp
    exact ⟨s', .again h1, h2⟩
  intro s W p hs hW hp
  exact good_way m IH (fun _ => True) hA W hW (fun _ _ => trivial) s p hs hp
end
end Go.Proofs.Ytdidopgenhpakaa
/- HELPERS: the parses of a tree at a place of a text: what the program answers. -/
namespace Go.Proofs.Ytdidopgenhpakaa
open Go.RowKit
set_option linter.unusedVariables false
set_option linter.unusedSimpArgs false
/-- what comes of the walks of a tree over a text from a place -/
structure PS (t : Tn) (K : Nat) (tx : List Int) (p : Nat) (l : List (Int × List Int)) : Prop where
  ex : ∃ (E : Nat → Way) (W : Way) (n1 : Int) (s' : Sg), Beg E t 1 (.once 1 .through) n1 W ∧ (∀ b, Gw (E b) ∧ (E b).ua = []) ∧ Gw W ∧ Ex tx E W p ⟨[], (List.replicate K (-1)).set 0 (p : Int), []⟩ s' ∧ l = s'.parses
/-- what the loops go round, as a table -/
def envOf (LE : List (Nat × Way)) (b : Nat) : Way := ((LE.find? fun p => p.1 == b).map Prod.snd).getD (.inOrder [])
theorem envOf_mem : ∀ (LE : List (Nat × Way)), (LE.map Prod.fst).Nodup → ∀ p ∈ LE, envOf LE p.1 = p.2 := by
  intro LE
  induction LE with
  | nil => intro _ p hp; cases hp
  | cons q LE ih =>
    intro hn p hp
    simp only [List.map_cons, List.nodup_cons] at hn
    simp only [List.mem_cons] at hp
    rcases hp with rfl | hp
    · simp [envOf]
    · have hne : q.1 ≠ p.1 := fun e => hn.1 (by rw [e]; exact List.mem_map_of_mem hp)
      have := ih hn.2 p hp
      simp only [envOf, List.find?_cons] at this ⊢
      rw [show (q.1 == p.1) = false by simpa using hne]
      exact this
theorem envOf_good (LE : List (Nat × Way)) (h : ∀ p ∈ LE, Gw p.2 ∧ p.2.ua = []) (b : Nat) : Gw (envOf LE b) ∧ (envOf LE b).ua = [] := by
  unfold envOf
  cases hf : LE.find? fun p => p.1 == b with
  | none => exact ⟨.inOrder .nil, by simp [Way.ua, uaL]⟩
  | some p => exact h p (List.mem_of_find?_eq_some hf)
/-- the object that was made leads to the parses -/
theorem walks_from (t : Tn) (K g p : Nat) (tx : List Int) (ad : Option Addr) (tn tcap lo : Nat) (n1 : Int) (W : Way) (u : Value) (F FE B : List Nat) (C : Cx) (LE : List (Nat × Way)) (w w' : World) (htx : Look.TextAt w.heap.size w ad tn tx) (htc : tn ≤ tcap) (htn : tn ≤ 64) (hb : Below w.heap.size w w') (hg : g = w.heap.size + 1 + 1)
    (hW : WS w.heap.size w' g C ⟨[], List.replicate K (-1), []⟩ B) (htv : C.tv = .slice ad tn tcap) (hh : ∃ hb, TX w' C.hv (hols tx) [hb] ∧ w.heap.size ≤ hb ∧ hb ∉ B ∧ hb < w'.heap.size) (hwh : C.wh = u) (hCK : C.K = K) (hR : Rep g K AL w' u W F) (hgw : Gw W)
    (hB : BgR g K lo [] (fun E => Beg E t 1 (.once 1 .through) n1 W) W.ags LE FE w') (aF : ∀ k ∈ F, k ∉ B) (aE : ∀ k ∈ FE, k ∉ B) (aB : ∀ k ∈ B, w.heap.size ≤ k) (hp : p ≤ tn) :
    ∃ l, PS t K tx p l ∧ l.length ≤ 65 ∧ Calls Try.prog 41 #[pt g, .int .i64 (p : Int)] w' fun e w'' => ∃ pv, e = .returned pv ∧ Parsed w.heap.size w'' pv l ∧ Below w.heap.size w w'' := by
  obtain ⟨hb1, hT2, h3, h4, h5⟩ := hh
  have hlen := htx.1
  have hE := envOf_good LE hB.wf
  have hrel := hB.rel (envOf LE) (envOf_mem LE hB.nd)
  obtain ⟨s', hx, hpar, hl2, hno⟩ := good_all (tx := tx) (E := envOf LE) (top := 1000000000) (fun b => ⟨(hE b).1.tg, (hE b).2⟩) _ ⟨[], (List.replicate K (-1)).set 0 (p : Int), []⟩ W p (Nat.le_refl _) hgw.tg (by omega)
  have hcount : s'.parses.length ≤ 65 := by
    have h1 : left1 tx.length ⟨[], (List.replicate K (-1)).set 0 (p : Int), []⟩ ≤ tx.length + 1 := by
      unfold left1
      exact Nat.le_trans List.countP_le_length (by simp)
    simp only [List.length_nil] at hpar
    omega
  have hL : ∀ b ∈ W.ags, b ∈ LE.map Prod.fst := fun b hb => by
    rcases hB.agw b hb with h | h
    · cases h
    · exact h
  have hLL : ∀ q ∈ LE, ∀ b ∈ q.2.ags, b ∈ LE.map Prod.fst := fun q hq b hb => by
    rcases hB.agl q hq b hb with h | h
    · cases h
    · exact h
  refine ⟨s'.parses, ⟨envOf LE, W, n1, s', hrel, hE, hgw, hx, rfl⟩, hcount, ?_⟩
  obtain ⟨tb, hT1, htb⟩ : ∃ tb : List Nat, TX w' C.tv tx tb ∧ ∀ k ∈ tb, k < w.heap.size := by
    obtain ⟨e1, e2, h | ⟨b, off, ha, hbN, hc⟩⟩ := htx.below hb
    · exact ⟨[], ⟨ad, tcap, by rw [htv, e1], by omega, .inl (by omega)⟩, fun k hk => by cases hk⟩
    · exact ⟨[b], ⟨ad, tcap, by rw [htv, e1], by omega, .inr ⟨b, off, ha, by simp, by have := hb.size; omega, fun k hk => hc k (by omega)⟩⟩, fun k hk => by simp at hk; omega⟩
  have hwide : ∀ {v : Value} {l : List Int} {G G' : List Nat}, TX w' v l G → (∀ k ∈ G, k ∈ G') → TX w' v l G' := fun h hG => by
    obtain ⟨a, c, e1, e2, h | ⟨b, off, ha, hbN, hc⟩⟩ := h
    · exact ⟨a, c, e1, e2, .inl h⟩
    · exact ⟨a, c, e1, e2, .inr ⟨b, off, ha, hG b hbN, hc⟩⟩
  have hs := hb.size
  refine (from32g w.heap.size g p C (fun b => b ∈ LE.map Prod.fst) (envOf LE) W tx ⟨[], List.replicate K (-1), []⟩ s' u F FE (tb ++ [hb1]) B w' hs hW hwh (by rw [hCK]; exact hR.only hL) (fun b hbm => ?_) true (fun k => (hE k).1.few) hgw.few
    ⟨hwide hT1 (fun k hk => by simp [hk]), fun _ => hwide hT2 (fun k hk => by simp at hk; simp [hk])⟩ (by omega) aF aE (fun k hk => ?_) hB.low (fun k hk => ?_) (by omega) (by omega) hx).mono ?_
  · simp only [List.mem_map] at hbm
    obtain ⟨q, hq, rfl⟩ := hbm
    obtain ⟨a1, v, F', a2, a3, a4⟩ := hB.env q hq
    rw [envOf_mem LE hB.nd q hq, hCK]
    exact ⟨a1, v, F', a2, a3.only (hLL q hq), a4⟩
  · rcases List.mem_append.1 hk with h | h
    · intro hm
      have := aB k hm
      have := htb k h
      omega
    · simp at h
      rw [h]
      exact h4
  · rcases List.mem_append.1 hk with h | h
    · have := htb k h; omega
    · simp at h; omega
  · rintro e w'' ⟨pv, rfl, hP, B', hC⟩
    exact ⟨pv, rfl, hP, hb.trans (hC.below hs aB)⟩
end Go.Proofs.Ytdidopgenhpakaa
/- HELPERS: the ways of a tree: each thing has one body; so each end comes once. -/
namespace Go.Proofs.Ytdidopgenhpakaa
open Go.RowKit
set_option linter.unusedVariables false
set_option linter.unusedSimpArgs false
mutual
/-- its things are no more than that -/
def Way.upto (k : Int) : Way → Prop
  | .through => True
  | .once n d => n ≤ k ∧ d.upto k
  | .noted _ d => d.upto k
  | .runeOf _ d => d.upto k
  | .ifHolds _ d => d.upto k
  | .inOrder l => uptoL k l
  | .again b => True
def uptoL (k : Int) : List Way → Prop
  | [] => True
  | d :: l => d.upto k ∧ uptoL k l
end
mutual
theorem one_ext {Bd Bd' : Int → Way} {A A' : Nat → Prop} {k k' : Int} (hk : k ≤ k') (hB : ∀ m, m ≤ k → Bd' m = Bd m) (hA : ∀ b, A b → A' b) : ∀ (W : Way), W.one Bd A → W.upto k → W.one Bd' A' ∧ W.upto k'
  | .through, h, _ => by simp [Way.one] at h
  | .once n d, h, hu => by
    simp only [Way.one, Way.upto] at h hu ⊢
    obtain ⟨h1, ⟨rfl, rfl⟩ | ⟨h2, h3⟩⟩ := h
    · exact ⟨⟨(hB _ hu.1).trans h1, .inl ⟨rfl, rfl⟩⟩, by omega, hu.2⟩
    · have := one_ext hk hB hA d h3 hu.2
      exact ⟨⟨(hB _ hu.1).trans h1, .inr ⟨h2, this.1⟩⟩, by omega, this.2⟩
  | .noted _ d, h, hu => by simp only [Way.one, Way.upto] at h hu ⊢; exact one_ext hk hB hA d h hu
  | .runeOf _ d, h, hu => by simp only [Way.one, Way.upto] at h hu ⊢; exact one_ext hk hB hA d h hu
  | .ifHolds _ d, h, hu => by simp only [Way.one, Way.upto] at h hu ⊢; exact one_ext hk hB hA d h hu
  | .inOrder l, h, hu => by simp only [Way.one, Way.upto] at h hu ⊢; exact oneL_ext hk hB hA l h hu
  | .again b, h, hu => by simp only [Way.one, Way.upto] at h hu ⊢; exact ⟨hA b h, trivial⟩
theorem oneL_ext {Bd Bd' : Int → Way} {A A' : Nat → Prop} {k k' : Int} (hk : k ≤ k') (hB : ∀ m, m ≤ k → Bd' m = Bd m) (hA : ∀ b, A b → A' b) : ∀ (l : List Way), oneL Bd A l → uptoL k l → oneL Bd' A' l ∧ uptoL k' l
  | [], _, _ => by simp [oneL, uptoL]
  | d :: l, h, hu => by
    simp only [oneL, uptoL] at h hu ⊢
    have h1 := one_ext hk hB hA d h.1 hu.1
    have h2 := oneL_ext hk hB hA l h.2 hu.2
    exact ⟨⟨h1.1, h2.1⟩, h1.2, h2.2⟩
end
theorem oneL_snoc {Bd : Int → Way} {A : Nat → Prop} {k : Int} {d : Way} (hd : d.one Bd A) (hu : d.upto k) : ∀ {l : List Way}, oneL Bd A l → uptoL k l → oneL Bd A (l ++ [d]) ∧ uptoL k (l ++ [d]) := by
  intro l
  induction l with
  | nil => intro _ _; simp [oneL, uptoL, hd, hu]
  | cons e l ih =>
    intro h1 h2
    simp only [oneL, uptoL, List.cons_append] at h1 h2 ⊢
    have := ih h1.2 h2.2
    exact ⟨⟨h1.1, this.1⟩, h2.1, this.2⟩
/-- more things and more loops: what was stays, the new loops are right -/
structure Ext (E : Nat → Way) (n : Int) (Bd : Int → Way) (A : Nat → Prop) (n1 : Int) (Bd' : Int → Way) (A' : Nat → Prop) : Prop where
  le : n ≤ n1
  bd : ∀ m, m ≤ n → Bd' m = Bd m
  sub : ∀ b, A b → A' b
  new : ∀ b, A' b → A b ∨ ((E b).one Bd' A' ∧ (E b).upto n1)
section
variable {E : Nat → Way}
theorem Ext.refl (n : Int) (Bd : Int → Way) (A : Nat → Prop) : Ext E n Bd A n Bd A := ⟨Int.le_refl _, fun _ _ => rfl, fun _ h => h, fun _ h => .inl h⟩
theorem Ext.one {n n1 : Int} {Bd Bd' : Int → Way} {A A' : Nat → Prop} (h : Ext E n Bd A n1 Bd' A') {W : Way} (h1 : W.one Bd A) (h2 : W.upto n) : W.one Bd' A' ∧ W.upto n1 := one_ext h.le h.bd h.sub W h1 h2
theorem Ext.trans {n n1 n2 : Int} {Bd Bd1 Bd2 : Int → Way} {A A1 A2 : Nat → Prop} (h : Ext E n Bd A n1 Bd1 A1) (h' : Ext E n1 Bd1 A1 n2 Bd2 A2) : Ext E n Bd A n2 Bd2 A2 :=
  ⟨Int.le_trans h.le h'.le, fun m hm => (h'.bd m (Int.le_trans hm h.le)).trans (h.bd m hm), fun b hb => h'.sub b (h.sub b hb), fun b hb => by
    rcases h'.new b hb with hb | hb
    · rcases h.new b hb with hb | hb
      · exact .inl hb
      · exact .inr (h'.one hb.1 hb.2)
    · exact .inr hb⟩
/-- another body -/
def upd (Bd : Int → Way) (n : Int) (W : Way) : Int → Way := fun m => if m = n then W else Bd m
theorem Ext.thing (n : Int) (Bd : Int → Way) (A : Nat → Prop) (W : Way) : Ext E n Bd A (n + 1) (upd Bd (n + 1) W) A := ⟨by omega, fun m hm => by simp only [upd]; rw [if_neg (by omega)], fun _ h => h, fun _ h => .inl h⟩
/-- to begin this keeps each thing to one body -/
def OneM (E : Nat → Way) (n : Int) (B : Way) (n1 : Int) (W : Way) : Prop := ∀ Bd A, 1 ≤ n → B.one Bd A → B.upto n → ∃ Bd' A', Ext E n Bd A n1 Bd' A' ∧ W.one Bd' A' ∧ W.upto n1
theorem OneM.self (n : Int) (B : Way) : OneM E n B n B := fun Bd A _ h1 h2 => ⟨Bd, A, .refl _ _ _, h1, h2⟩
theorem OneM.seq {n n1 n2 : Int} {B W W' : Way} (h : OneM E n B n1 W) (h' : OneM E n1 W n2 W') : OneM E n B n2 W' := fun Bd A hn h1 h2 => by
  obtain ⟨Bd1, A1, e1, a1, b1⟩ := h Bd A hn h1 h2
  obtain ⟨Bd2, A2, e2, a2, b2⟩ := h' Bd1 A1 (by have := e1.le; omega) a1 b1
  exact ⟨Bd2, A2, e1.trans e2, a2, b2⟩
/-- a thing of it -/
theorem thing_one {n : Int} {Bd : Int → Way} {A : Nat → Prop} {W : Way} (hn : 1 ≤ n) (h1 : W.one Bd A) (h2 : W.upto n) : (Way.once (n + 1) W).one (upd Bd (n + 1) W) A ∧ (Way.once (n + 1) W).upto (n + 1) := by
  have := (Ext.thing (E := fun _ => .through) n Bd A W).one h1 h2
  simp only [Way.one, Way.upto]
  exact ⟨⟨by simp [upd], .inr ⟨by omega, this.1⟩⟩, Int.le_refl _, this.2⟩
theorem OneM.thing {n n1 : Int} {B W : Way} (h : OneM E n B n1 W) : OneM E n B (n1 + 1) (.once (n1 + 1) W) := fun Bd A hn h1 h2 => by
  obtain ⟨Bd1, A1, e1, a1, b1⟩ := h Bd A hn h1 h2
  have := thing_one (n := n1) (by have := e1.le; omega) a1 b1
  exact ⟨_, A1, e1.trans (.thing n1 Bd1 A1 W), this.1, this.2⟩
theorem OneM.map {n n1 : Int} {B B' W W' : Way} (h : OneM E n B n1 W) (hB : ∀ Bd A k, B'.one Bd A → B'.upto k → B.one Bd A ∧ B.upto k) (hW : ∀ Bd A k, W.one Bd A → W.upto k → W'.one Bd A ∧ W'.upto k) : OneM E n B' n1 W' := fun Bd A hn h1 h2 => by
  have hb := hB Bd A n h1 h2
  obtain ⟨Bd1, A1, e1, a1, b1⟩ := h Bd A hn hb.1 hb.2
  exact ⟨Bd1, A1, e1, hW _ _ _ a1 b1⟩
/-- a loop -/
theorem Ext.round {n n2 : Int} {b : Nat} {B : Way} {Bd : Int → Way} {A : Nat → Prop} (lz : Bool) (hn : 1 ≤ n) (h1 : B.one Bd A) (h2 : B.upto n) (h : OneM E (n + 1) (Dcd lz n b B) n2 (E b)) :
    ∃ Bd' A', Ext E n Bd A n2 Bd' A' ∧ (E b).one Bd' A' ∧ (E b).upto n2 ∧ (Dcd lz n b B).one Bd' A' ∧ (Dcd lz n b B).upto n2 := by
  obtain ⟨I, hI⟩ : ∃ I, I = Way.inOrder (if lz = true then [B, .again b] else [.again b, B]) := ⟨_, rfl⟩
  have hD : Dcd lz n b B = .once (n + 1) I := by rw [hI]
  obtain ⟨A1, hA1⟩ : ∃ A1 : Nat → Prop, A1 = fun x => A x ∨ x = b := ⟨_, rfl⟩
  have hB := one_ext (k := n) (k' := n) (Bd := Bd) (Bd' := Bd) (A := A) (A' := A1) (Int.le_refl _) (fun _ _ => rfl) (fun x hx => by rw [hA1]; exact .inl hx) B h1 h2
  have hb : A1 b := by rw [hA1]; exact .inr rfl
  have hI1 : I.one Bd A1 ∧ I.upto n := by
    rw [hI]
    simp only [Way.one, Way.upto]
    cases lz <;> simp [oneL, uptoL, hB.1, hB.2, Way.one, Way.upto, hb]
  have hT := thing_one hn hI1.1 hI1.2
  rw [hD] at h ⊢
  obtain ⟨Bd2, A2, e2, a2, b2⟩ := h _ A1 (by omega) hT.1 hT.2
  have hE := e2.one hT.1 hT.2
  refine ⟨Bd2, A2, ⟨by have := e2.le; omega, fun m hm => (e2.bd m (by omega)).trans (by simp only [upd]; rw [if_neg (by omega)]), fun x hx => e2.sub x (by rw [hA1]; exact .inl hx), fun x hx => ?_⟩, a2, b2, hE.1, hE.2⟩
  rcases e2.new x hx with hx | hx
  · rw [hA1] at hx
    rcases hx with hx | rfl
    · exact .inl hx
    · exact .inr ⟨a2, b2⟩
  · exact .inr hx
/-- EACH THING has one body -/
theorem Beg.ones {t : Tn} {n n1 : Int} {B W : Way} (h : Beg E t n B n1 W) : OneM E n B n1 W := by
  refine Beg.rec (motive_1 := fun t n B n1 W _ => OneM E n B n1 W) (motive_2 := fun ts n B n1 W _ => OneM E n B n1 W)
    (motive_3 := fun ts n B n1 Ws _ => ∀ Bd A, 1 ≤ n → B.one Bd A → B.upto n → ∃ Bd' A', Ext E n Bd A n1 Bd' A' ∧ oneL Bd' A' Ws ∧ uptoL n1 Ws)
    (motive_4 := fun t c n B n1 W _ => OneM E n B n1 W) (motive_5 := fun t lz B c n n1 W _ => OneM E n B n1 W)
    ?_ ?_ ?_ ?_ ?_ ?_ ?_ ?_ ?_ ?_ ?_ ?_ ?_ ?_ ?_ ?_ ?_ h
  · intro R a s mn mx lz ix nm n B
    exact (OneM.self n B).thing
  · intro R a s mn mx lz ix nm n B
    exact ((OneM.self n B).map (fun _ _ _ h1 h2 => ⟨h1, h2⟩) (fun _ _ _ h1 h2 => by simp only [Way.one, Way.upto]; exact ⟨h1, h2⟩)).thing
  · intro R a s mn mx lz ix nm n B
    exact ((OneM.self n B).map (fun _ _ _ h1 h2 => ⟨h1, h2⟩) (fun _ _ _ h1 h2 => by simp only [Way.one, Way.upto]; exact ⟨h1, h2⟩)).thing
  · intro R a s mn mx lz ix nm n n' B W _ h
    exact h
  · intro R a s mn mx lz ix nm n n' B Ws _ h
    refine OneM.thing fun Bd A hn h1 h2 => ?_
    obtain ⟨Bd1, A1, e1, a1, b1⟩ := h Bd A hn h1 h2
    exact ⟨Bd1, A1, e1, by simp only [Way.one]; exact a1, by simp only [Way.upto]; exact b1⟩
  · intro R a t mn mx lz i nm n n' B W _ h
    exact (h.map (fun _ _ _ h1 h2 => by simp only [Way.one, Way.upto]; exact ⟨h1, h2⟩) (fun _ _ _ h1 h2 => by simp only [Way.one, Way.upto]; exact ⟨h1, h2⟩)).thing
  · intro R a t lz ix nm n n2 b B _ h Bd A hn h1 h2
    obtain ⟨Bd2, A2, e2, a2, b2, d2⟩ := Ext.round lz hn h1 h2 h
    exact ⟨Bd2, A2, e2, d2⟩
  · intro R a t c lz ix nm n n2 n3 b B W3 _ _ h hT
    refine OneM.seq (fun Bd A hn h1 h2 => ?_) hT
    obtain ⟨Bd2, A2, e2, a2, b2, d2⟩ := Ext.round lz hn h1 h2 h
    exact ⟨Bd2, A2, e2, a2, b2⟩
  · intro R a t c m lz ix nm n n1 n2 B W1 W2 _ _ hO hT
    exact hO.seq hT
  · intro n B
    exact .self n B
  · intro t ts n n1 n2 B W1 W2 _ _ h h2
    exact h.seq h2
  · intro n B Bd A _ _ _
    exact ⟨Bd, A, .refl _ _ _, by simp [oneL], by simp [uptoL]⟩
  · intro t ts n n1 n2 B W2 Ws _ _ hl hl2 Bd A hn h1 h2
    obtain ⟨Bd1, A1, e1, a1, b1⟩ := hl Bd A hn h1 h2
    have hb := e1.one h1 h2
    obtain ⟨Bd2, A2, e2, a2, b2⟩ := hl2 Bd1 A1 (by have := e1.le; omega) hb.1 hb.2
    have hL := oneL_ext e2.le e2.bd e2.sub Ws a1 b1
    have hS := oneL_snoc a2 b2 hL.1 hL.2
    exact ⟨Bd2, A2, e1.trans e2, hS.1, hS.2⟩
  · intro t n W
    exact .self n W
  · intro t c n n1 n2 W W1 W2 _ _ h h2
    exact h.seq h2
  · intro t lz B n
    exact .self n B
  · intro t lz B c n n1 n2 W1 W2 _ _ h h2
    refine OneM.thing fun Bd A hn h1 h3 => ?_
    obtain ⟨Bd1, A1, e1, a1, b1⟩ := (h.seq h2) Bd A hn h1 h3
    have hb := e1.one h1 h3
    refine ⟨Bd1, A1, e1, ?_, ?_⟩
    · simp only [Way.one]
      cases lz <;> simp [oneL, a1, hb.1]
    · simp only [Way.upto]
      cases lz <;> simp [uptoL, b1, hb.2]
end
/-- THE ENDS of the parses of a tree from a place: each place to which the tree takes the text, once -/
theorem PS.ends {t : Tn} {K : Nat} {tx : List Int} {p : Nat} {l : List (Int × List Int)} (h : PS t K tx p l) : (l.map Prod.fst).Nodup ∧ (∀ e ∈ l, ∃ q : Nat, e.1 = (q : Int)) ∧ ∀ q : Nat, (q : Int) ∈ l.map Prod.fst ↔ Mt tx t p q := by
  obtain ⟨E, W, n1, s', hB, hE, hg, hx, rfl⟩ := h.ex
  obtain ⟨Bd, A, hX, ho, hu⟩ := hB.ones (fun _ => .through) (fun _ => False) (Int.le_refl _) (by simp [Way.one]) (by simp [Way.upto])
  obtain ⟨a, b, c⟩ := ends_iff (Bd := Bd) (A := A) (fun b hb => by
    rcases hX.new b hb with h | h
    · exact h.elim
    · exact h.1) hx ho rfl rfl
  refine ⟨a, b, fun q => ?_⟩
  rw [c q, hB.can p q]
  exact ⟨fun ⟨r, h1, h2⟩ => by rw [can_end] at h2; subst h2; exact h1, fun h1 => ⟨q, h1, (can_end q q).2 rfl⟩⟩
end Go.Proofs.Ytdidopgenhpakaa
/- HELPERS: meaning.Parses, of any tree and text. -/
namespace Go.Proofs.Ytdidopgenhpakaa
open Go.RowKit
set_option linter.unusedVariables false
set_option linter.unusedSimpArgs false
/-- the error that a call gives -/
def errP (t : Tn) (tn : Nat) (at_ : Int) : Int := if 64 < tn then 2 else if t.sound = false then 50 else if 2000 < t.sz then 3 else if at_ < 0 ∨ (tn : Int) < at_ then 1 else 0
theorem fine_gi : ∀ (t : Tn), t.fine = true → 0 ≤ t.gi ∧ t.gi ≤ 500 := by
  have key : ∀ (ts : List Tn) (m : Int), (∀ t ∈ ts, t.gi ≤ 500) → m ≤ 500 → giL ts m ≤ 500 := by
    intro ts
    induction ts with
    | nil => intro m _ h; simpa [giL] using h
    | cons t ts ih => intro m h1 h2; simp only [giL]; exact ih _ (fun u hu => h1 u (by simp [hu])) (by have := h1 t (by simp); omega)
  have hix : ∀ {k : Int} {R : List (Int × Int)} {a : Int} {n : Nat} {mn mx : Int} {lz : Bool} {ix : Int} {nm : ByteArray}, nodeB k R a n mn mx lz ix nm = true → 0 ≤ ix ∧ ix ≤ 500 := fun h => by
    have FN := fine_nodeZ h
    rename_i k _ _ _ _ _ _ _ _
    by_cases h7 : k = 7
    · have := FN.grp h7; omega
    · have := FN.idx h7; omega
  intro t
  obtain ⟨d, hd⟩ : ∃ d, t.depth ≤ d := ⟨_, Nat.le_refl _⟩
  induction d generalizing t with
  | zero => cases t; simp [Tn.depth] at hd
  | succ d ih =>
    cases t with
    | mk k R a s mn mx lz ix nm =>
      intro hf
      simp only [Tn.fine, Bool.and_eq_true] at hf
      simp only [Tn.depth] at hd
      have hi := hix hf.1
      have hs : ∀ u ∈ s, u.gi ≤ 500 := by
        intro u hu
        have hdu : u.depth ≤ d := by
          have : ∀ (l : List Tn), u ∈ l → u.depth ≤ depthL l := by
            intro l
            induction l with
            | nil => intro h; cases h
            | cons v l ihl =>
              intro h
              simp only [List.mem_cons] at h
              simp only [depthL]
              rcases h with rfl | h
              · omega
              · have := ihl h; omega
          have := this s hu
          omega
        obtain ⟨i, hi2, rfl⟩ := List.mem_iff_getElem.1 hu
        exact (ih _ hdu (fineL_get hf.2 i hi2)).2
      simp only [Tn.gi]
      exact ⟨by have := (giL_ge s ix).1; omega, key s ix hs hi.2⟩
theorem sound_parts {t : Tn} (h : t.sound = true) : t.fine = true ∧ t.depth ≤ 10000 ∧ t.nodes ≤ 200000 := by
  simp only [Tn.sound, Bool.and_eq_true, decide_eq_true_eq] at h
  exact ⟨h.1.1, h.1.2, h.2⟩
/-- how many notes -/
abbrev Tn.notes (t : Tn) : Nat := (2 * t.gi + 2).toNat
/-- the walks of a sound, small tree -/
theorem walks31 (N : Nv) (t : Tn) (tx : List Int) (ad : Option Addr) (tn tcap p : Nat) (w : World) (hTI : TI w w.heap.size N t) (hs : t.sound = true) (hz : t.sz ≤ 2000) (htx : Look.TextAt w.heap.size w ad tn tx) (htc : tn ≤ tcap) (htn : tn ≤ 64) (hp : p ≤ tn) :
    Calls Try.prog 40 #[N.v, .slice ad tn tcap] w fun e w' => ∃ g l, e = .returned (pt g) ∧ PS t t.notes tx p l ∧ l.length ≤ 65 ∧ Calls Try.prog 41 #[pt g, .int .i64 (p : Int)] w' fun e2 w'' => ∃ pv, e2 = .returned pv ∧ Parsed w.heap.size w'' pv l ∧ Below w.heap.size w w'' := by
  obtain ⟨hf, _, hno⟩ := sound_parts hs
  have hgi := fine_gi t hf
  have hBG := fun A => begin53 hTI (w.heap.size + 1 + 1) t.notes A (by omega) hf hno (by simp only [Tn.notes]; omega)
  refine (newWalks31g N.nd N.k tx ad tn tcap t.notes t.gi w htx htn (by simp only [Tn.notes]; omega) hgi (fun w' hb => greatestg52 hTI w' hb.size (fun b hb2 => hb.block b hb2))
    (fun n W F FE w' => Gw W ∧ ∃ lo LE, BgR (w.heap.size + 1 + 1) t.notes lo [] (fun E => Beg E t 1 (.once 1 .through) n W) W.ags LE FE w') (fun n W F FE w' w'' h h1 h2 => by obtain ⟨hg, lo, LE, hB⟩ := h; exact ⟨hg, lo, LE, hB.stab h1 h2⟩)
    (fun A w' v F0 hb hO hR hg hF => ?_)).mono ?_
  · refine (hBG A w' v 1 (.once 1 .through) F0 hb.size (fun b hb2 => hb.block b hb2) hO hR hg ⟨by simp [Way.tg], by simp [Way.few]⟩ (by omega) ?_).mono ?_
    · have : t.sz * t.sz ≤ 2000 * 2000 := Nat.mul_le_mul hz hz
      omega
    · rintro e w'' ⟨u, F, FE, n1, W, rfl, hM, ⟨LE, hB⟩, hE, h1, h2, h3, h4⟩
      exact ⟨u, F, FE, n1, W, rfl, hM, ⟨h3, _, LE, hB⟩, hE⟩
  · rintro e w' ⟨g, u, F, FE, B, C, n1, W, rfl, rfl, hW, htv, hh, hwh, hCK, hR, ⟨hgw, lo, LE, hB⟩, aF, aE, aB, hb⟩
    obtain ⟨l, h1, h2, h3⟩ := walks_from t t.notes (w.heap.size + 1 + 1) p tx ad tn tcap lo n1 W u F FE B C LE w w' htx htc htn hb rfl hW htv hh hwh hCK hR hgw hB aF aE aB hp
    exact ⟨_, l, rfl, h1, h2, h3⟩
theorem PR.le {N N' : Nat} {w : World} {cs : List Value} {l : List (Int × List Int)} {F : List Nat} (h : PR N w cs l F) (hN : N' ≤ N) : PR N' w cs l F := by
  induction h with
  | nil => exact .nil
  | cons h hl ih => exact .cons (Joins.ownsRow_le h hN) ih
/-- what a call answers -/
def Answers (t : Tn) (tx : List Int) (tn : Nat) (at_ : Int) (w : World) (e : Ending) (w' : World) : Prop :=
  ∃ pv l, e = .returned (.tuple #[pv, .int .i64 (errP t tn at_)]) ∧ Parsed w.heap.size w' pv l ∧ (errP t tn at_ = 0 → PS t t.notes tx at_.toNat l ∧ l.length ≤ 65) ∧ (errP t tn at_ ≠ 0 → pv = .slice none 0 0 ∧ l = []) ∧ Below w.heap.size w w'
theorem answers_none {t : Tn} {tx : List Int} {tn : Nat} {at_ x : Int} {w w' : World} (hx : errP t tn at_ = x) (h0 : x ≠ 0) (hb : Below w.heap.size w w') : Answers t tx tn at_ w (.returned (.tuple #[.slice none 0 0, .int .i64 x])) w' := by
  subst hx
  exact ⟨.slice none 0 0, [], rfl, ⟨[], [], World.ownsRow_nil _ _ _ _, .nil⟩, fun h => absurd h h0, fun _ => ⟨rfl, rfl⟩, hb⟩
set_option maxRecDepth 100000 in
set_option maxHeartbeats 4000000 in
theorem parses13g (N : Nv) (t : Tn) (tx : List Int) (ad : Option Addr) (tn tcap : Nat) (at_ : Int) (w : World) (hTI : TI w w.heap.size N t) (htx : Look.TextAt w.heap.size w ad tn tx) (htc : tn ≤ tcap) :
    Calls Try.prog 24 #[N.v, .slice ad tn tcap, .int .i64 at_] w fun e w' => Answers t tx tn at_ w e w' := by
  have htm : tn ≤ 35184372088832 := htx.2.1
  have hb0 : Below w.heap.size w (w.alloc (.cells #[.int .i64 N.k, .slice N.r1 N.r2 N.r3, .int .i64 N.a2, .slice N.s1 N.s2 N.s3, .int .i64 N.a4, .int .i64 N.a5, .bool N.a6, .int .i64 N.a7, .string N.a8] 25)) := Joins.below_alloc1 w _
  have HB0 := hid hb0
  by_cases c1 : 64 < tn
  · have e1 : errP t tn at_ = 2 := by simp [errP, c1]
    have HA : ∀ w', Below w.heap.size w w' → Answers t tx tn at_ w (.returned (.tuple #[.slice none 0 0, .int .i64 2])) w' := fun w' h => answers_none e1 (by decide) h
    have HHA := hid HA
    have b1 : decide ((tn : Int) > 64) = true := by simp; omega
    have b1' : decide (64 < (tn : Int)) = true := by simp; omega
    obtain ⟨k, r1, r2, r3, a2, s1, s2, s3, a4, a5, a6, a7, a8⟩ := N
    obtain ⟨Q, hQ⟩ : ∃ Q, Q = Answers t tx tn at_ w := ⟨_, rfl⟩
    rw [← hQ] at HHA ⊢
    clear HA hTI htx e1 hQ hb0
    go_enter Try.func24, Try.ntmps24
    go_wp2
    try go_ret2
    exact HHA.out _ HB0.out
  have b1 : decide ((tn : Int) > 64) = false := by simp; omega
  have b1' : decide (64 < (tn : Int)) = false := by simp; omega
  have hT1 : ∀ w1, Below w.heap.size w w1 → TI w1 w1.heap.size N t := fun w1 h => (hTI.kept fun b hb => h.block b hb).le h.size
  have H29 := sound29g (hT1 _ hb0)
  cases hs : t.sound with
  | false =>
    have e1 : errP t tn at_ = 50 := by simp [errP, c1, hs]
    have HA : ∀ w', Below w.heap.size w w' → Answers t tx tn at_ w (.returned (.tuple #[.slice none 0 0, .int .i64 50])) w' := fun w' h => answers_none e1 (by decide) h
    have HHA := hid HA
    rw [hs] at H29
    obtain ⟨k, r1, r2, r3, a2, s1, s2, s3, a4, a5, a6, a7, a8⟩ := N
    obtain ⟨Q, hQ⟩ : ∃ Q, Q = Answers t tx tn at_ w := ⟨_, rfl⟩
    rw [← hQ] at HHA ⊢
    dsimp only at H29
    simp only [Bool.false_eq_true, if_false] at H29
    clear HA hTI htx e1 hQ hb0 hT1 hs
    go_enter Try.func24, Try.ntmps24
    go_wp2_with (first | (go_at_call 30; (with_reducible refine H29.mono ?_); rintro e w1 ⟨rfl, hb1⟩; have HB1 := hid hb1; clear hb1 H29))
    try go_ret2
    exact HHA.out _ (HB0.out.trans (Joins.below_le HB1.out (by simp)))
  | true =>
    obtain ⟨hf, _, hno⟩ := sound_parts hs
    have hT2 : ∀ w1, Below w.heap.size w w1 → Calls Try.prog 39 #[N.v] w1 fun e w' => e = .returned (.int .i64 (min 2001 t.sz : Nat)) ∧ Below w1.heap.size w1 w' := fun w1 h => size30g hTI hf hno w1 h.size (fun b hb => h.block b hb)
    have hnode : ∀ w1, Below (w.alloc (.cells #[.int .i64 N.k, .slice N.r1 N.r2 N.r3, .int .i64 N.a2, .slice N.s1 N.s2 N.s3, .int .i64 N.a4, .int .i64 N.a5, .bool N.a6, .int .i64 N.a7, .string N.a8] 25)).heap.size (w.alloc (.cells #[.int .i64 N.k, .slice N.r1 N.r2 N.r3, .int .i64 N.a2, .slice N.s1 N.s2 N.s3, .int .i64 N.a4, .int .i64 N.a5, .bool N.a6, .int .i64 N.a7, .string N.a8] 25)) w1 → w1.heap[w.heap.size]? = some (.cells #[.int .i64 N.k, .slice N.r1 N.r2 N.r3, .int .i64 N.a2, .slice N.s1 N.s2 N.s3, .int .i64 N.a4, .int .i64 N.a5, .bool N.a6, .int .i64 N.a7, .string N.a8] 25 (0, 0)) := fun w1 h => (h.block w.heap.size (by simp)).trans (heap_alloc_new w _)
    rw [hs] at H29
    simp only [if_true] at H29
    have HN := hid hnode
    have HT2 := hid hT2
    by_cases c3 : 2000 < t.sz
    · have e1 : errP t tn at_ = 3 := by simp [errP, c1, hs, c3]
      have HA : ∀ w', Below w.heap.size w w' → Answers t tx tn at_ w (.returned (.tuple #[.slice none 0 0, .int .i64 3])) w' := fun w' h => answers_none e1 (by decide) h
      have HHA := hid HA
      have b3 : decide (((min 2001 t.sz : Nat) : Int) > 2000) = true := by simp; omega
      have b3' : decide (2000 < ((min 2001 t.sz : Nat) : Int)) = true := by simp; omega
      obtain ⟨r, hr⟩ : ∃ r, r = min 2001 t.sz := ⟨_, rfl⟩
      rw [← hr] at HT2 b3 b3'
      obtain ⟨k, r1, r2, r3, a2, s1, s2, s3, a4, a5, a6, a7, a8⟩ := N
      obtain ⟨Q, hQ⟩ : ∃ Q, Q = Answers t tx tn at_ w := ⟨_, rfl⟩
      rw [← hQ] at HHA ⊢
      dsimp only at H29 HN
      clear HA hTI htx e1 hQ hb0 hT1 hT2 hnode hs hf hno hr
      go_enter Try.func24, Try.ntmps24
      go_wp2_with (first | (go_at_call 30; (with_reducible refine H29.mono ?_); rintro e w1 ⟨rfl, hb1⟩; obtain ⟨o0, o1, o2, o3, o4, o5, o6, o7, o8⟩ := nine' (HN.out w1 hb1); have HC1 := HT2.out w1 (HB0.out.trans (Joins.below_le hb1 (by simp))); have HB1 := hid hb1; clear hb1 H29) | (go_at_call 39; (with_reducible refine HC1.mono ?_); rintro e w2 ⟨rfl, hb2⟩; have HB2 := hid hb2; clear hb2 HC1))
      try go_ret2
      exact HHA.out _ (HB0.out.trans (Joins.below_le (HB1.out.trans (Joins.below_le HB2.out HB1.out.size)) (by simp)))
    · have b3 : decide (((min 2001 t.sz : Nat) : Int) > 2000) = false := by simp; omega
      have b3' : decide (2000 < ((min 2001 t.sz : Nat) : Int)) = false := by simp; omega
      obtain ⟨r, hr⟩ : ∃ r, r = min 2001 t.sz := ⟨_, rfl⟩
      rw [← hr] at HT2 b3 b3'
      by_cases c4 : at_ < 0 ∨ (tn : Int) < at_
      · have e1 : errP t tn at_ = 1 := by simp [errP, c1, hs, c3, c4]
        have HA : ∀ w', Below w.heap.size w w' → Answers t tx tn at_ w (.returned (.tuple #[.slice none 0 0, .int .i64 1])) w' := fun w' h => answers_none e1 (by decide) h
        have HHA := hid HA
        obtain ⟨k, r1, r2, r3, a2, s1, s2, s3, a4, a5, a6, a7, a8⟩ := N
        obtain ⟨Q, hQ⟩ : ∃ Q, Q = Answers t tx tn at_ w := ⟨_, rfl⟩
        rw [← hQ] at HHA ⊢
        dsimp only at H29 HN
        clear HA hTI htx e1 hQ hb0 hT1 hT2 hnode hs hf hno hr
        by_cases c5 : at_ < 0
        · have b5 : decide (at_ < 0) = true := by simp; omega
          go_enter Try.func24, Try.ntmps24
          go_wp2_with (first | (go_at_call 30; (with_reducible refine H29.mono ?_); rintro e w1 ⟨rfl, hb1⟩; obtain ⟨o0, o1, o2, o3, o4, o5, o6, o7, o8⟩ := nine' (HN.out w1 hb1); have HC1 := HT2.out w1 (HB0.out.trans (Joins.below_le hb1 (by simp))); have HB1 := hid hb1; clear hb1 H29) | (go_at_call 39; (with_reducible refine HC1.mono ?_); rintro e w2 ⟨rfl, hb2⟩; have HB2 := hid hb2; clear hb2 HC1))
          try go_ret2
          exact HHA.out _ (HB0.out.trans (Joins.below_le (HB1.out.trans (Joins.below_le HB2.out HB1.out.size)) (by simp)))
        · have b5 : decide (at_ < 0) = false := by simp; omega
          have b6 : decide (at_ > (tn : Int)) = true := by simp; omega
          have b6' : decide ((tn : Int) < at_) = true := by simp; omega
          go_enter Try.func24, Try.ntmps24
          go_wp2_with (first | (go_at_call 30; (with_reducible refine H29.mono ?_); rintro e w1 ⟨rfl, hb1⟩; obtain ⟨o0, o1, o2, o3, o4, o5, o6, o7, o8⟩ := nine' (HN.out w1 hb1); have HC1 := HT2.out w1 (HB0.out.trans (Joins.below_le hb1 (by simp))); have HB1 := hid hb1; clear hb1 H29) | (go_at_call 39; (with_reducible refine HC1.mono ?_); rintro e w2 ⟨rfl, hb2⟩; have HB2 := hid hb2; clear hb2 HC1))
          try go_ret2
          exact HHA.out _ (HB0.out.trans (Joins.below_le (HB1.out.trans (Joins.below_le HB2.out HB1.out.size)) (by simp)))
      · have e1 : errP t tn at_ = 0 := by simp [errP, c1, hs, c3, c4]
        obtain ⟨p, hp⟩ : ∃ p : Nat, at_ = (p : Int) := ⟨at_.toNat, by omega⟩
        have b5 : decide (at_ < 0) = false := by simp; omega
        have b6 : decide (at_ > (tn : Int)) = false := by simp; omega
        have b6' : decide ((tn : Int) < at_) = false := by simp; omega
        have hT3 : ∀ w1, Below w.heap.size w w1 → Calls Try.prog 40 #[N.v, .slice ad tn tcap] w1 fun e w' => ∃ g l, e = .returned (pt g) ∧ PS t t.notes tx p l ∧ l.length ≤ 65 ∧ Calls Try.prog 41 #[pt g, .int .i64 at_] w' fun e2 w'' => ∃ pv, e2 = .returned pv ∧ Parsed w1.heap.size w'' pv l ∧ Below w1.heap.size w1 w'' := fun w1 h => by
          rw [hp]
          exact walks31 N t tx ad tn tcap p w1 (hT1 w1 h) hs (by omega) (text_below htx h h.size) htc (by omega) (by omega)
        have HT3 := hid hT3
        have HA : ∀ (w1 w' : World) (pv : Value) (l : List (Int × List Int)), Below w.heap.size w w1 → PS t t.notes tx p l → l.length ≤ 65 → Parsed w1.heap.size w' pv l → Below w1.heap.size w1 w' → Answers t tx tn at_ w (.returned (.tuple #[pv, .int .i64 0])) w' := fun w1 w' pv l h1 h2 h3 h4 h5 => by
          refine ⟨pv, l, by rw [e1], ?_, fun _ => ⟨by rw [hp]; exact h2, h3⟩, fun h => absurd e1 h, h1.trans (Joins.below_le h5 h1.size)⟩
          obtain ⟨cs, F, q1, q2⟩ := h4
          refine ⟨cs, F, Joins.ownsRow_le q1 h1.size, ?_⟩
          exact q2.le h1.size
        have HHA := hid HA
        obtain ⟨k, r1, r2, r3, a2, s1, s2, s3, a4, a5, a6, a7, a8⟩ := N
        obtain ⟨Q, hQ⟩ : ∃ Q, Q = Answers t tx tn at_ w := ⟨_, rfl⟩
        rw [← hQ] at HHA ⊢
        dsimp only at H29 HN
        clear HA hTI htx e1 hQ hb0 hT1 hT2 hT3 hnode hs hf hno hr hp
        go_enter Try.func24, Try.ntmps24
        go_wp2_with (first | (go_at_call 30; (with_reducible refine H29.mono ?_); rintro e w1 ⟨rfl, hb1⟩; obtain ⟨o0, o1, o2, o3, o4, o5, o6, o7, o8⟩ := nine' (HN.out w1 hb1); have HC1 := HT2.out w1 (HB0.out.trans (Joins.below_le hb1 (by simp))); have HB1 := hid hb1; clear hb1 H29) | (go_at_call 39; (with_reducible refine HC1.mono ?_); rintro e w2 ⟨rfl, hb2⟩; obtain ⟨p0, p1, p2, p3, p4, p5, p6, p7, p8⟩ := nine' (HN.out w2 (HB1.out.trans (Joins.below_le hb2 HB1.out.size))); have HC2 := HT3.out w2 (HB0.out.trans (Joins.below_le (HB1.out.trans (Joins.below_le hb2 HB1.out.size)) (by simp))); have HB2 := hid hb2; clear hb2 HC1 o0 o1 o2 o3 o4 o5 o6 o7 o8) | (go_at_call 40; (with_reducible refine HC2.mono ?_); rintro e w3 ⟨g, l, rfl, hps, hln, hC3⟩; have HPS := hid hps; have HLN := hid hln; clear HC2 hps hln) | (go_at_call 41; (with_reducible refine hC3.mono ?_); rintro e w4 ⟨pv, rfl, hP, hB⟩; obtain ⟨cs, FF, hrow, hPR⟩ := hP; obtain ⟨q1, q2, q3, rfl⟩ := row_slice hrow; have HP4 : Hid (Parsed w2.heap.size w4 (.slice q1 q2 q3) l) := ⟨cs, FF, hrow, hPR⟩; have HB4 := hid hB; clear hB hC3 hrow hPR))
        try go_ret2
        exact HHA.out w2 w4 _ l (HB0.out.trans (Joins.below_le (HB1.out.trans (Joins.below_le HB2.out HB1.out.size)) (by simp))) HPS.out HLN.out HP4.out HB4.out
end Go.Proofs.Ytdidopgenhpakaa
namespace Go.Proofs.Ytdidopgenhpakaa
open Go.RowKit
set_option linter.unusedVariables false
set_option linter.unusedSimpArgs false
/-- what is noted is as before -/
theorem Ex.notes {tx : List Int} {E : Nat → Way} {W : Way} {p : Nat} {s s' : Sg} (h : Ex tx E W p s s') : s'.notes = s.notes := by
  induction h with
  | through p s => rfl
  | skip h => rfl
  | once h hd ih => exact ih
  | @noted c d p s s' hd ih =>
    show s'.notes.set c (s.notes.getD c 0) = s.notes
    rw [ih]
    show (s.notes.set c (p : Int)).set c (s.notes.getD c 0) = s.notes
    rw [List.set_set]
    by_cases hc : c < s.notes.length
    · rw [show s.notes.getD c 0 = s.notes[c] by simp [List.getD_eq_getElem?_getD, hc], List.set_getElem_self]
    · exact List.set_eq_of_length_le (by omega)
  | over h => rfl
  | other h hr => rfl
  | rune h hr hd ih => exact ih
  | fails h => rfl
  | holds h hd ih => exact ih
  | @inOrder l p ss h ih =>
    have key : ∀ i, i ≤ l.length → (ss i).notes = (ss 0).notes := by
      intro i
      induction i with
      | zero => intro _; rfl
      | succ i ihi => intro hi; rw [ih i (by omega), ihi (by omega)]
    exact key _ (Nat.le_refl _)
  | again h ih => exact ih
mutual
/-- each group that is open is closed on the way, the last first -/
def Way.cl (A : Nat → List Nat → Prop) : Way → List Nat → Prop
  | .through, O => O = []
  | .once _ d, O => d.cl A O
  | .noted c d, O => (∃ i, 1 ≤ i ∧ c = 2 * i ∧ d.cl A (i :: O)) ∨ ∃ i O', 1 ≤ i ∧ c = 2 * i + 1 ∧ O = i :: O' ∧ d.cl A O'
  | .runeOf _ d, O => d.cl A O
  | .ifHolds _ d, O => d.cl A O
  | .inOrder l, O => clL A l O
  | .again b, O => A b O
def clL (A : Nat → List Nat → Prop) : List Way → List Nat → Prop
  | [], _ => True
  | d :: l, O => d.cl A O ∧ clL A l O
end
theorem clL_get {A : Nat → List Nat → Prop} {O : List Nat} : ∀ {l : List Way}, clL A l O → ∀ (i : Nat) (hi : i < l.length), (l[i]'hi).cl A O := by
  intro l
  induction l with
  | nil => intro _ i hi; simp at hi
  | cons e l ih =>
    intro h i hi
    simp only [clL] at h
    cases i with
    | zero => exact h.1
    | succ i => exact ih h.2 i (by simpa using hi)
theorem clL_snoc {A : Nat → List Nat → Prop} {O : List Nat} {d : Way} (hd : d.cl A O) : ∀ {l : List Way}, clL A l O → clL A (l ++ [d]) O := by
  intro l
  induction l with
  | nil => intro _; simp [clL, hd]
  | cons e l ih => intro h; simp only [clL, List.cons_append] at h ⊢; exact ⟨h.1, ih h.2⟩
mutual
theorem cl_mono {A A' : Nat → List Nat → Prop} (hA : ∀ b O, A b O → A' b O) : ∀ (W : Way) (O : List Nat), W.cl A O → W.cl A' O
  | .through, O, h => by simp only [Way.cl] at h ⊢; exact h
  | .once n d, O, h => by simp only [Way.cl] at h ⊢; exact cl_mono hA d O h
  | .noted _ d, O, h => by
    simp only [Way.cl] at h ⊢
    rcases h with ⟨i, h1, h2, h3⟩ | ⟨i, O', h1, h2, h3, h4⟩
    · exact .inl ⟨i, h1, h2, cl_mono hA d _ h3⟩
    · exact .inr ⟨i, O', h1, h2, h3, cl_mono hA d _ h4⟩
  | .runeOf _ d, O, h => by simp only [Way.cl] at h ⊢; exact cl_mono hA d O h
  | .ifHolds _ d, O, h => by simp only [Way.cl] at h ⊢; exact cl_mono hA d O h
  | .inOrder l, O, h => by simp only [Way.cl] at h ⊢; exact clL_mono hA l O h
  | .again b, O, h => by simp only [Way.cl] at h ⊢; exact hA b O h
theorem clL_mono {A A' : Nat → List Nat → Prop} (hA : ∀ b O, A b O → A' b O) : ∀ (l : List Way) (O : List Nat), clL A l O → clL A' l O
  | [], O, h => by simp [clL]
  | d :: l, O, h => by simp only [clL] at h ⊢; exact ⟨cl_mono hA d O h.1, clL_mono hA l O h.2⟩
end
/-- what is noted, in the midst of a walk -/
structure Mid (p0 K p : Nat) (O : List Nat) (ν : List Int) : Prop where
  len : ν.length = K
  zero : ν.getD 0 0 = (p0 : Int)
  le : p0 ≤ p
  opn : ∀ i, 1 ≤ i → 2 * i + 1 < K → i ∈ O → (p0 : Int) ≤ ν.getD (2 * i) 0 ∧ ν.getD (2 * i) 0 ≤ (p : Int)
  cls : ∀ i, 1 ≤ i → 2 * i + 1 < K → i ∉ O → (ν.getD (2 * i) 0 = -1 ∧ ν.getD (2 * i + 1) 0 = -1) ∨ ((p0 : Int) ≤ ν.getD (2 * i) 0 ∧ ν.getD (2 * i) 0 ≤ ν.getD (2 * i + 1) 0 ∧ ν.getD (2 * i + 1) 0 ≤ (p : Int))
/-- the captures of a parse lie within -/
structure Within (p0 K : Nat) (e : Int × List Int) : Prop where
  len : e.2.length = K
  zero : e.2.getD 0 0 = (p0 : Int)
  one : e.2.getD 1 0 = e.1
  grp : ∀ i, 1 ≤ i → 2 * i + 1 < K → (e.2.getD (2 * i) 0 = -1 ∧ e.2.getD (2 * i + 1) 0 = -1) ∨ ((p0 : Int) ≤ e.2.getD (2 * i) 0 ∧ e.2.getD (2 * i) 0 ≤ e.2.getD (2 * i + 1) 0 ∧ e.2.getD (2 * i + 1) 0 ≤ e.1)
theorem getD_set_ne {l : List Int} {i j : Nat} {x : Int} (h : i ≠ j) : (l.set i x).getD j 0 = l.getD j 0 := by
  simp only [List.getD_eq_getElem?_getD, List.getElem?_set_ne h]
theorem getD_set_eq {l : List Int} {i : Nat} {x : Int} (h : i < l.length) : (l.set i x).getD i 0 = x := by
  simp only [List.getD_eq_getElem?_getD, List.getElem?_set_self h]
  rfl
theorem Mid.on {p0 K p q : Nat} {O : List Nat} {ν : List Int} (h : Mid p0 K p O ν) (hq : p ≤ q) : Mid p0 K q O ν :=
  ⟨h.len, h.zero, by have := h.le; omega, fun i a b c => by have := h.opn i a b c; omega, fun i a b c => by have := h.cls i a b c; omega⟩
theorem Mid.begins {p0 K p : Nat} {O : List Nat} {ν : List Int} (h : Mid p0 K p O ν) (j : Nat) (hj : 1 ≤ j) : Mid p0 K p (j :: O) (ν.set (2 * j) (p : Int)) := by
  refine ⟨by simp [h.len], by rw [getD_set_ne (by omega)]; exact h.zero, h.le, fun i a b c => ?_, fun i a b c => ?_⟩
  · by_cases hi : i = j
    · subst hi
      rw [getD_set_eq (by rw [h.len]; omega)]
      have := h.le
      omega
    · rw [getD_set_ne (by omega)]
      simp only [List.mem_cons, hi, false_or] at c
      exact h.opn i a b c
  · simp only [List.mem_cons, not_or] at c
    rw [getD_set_ne (by omega), getD_set_ne (by omega)]
    exact h.cls i a b c.2
theorem Mid.closes {p0 K p j : Nat} {O : List Nat} {ν : List Int} (h : Mid p0 K p (j :: O) ν) (hj : 1 ≤ j) : Mid p0 K p O (ν.set (2 * j + 1) (p : Int)) := by
  refine ⟨by simp [h.len], by rw [getD_set_ne (by omega)]; exact h.zero, h.le, fun i a b c => ?_, fun i a b c => ?_⟩
  · rw [getD_set_ne (by omega)]
    exact h.opn i a b (by simp [c])
  · by_cases hi : i = j
    · subst hi
      have := h.opn i a b (by simp)
      rw [getD_set_ne (by omega), getD_set_eq (by rw [h.len]; omega)]
      exact .inr ⟨this.1, this.2, Int.le_refl _⟩
    · rw [getD_set_ne (by omega), getD_set_ne (by omega)]
      exact h.cls i a b (by simp [hi, c])
/-- the captures of what comes through lie within -/
theorem ex_within {tx : List Int} {E : Nat → Way} {A : Nat → List Nat → Prop} (hE : ∀ b O, A b O → (E b).cl A O) {p0 K : Nat} (hK : 2 ≤ K) {W : Way} {p : Nat} {s s' : Sg} (h : Ex tx E W p s s') : ∀ O, W.cl A O → Mid p0 K p O s.notes → (∀ e ∈ s.parses, Within p0 K e) → ∀ e ∈ s'.parses, Within p0 K e := by
  induction h with
  | through p s =>
    intro O hO hM hP e he
    simp only [Way.cl] at hO
    subst hO
    simp only [List.mem_append, List.mem_singleton] at he
    rcases he with he | rfl
    · exact hP e he
    · refine ⟨by simp [hM.len], by rw [getD_set_ne (by omega)]; exact hM.zero, getD_set_eq (by rw [hM.len]; omega), fun i a b => ?_⟩
      show ((s.notes.set 1 (p : Int)).getD (2 * i) 0 = -1 ∧ _) ∨ _
      rw [getD_set_ne (by omega), getD_set_ne (by omega)]
      exact hM.cls i a b (by simp)
  | skip h => intro O hO hM hP; exact hP
  | once h hd ih => intro O hO hM hP; simp only [Way.cl] at hO; exact ih O hO hM hP
  | noted hd ih =>
    intro O hO hM hP
    simp only [Way.cl] at hO
    rcases hO with ⟨i, h1, rfl, h3⟩ | ⟨i, O', h1, rfl, rfl, h4⟩
    · exact ih _ h3 (hM.begins i h1) hP
    · exact ih _ h4 (hM.closes h1) hP
  | over h => intro O hO hM hP; exact hP
  | other h hr => intro O hO hM hP; exact hP
  | rune h hr hd ih => intro O hO hM hP; simp only [Way.cl] at hO; exact ih O hO (hM.on (by omega)) hP
  | fails h => intro O hO hM hP; exact hP
  | holds h hd ih => intro O hO hM hP; simp only [Way.cl] at hO; exact ih O hO hM hP
  | @inOrder l p ss h ih =>
    intro O hO hM hP
    simp only [Way.cl] at hO
    have key : ∀ i, i ≤ l.length → (ss i).notes = (ss 0).notes ∧ ∀ e ∈ (ss i).parses, Within p0 K e := by
      intro i
      induction i with
      | zero => intro _; exact ⟨rfl, hP⟩
      | succ i ihi =>
        intro hi
        obtain ⟨a, b⟩ := ihi (by omega)
        exact ⟨(h i (by omega)).notes.trans a, ih i (by omega) O (clL_get hO i (by omega)) (by rw [a]; exact hM) b⟩
    exact (key _ (Nat.le_refl _)).2
  | again h ih => intro O hO hM hP; simp only [Way.cl] at hO; exact ih O (hE _ O hO) hM hP
mutual
/-- its groups are counted from one on -/
def Tn.from1 : Tn → Prop
  | .mk k R a s mn mx lz ix nm => (k = 7 → 1 ≤ ix) ∧ from1L s
def from1L : List Tn → Prop
  | [] => True
  | t :: ts => t.from1 ∧ from1L ts
end
theorem from1L_snoc {t : Tn} : ∀ {ts : List Tn}, from1L (ts ++ [t]) ↔ from1L ts ∧ t.from1 := by
  intro ts
  induction ts with
  | nil => simp [from1L]
  | cons u ts ih => simp only [List.cons_append, from1L, ih, and_assoc]
/-- more loops, each right -/
structure Mor (E : Nat → Way) (A A' : Nat → List Nat → Prop) : Prop where
  sub : ∀ b O, A b O → A' b O
  new : ∀ b O, A' b O → A b O ∨ (E b).cl A' O
section
variable {E : Nat → Way}
theorem Mor.refl (A : Nat → List Nat → Prop) : Mor E A A := ⟨fun _ _ h => h, fun _ _ h => .inl h⟩
theorem Mor.trans {A A1 A2 : Nat → List Nat → Prop} (h : Mor E A A1) (h' : Mor E A1 A2) : Mor E A A2 :=
  ⟨fun b O hb => h'.sub b O (h.sub b O hb), fun b O hb => by
    rcases h'.new b O hb with hb | hb
    · rcases h.new b O hb with hb | hb
      · exact .inl hb
      · exact .inr (cl_mono h'.sub _ _ hb)
    · exact .inr hb⟩
/-- to begin this closes what was opened -/
def ClM (E : Nat → Way) (B W : Way) : Prop := ∀ A O, B.cl A O → ∃ A', Mor E A A' ∧ W.cl A' O
theorem ClM.self (B : Way) : ClM E B B := fun A O h => ⟨A, .refl A, h⟩
theorem ClM.seq {B W W' : Way} (h : ClM E B W) (h' : ClM E W W') : ClM E B W' := fun A O hb => by
  obtain ⟨A1, m1, h1⟩ := h A O hb
  obtain ⟨A2, m2, h2⟩ := h' A1 O h1
  exact ⟨A2, m1.trans m2, h2⟩
theorem ClM.map {B W W' : Way} (h : ClM E B W) (hW : ∀ A O, W.cl A O → W'.cl A O) : ClM E B W' := fun A O hb => by
  obtain ⟨A1, m1, h1⟩ := h A O hb
  exact ⟨A1, m1, hW _ _ h1⟩
theorem ClM.round {n : Int} {b : Nat} {B : Way} (lz : Bool) (h : ClM E (Dcd lz n b B) (E b)) {A : Nat → List Nat → Prop} {O : List Nat} (hB : B.cl A O) : ∃ A', Mor E A A' ∧ (E b).cl A' O ∧ (Dcd lz n b B).cl A' O := by
  have hD : (Dcd lz n b B).cl (fun x P => A x P ∨ (x = b ∧ P = O)) O := by
    have hB' := cl_mono (A' := fun x P => A x P ∨ (x = b ∧ P = O)) (fun x P hx => .inl hx) B O hB
    simp only [Way.cl]
    cases lz <;> simp [clL, hB', Way.cl]
  obtain ⟨A1, m1, h1⟩ := h _ O hD
  refine ⟨A1, ⟨fun x P hx => m1.sub x P (.inl hx), fun x P hx => ?_⟩, h1, cl_mono m1.sub _ _ hD⟩
  rcases m1.new x P hx with (hx | ⟨rfl, rfl⟩) | hx
  · exact .inl hx
  · exact .inr h1
  · exact .inr hx
theorem Beg.closes {t : Tn} {n n1 : Int} {B W : Way} (h : Beg E t n B n1 W) : t.from1 → ClM E B W := by
  refine Beg.rec (motive_1 := fun t n B n1 W _ => t.from1 → ClM E B W) (motive_2 := fun ts n B n1 W _ => from1L ts → ClM E B W)
    (motive_3 := fun ts n B n1 Ws _ => from1L ts → ∀ A O, B.cl A O → ∃ A', Mor E A A' ∧ clL A' Ws O)
    (motive_4 := fun t c n B n1 W _ => t.from1 → ClM E B W) (motive_5 := fun t lz B c n n1 W _ => t.from1 → ClM E B W)
    ?_ ?_ ?_ ?_ ?_ ?_ ?_ ?_ ?_ ?_ ?_ ?_ ?_ ?_ ?_ ?_ ?_ h
  · intro R a s mn mx lz ix nm n B _
    exact (ClM.self B).map fun _ _ h => by simp only [Way.cl]; exact h
  · intro R a s mn mx lz ix nm n B _
    exact (ClM.self B).map fun _ _ h => by simp only [Way.cl]; exact h
  · intro R a s mn mx lz ix nm n B _
    exact (ClM.self B).map fun _ _ h => by simp only [Way.cl]; exact h
  · intro R a s mn mx lz ix nm n n' B W _ h hf
    simp only [Tn.from1] at hf
    exact h hf.2
  · intro R a s mn mx lz ix nm n n' B Ws _ h hf A O hb
    simp only [Tn.from1] at hf
    obtain ⟨A1, m1, h1⟩ := h hf.2 A O hb
    exact ⟨A1, m1, by simp only [Way.cl]; exact h1⟩
  · intro R a t mn mx lz i nm n n' B W _ h hf A O hb
    simp only [Tn.from1, from1L] at hf
    have hi : 1 ≤ i := by have := hf.1 trivial; omega
    obtain ⟨A1, m1, h1⟩ := h hf.2.1 A (i :: O) (by simp only [Way.cl]; exact .inr ⟨i, O, hi, rfl, rfl, hb⟩)
    exact ⟨A1, m1, by simp only [Way.cl]; exact .inl ⟨i, hi, rfl, h1⟩⟩
  · intro R a t lz ix nm n n2 b B _ h hf A O hb
    simp only [Tn.from1, from1L] at hf
    obtain ⟨A1, m1, _, h1⟩ := (h hf.2.1).round lz hb
    exact ⟨A1, m1, h1⟩
  · intro R a t c lz ix nm n n2 n3 b B W3 _ _ h hT hf
    simp only [Tn.from1, from1L] at hf
    refine ClM.seq (fun A O hb => ?_) (hT hf.2.1)
    obtain ⟨A1, m1, h1, _⟩ := (h hf.2.1).round lz hb
    exact ⟨A1, m1, h1⟩
  · intro R a t c m lz ix nm n n1 n2 B W1 W2 _ _ hO hT hf
    simp only [Tn.from1, from1L] at hf
    exact (hO hf.2.1).seq (hT hf.2.1)
  · intro n B _
    exact .self B
  · intro t ts n n1 n2 B W1 W2 _ _ h h2 hf
    simp only [from1L] at hf
    exact (h hf.2).seq (h2 hf.1)
  · intro n B _ A O hb
    exact ⟨A, .refl A, by simp [clL]⟩
  · intro t ts n n1 n2 B W2 Ws _ _ hl hl2 hf A O hb
    rw [from1L_snoc] at hf
    obtain ⟨A1, m1, h1⟩ := hl hf.1 A O hb
    obtain ⟨A2, m2, h2⟩ := hl2 hf.2 A1 O (cl_mono m1.sub _ _ hb)
    exact ⟨A2, m1.trans m2, clL_snoc h2 (clL_mono m2.sub _ _ h1)⟩
  · intro t n W _
    exact .self W
  · intro t c n n1 n2 W W1 W2 _ _ h h2 hf
    exact (h hf).seq (h2 hf)
  · intro t lz B n _
    exact .self B
  · intro t lz B c n n1 n2 W1 W2 _ _ h h2 hf A O hb
    obtain ⟨A1, m1, h1⟩ := ((h hf).seq (h2 hf)) A O hb
    have hb1 := cl_mono m1.sub _ _ hb
    refine ⟨A1, m1, ?_⟩
    simp only [Way.cl]
    cases lz <;> simp [clL, h1, hb1]
end
/-- THE CAPTURES of the parses of a tree lie within -/
theorem PS.within {t : Tn} {K : Nat} {tx : List Int} {p : Nat} {l : List (Int × List Int)} (h : PS t K tx p l) (hK : 2 ≤ K) (hf : t.from1) : ∀ e ∈ l, Within p K e := by
  obtain ⟨E, W, n1, s', hB, hE, hg, hx, rfl⟩ := h.ex
  obtain ⟨A, hM, hc⟩ := hB.closes hf (fun _ _ => False) [] (by simp [Way.cl])
  refine ex_within (A := A) (fun b O hb => ?_) hK hx [] hc ⟨by simp, getD_set_eq (by simp; omega), Nat.le_refl _, fun i _ _ hi => (by cases hi), fun i a b _ => .inl ?_⟩ (fun e he => by cases he)
  · rcases hM.new b O hb with h | h
    · exact h.elim
    · exact h
  · show ((List.replicate K (-1)).set 0 (p : Int)).getD (2 * i) 0 = -1 ∧ ((List.replicate K (-1)).set 0 (p : Int)).getD (2 * i + 1) 0 = -1
    rw [getD_set_ne (by omega), getD_set_ne (by omega)]
    simp only [List.getD_eq_getElem?_getD, List.getElem?_replicate]
    rw [if_pos (by omega), if_pos (by omega)]
    simp
mutual
theorem Tn.fine_from1 : ∀ (t : Tn), t.fine = true → t.from1
  | .mk k R a s mn mx lz ix nm, h => by
    simp only [Tn.fine, Bool.and_eq_true] at h
    simp only [Tn.from1]
    exact ⟨fun hk => ((fine_nodeZ h.1).grp hk).2.1, fineL_from1 s h.2⟩
theorem fineL_from1 : ∀ (ts : List Tn), fineL ts = true → from1L ts
  | [], _ => by simp [from1L]
  | t :: ts, h => by
    simp only [fineL, Bool.and_eq_true] at h
    simp only [from1L]
    exact ⟨t.fine_from1 h.1, fineL_from1 ts h.2⟩
end
end Go.Proofs.Ytdidopgenhpakaa
