/- HELPERS: a writer lays a number down. -/
import Derived.Test.YteanndophopplaaDoorSg
import Derived.Laws.BitsAllLaws
import Derived.Lib.SlBytesConst
namespace Go.Proofs.YteanndophopplaaDoor
open Go.RowKit
set_option linter.unusedVariables false
set_option linter.unusedSimpArgs false
/-- a writer in memory: a box of type T that holds its row of bytes -/
structure WB (T base wb : Nat) (w : World) (xs : List Nat) (v : Value) : Prop where
  box : w.heap[wb]? = some (.cells #[v] T (0, 0))
  own : w.ownsRow base 5 1 v xs.length (U8 xs)
  bs : base ≤ w.heap.size
abbrev WF (wb : Nat) (v : Value) : List Nat := wb :: v.ownBlock.toList
/-- what a writer's number does: f is the function's number, E the number's bytes -/
abbrev NumW (f T base wb : Nat) (E : Nat → List Nat) (w0 : World) : Prop := ∀ (w : World) (xs : List Nat) (v : Value) (k : Nat), Below base w0 w → WB T base wb w xs v → xs.length + k + 12 ≤ 1099511627776 ∧ k ≤ 1200000 →
  Calls Tryd.prog f #[pt wb, .int .i64 (k : Int)] w fun e w' => e = .returned (.tuple #[]) ∧ ∃ v', WB T base wb w' (xs ++ E k) v' ∧ Chg w w' (WF wb v) (WF wb v')
theorem WB.ne {T base wb : Nat} {w : World} {xs : List Nat} {v : Value} (h : WB T base wb w xs v) (hT : T ≠ 5) : v.ownBlock ≠ some wb := own_ne h.own h.box hT
/-- a row of bytes that may grow: one of the call's own, or a full one -/
def RR (base : Nat) (w : World) (xs : List Nat) (v : Value) : Prop := w.ownsRow base 5 1 v xs.length (U8 xs) ∨ ∃ g cs fr, v = .slice (some ⟨g, 0, none⟩) xs.length xs.length ∧ base ≤ g ∧ w.heap[g]? = some (.cells cs 5 fr) ∧ cs.toList = U8 xs
theorem RR.ne {base b : Nat} {w : World} {xs : List Nat} {v : Value} {c : Array Value} {t : TypeId} {fr : Nat × Nat} (h : RR base w xs v) (hb : w.heap[b]? = some (.cells c t fr)) (ht : t ≠ 5) : v.ownBlock ≠ some b := by
  rcases h with h | ⟨g, cs, fr', rfl, _, hg, _⟩
  · exact own_ne h hb ht
  · intro e
    simp [Value.ownBlock] at e
    subst e
    rw [hg] at hb
    simp at hb
    exact ht hb.2.1.symm
theorem RR.shape {base : Nat} {w : World} {xs : List Nat} {v : Value} (h : RR base w xs v) : ∃ a c, v = .slice a xs.length c := by
  rcases h with h | ⟨g, cs, fr', rfl, _, _⟩
  · obtain ⟨a, c, e, _⟩ := row_shape h; exact ⟨a, c, e⟩
  · exact ⟨_, _, rfl⟩
structure WBR (T base wb : Nat) (w : World) (xs : List Nat) (v : Value) : Prop where
  box : w.heap[wb]? = some (.cells #[v] T (0, 0))
  own : RR base w xs v
  bs : base ≤ w.heap.size
theorem WB.r {T base wb : Nat} {w : World} {xs : List Nat} {v : Value} (h : WB T base wb w xs v) : WBR T base wb w xs v := ⟨h.box, .inl h.own, h.bs⟩
theorem WBR.ne {T base wb : Nat} {w : World} {xs : List Nat} {v : Value} (h : WBR T base wb w xs v) (hT : T ≠ 5) : v.ownBlock ≠ some wb := h.own.ne h.box hT
theorem add_cell {w : World} {g : Nat} {cs : Array Value} {t : TypeId} {fr : Nat × Nat} (h : w.heap[g]? = some (.cells cs t fr)) (o : Obj) : ∀ j u, cs.toList[j]? = some u → (w.alloc o).cell? ((⟨g, 0, none⟩ : Addr).add j) = some u := by
  intro j u hj
  have hg : g < w.heap.size := (Array.getElem?_eq_some_iff.1 h).1
  have h2 : (w.alloc o).heap[g]? = some (.cells cs t fr) := (heap_alloc_old w o hg).trans h
  rw [Addr.add_mid, Nat.zero_add, Joins.cell_of_block h2]
  simpa using hj
theorem grown_own {w : World} {base old : Nat} (xs : List Nat) (u : Nat) (hbase : base ≤ w.heap.size) (h : xs.length + 1 ≤ maxLen) :
    (w.drew.alloc (.cells ((U8 xs).toArray ++ [Value.int .u8 (u : Int)].toArray ++ Builtin.zeroCells (Value.int .u8 0).cells (grownCap w (xs.length + 1) old 5 - (xs.length + 1))) 5)).ownsRow base 5 1 (.slice (some ⟨w.heap.size, 0, none⟩) (xs.length + 1) (grownCap w (xs.length + 1) old 5)) (xs.length + 1) (U8 (xs ++ [u])) := by
  have hge := grownCap_ge w (xs.length + 1) old 5
  have hcm : grownCap w (xs.length + 1) old 5 ≤ maxLen := grownCap_le_maxLen w (xs.length + 1) old 5 h
  refine ⟨by simp [U8_len], .inr ⟨w.heap.size, _, _, rfl, hbase, heap_alloc_new w.drew _, hge, hcm, ?_, ?_⟩⟩
  · simp only [Array.size_append, List.size_toArray, size_zeroCells, U8_len, List.length_singleton, Value.cells]
    simp
    omega
  · simp only [Array.toList_append]
    rw [U8_snoc]
    exact List.take_left' (by simp [U8_len])
/-- one byte behind a row of bytes -/
theorem wpList_append_oneR {w : World} {ops : Array Oper} {rest : List Oper} {op : Oper} {a : Act} {Q : Exit → Act → World → Prop} (hgd : op.guard = none) (s x : Operand)
    (ho : op.op = .call { callee := .builtin .append, args := #[s, x], argTypes := #[36, 36] })
    (base : Nat) (v : Value) (u : Nat) (c : Nat) (xs : List Nat) (hs : a.eval s = v) (hown : RR base w xs v)
    (G : Nat) (hG : G = w.heap.size) (hx : a.eval x = .slice (some ⟨G, 0, none⟩) 1 c)
    (h63 : xs.length ≤ 1099511627776) (hbase : base ≤ w.heap.size)
    (h : ∀ v' w', Hid (w'.ownsRow base 5 1 v' (xs.length + 1) (U8 (xs ++ [u]))) → Hid (Moved (w.alloc (.cells #[.int .u8 (u : Int)] 5)) w' v v') → wpList Tryd.prog ops Q rest (a.put op.dst v') w') : wpList Tryd.prog ops Q (op :: rest) a (w.alloc (.cells #[.int .u8 (u : Int)] 5)) := by
  rcases hown with hown | ⟨g, cs, fr, rfl, hg, hb, hcs⟩
  · refine wpList_append_one hgd s x 36 ho base 5 (.int .u8 0) 1 Tryd.underlying36 info5 rfl v (.int .u8 (u : Int)) xs.length c (U8 xs) hs hown G hG hx rfl (by unfold maxLen; omega) (by omega) hbase ?_
    intro v' w' h1 h2
    exact h v' w' (by rw [U8_snoc]; exact h1) h2
  · subst hG
    refine wpList_plain hgd fun K hK => ?_
    obtain ⟨i0, hi, hz0, hz1, hz2⟩ := info_parts info5
    have hr := run_append_grow (P := Tryd.prog) (w.alloc (.cells #[.int .u8 (u : Int)] 5)) 36 op.type 5 i0 (.int .u8 0) Tryd.underlying36 hi hz0 ⟨g, 0, none⟩ xs.length xs.length (U8 xs) (by rw [hz1, U8_len]; omega) (by rw [← hcs]; exact add_cell hb _) ⟨w.heap.size, 0, none⟩ 1 c [.int .u8 (u : Int)] (by rw [hz1]; rfl) (by
      intro j y hj
      match j, hj with
      | 0, hj => simp at hj; subst hj; simp [Addr.add]) (by omega) (by omega) (growslice_fits (by omega) (by rw [hz2]; omega))
    have hown0 : (w.alloc (.cells #[.int .u8 (u : Int)] 5)).ownsRow base 5 1 (.slice none 0 0) 0 [] := World.ownsRow_nil _ _ _ _
    obtain ⟨v', w', hr2, h2, h3⟩ : ∃ v' w', (Builtin.append_ #[36, 36] op.type #[.slice (some ⟨g, 0, none⟩) xs.length xs.length, .slice (some ⟨w.heap.size, 0, none⟩) 1 c]).run Tryd.prog (w.alloc (.cells #[.int .u8 (u : Int)] 5)) = .ok v' w' ∧ w'.ownsRow base 5 1 v' (xs.length + 1) (U8 (xs ++ [u])) ∧ Moved (w.alloc (.cells #[.int .u8 (u : Int)] 5)) w' (.slice (some ⟨g, 0, none⟩) xs.length xs.length) v' := by
      refine ⟨_, _, hr, ?_, .inr ⟨rfl, ⟨rfl, rfl, rfl, by simp, fun k hk _ => heap_alloc_old _ _ hk⟩⟩⟩
      exact grown_own (w := w.alloc (.cells #[.int .u8 (u : Int)] 5)) xs u (by simp; omega) (by unfold maxLen; omega)
    unfold Oper.wp execOp
    simp only [ho, resolve, invoke, builtin, Sem.run_bind, Sem.run_pure, Result.andThen_ok, List.map_toArray, List.map_cons, List.map_nil, hs, hx, hr2]
    exact hK _ _ (h v' w' h2 h3)
/-- the row has grown, the box is written -/
theorem WBR.put {T base wb : Nat} {w w1 : World} {o : Obj} {xs ys : List Nat} {v v' : Value} {n : Nat} (hT : T ≠ 5) (h : WBR T base wb w xs v) (hm : Moved (w.alloc o) w1 v v') (ho : w1.ownsRow base 5 1 v' n (U8 ys)) (hn : n = ys.length) :
    WB T base wb (w1.setCell ⟨wb, 0, none⟩ v') ys v' ∧ Chg w (w1.setCell ⟨wb, 0, none⟩ v') (WF wb v) (WF wb v') := by
  subst hn
  have hwb : wb < w.heap.size := (Array.getElem?_eq_some_iff.1 h.box).1
  have hne := h.ne hT
  have hf := hm.frm
  have hbx : w1.heap[wb]? = some (.cells #[v] T (0, 0)) := (hf.block wb (by simp; omega) hne).trans ((heap_alloc_old w o hwb).trans h.box)
  have hne' : v'.ownBlock ≠ some wb := own_ne ho hbx hT
  refine ⟨⟨Joins.block_setCell hbx v', own_setCell ho (by exact hne'), ?_⟩, ?_⟩
  · have h1 := h.bs
    have h2 := hf.size
    simp at h2
    simp [World.setCell]
    omega
  · have := (chg_moved hm [wb]).set v' (a := ⟨wb, 0, none⟩) (by simp)
    simpa using this
theorem WBR.box1 {T base wb : Nat} {w w1 : World} {o : Obj} {xs : List Nat} {v v' : Value} (hT : T ≠ 5) (h : WBR T base wb w xs v) (hm : Moved (w.alloc o) w1 v v') : w1.cell? ⟨wb, 0, none⟩ = some v ∧ w1.frozen? ⟨wb, 0, none⟩ = false := by
  have hwb : wb < w.heap.size := (Array.getElem?_eq_some_iff.1 h.box).1
  have hne := h.ne hT
  have hf := hm.frm
  have hbx : w1.heap[wb]? = some (.cells #[v] T (0, 0)) := (hf.block wb (by simp; omega) hne).trans ((heap_alloc_old w o hwb).trans h.box)
  exact ⟨Joins.cell_of_block hbx 0, Joins.unfrozen_of_block hbx 0⟩
theorem or_128 (q : Nat) : bits .or .u8 ((q % 256 : Nat) : Int) 128 = ((128 + q % 128 : Nat) : Int) := by
  have h := u8_or_nat (q % 256) 128 (by omega) (by decide)
  have e : ∀ x : Fin 256, x.val ||| 128 = 128 + x.val % 128 := by decide +kernel
  have e2 := e ⟨q % 256, by omega⟩
  simp only at e2
  rw [e2] at h
  have e3 : q % 256 % 128 = q % 128 := by omega
  rw [e3] at h
  exact h
set_option maxRecDepth 100000 in
set_option maxHeartbeats 4000000 in
theorem number62R {base wb : Nat} {w : World} {xs : List Nat} {v : Value} {k : Nat} (hW : WBR 95 base wb w xs v) (hS : xs.length + k + 2 ≤ 1099511627776) :
    Calls Tryd.prog 62 #[pt wb, .int .i64 (k : Int)] w fun e w' => e = .returned (.tuple #[]) ∧ ∃ v', WB 95 base wb w' (xs ++ put7 k) v' ∧ Chg w w' (WF wb v) (WF wb v') := by
  have HW := hid hW
  clear hW
  go_enter Tryd.func62, Tryd.ntmps62
  go_wp2_with fail
  go_loopw [1] (fun y wq => ∃ (ys : List Nat) (q : Nat) (z : Value), y = .int .i64 (q : Int) ∧ ys.length + q ≤ xs.length + k ∧ Hid (WBR 95 base wb wq ys z) ∧ Hid (ys ++ put7 q = xs ++ put7 k) ∧ Hid (Chg w wq (WF wb v) (WF wb z))) (fun y _ => (intOf y).toNat)
  case atStart => exact ⟨xs, k, v, rfl, by omega, HW.out, rfl, Chg.refl _ _⟩
  case round =>
    clear HW
    obtain ⟨ys, q, z, rfl, hq, HW, HE, HC⟩ := hrel
    have hbw := HW.out.bs
    obtain ⟨za, zc, rfl⟩ := HW.out.own.shape
    have c0 : wr.cell? ⟨wb, 0, none⟩ = some (.slice za ys.length zc) := Joins.cell_of_block HW.out.box 0
    have f0 : wr.frozen? ⟨wb, 0, none⟩ = false := Joins.unfrozen_of_block HW.out.box 0
    have HOWN := hid HW.out.own
    obtain ⟨yn, hyn⟩ : ∃ yn, yn = ys.length := ⟨_, rfl⟩
    rw [← hyn] at c0 hq HC HW HOWN
    have HYN := hid hyn
    have HYL : Hid (ys.length ≤ 1099511627776) := by show _ ≤ _; omega
    clear hyn
    by_cases h8 : 128 ≤ q
    · have b1 : decide ((q : Int) ≥ 128) = true := by simp; omega
      have b2 : decide ((128 : Int) ≤ (q : Int)) = true := by simp; omega
      have b4 : (128 : Int) ≤ (q : Int) := by omega
      have HB8 := hid h8
      clear h8 b4
      have B8 : bits .or .u8 ((q : Int) % 256) 128 = ((128 + q % 128 : Nat) : Int) := by
        have := or_128 q
        simpa using this
      have hz : ((128 + q % 128 : Nat) : Int) = 128 + (q : Int) % 128 := by push_cast; rfl
      obtain ⟨d, hd⟩ : ∃ d : Nat, d = 128 + q % 128 := ⟨_, rfl⟩
      rw [← hd] at B8
      have HD := hid hd
      clear hd hz
      go_wp2_with (at_builtin; refine wpList_append_oneR rfl (.tmp 10) (.tmp 14) rfl base _ d 1 ys rfl HOWN.out _ rfl rfl HYL.out hbw ?_; intro v' w1 ho1 hm1; obtain ⟨va, vc, rfl, _, _⟩ := row_shape ho1.out; obtain ⟨c1, f1⟩ := HW.out.box1 (by decide) hm1.out)
      obtain ⟨hW1, hC1⟩ := HW.out.put (by decide) hm1.out (ys := ys ++ [d]) ho1.out (by rw [List.length_append]; rfl)
      exact ⟨⟨ys ++ [d], q / 128, _, by push_cast; rfl, by have := HB8.out; simp [← HYN.out]; omega, hW1.r, by show _ = _; rw [← HE.out, put7_big HB8.out, HD.out, List.append_assoc]; rfl, HC.out.trans hC1⟩, by have := HB8.out; simp [intOf]; omega⟩
    · have b1 : decide ((q : Int) ≥ 128) = false := by simp; omega
      have b2 : decide ((128 : Int) ≤ (q : Int)) = false := by simp; omega
      have b4 : ¬ ((128 : Int) ≤ (q : Int)) := by omega
      have HB8 := hid h8
      have b5 : (q : Int) % 256 = (q : Int) := by omega
      go_wp2_with (at_builtin; refine wpList_append_oneR rfl (.tmp 24) (.tmp 27) rfl base _ q 1 ys rfl HOWN.out _ rfl rfl HYL.out hbw ?_; intro v' w1 ho1 hm1; obtain ⟨va, vc, rfl, _, _⟩ := row_shape ho1.out; obtain ⟨c1, f1⟩ := HW.out.box1 (by decide) hm1.out)
      obtain ⟨hW1, hC1⟩ := HW.out.put (by decide) hm1.out (ys := ys ++ [q]) ho1.out (by rw [List.length_append]; rfl)
      all_goals go_end0
      all_goals exact ⟨rfl, _, by rw [← HE.out, put7_small HB8.out]; exact hW1, HC.out.trans hC1⟩
theorem number62 (base wb : Nat) (w0 : World) : NumW 62 95 base wb put7 w0 := fun _ _ _ _ _ h hS => number62R h.r (by omega)
end Go.Proofs.YteanndophopplaaDoor
