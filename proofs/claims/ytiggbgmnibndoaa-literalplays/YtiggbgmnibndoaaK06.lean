/- HELPERS: Tz, Ce, Ka. -/
import Derived.Test.YtiggbgmnibndoaaK05
import Derived.Laws.StructEq
import Derived.Deep.DrawnRows
/- HELPERS: Turned writes into the lent program's own lists alone. -/
namespace Go.Proofs.Ytiggbgmnibndoaa
open Go.RowKit
set_option linter.unusedVariables false
set_option linter.unusedSimpArgs false
theorem Chs.two {A : Nat → Prop} {g o o' : Nat} {w w' : World} (h : Chs A w w') (hg : A g) (p q : Value) : Chs A w ((w'.setCell ⟨g, o, none⟩ p).setCell ⟨g, o', none⟩ q) := (h.set (a := ⟨g, o, none⟩) hg p).set (a := ⟨g, o', none⟩) hg q
/-- the lists' blocks are of A -/
def AB (A : Nat → Prop) (MS : List Iv) : Prop := ∀ j b, (MS.getD j default).rv.ownBlock = some b → A b
theorem AB.swap {A : Nat → Prop} {MS : List Iv} {op x y a : Int} {r1 : Option Addr} {r2 r3 : Nat} (h : AB A MS) (i : Nat) (hN : MS.getD i default = ⟨op, x, y, a, r1, r2, r3⟩) : AB A (MS.set i ⟨op, y, x, a, r1, r2, r3⟩) := by
  intro j b hb
  by_cases e : j = i
  · subst e
    by_cases hl : j < MS.length
    · refine h j b ?_
      rw [hN]
      simpa [List.getD_eq_getElem?_getD, hl] using hb
    · exact h j b (by simpa [List.getD_eq_getElem?_getD, hl] using hb)
  · exact h j b (by simpa [List.getD_eq_getElem?_getD, List.getElem?_set_ne (fun e' => e e'.symm)] using hb)
theorem PL.eqw {w w' : World} {base n c : Nat} {ad : Option Addr} {l : List In} {MS : List Iv} (h : PL w base ad n c l MS) (e : Eqw w w') : PL w' base ad n c l MS :=
  ⟨h.len, h.lms, row_kept h.row (fun b _ => e.blk b), fun j hj => (h.lo j hj).kept (fun b _ => e.blk b), h.pw⟩
theorem Chs.eqw {A : Nat → Prop} {w w' w2 : World} (h : Chs A w w') (e : Eqw w' w2) : Chs A w w2 := ⟨e.os.trans h.os, e.tape.trans h.tape, e.output.trans h.output, by have := h.size; rw [e.heap]; exact this, fun b hb hn => (e.blk b).trans (h.block b hb hn)⟩
set_option maxRecDepth 100000 in
set_option maxHeartbeats 16000000 in
theorem turned16 {A : Nat → Prop} {w : World} {ad : Option Addr} {n c : Nat} {l : List In} {MS : List Iv} {s k : Int} {base : Nat} (h : PL w base ad n c l MS) (hn : n * 56 ≤ 140737488351232) (hA : A (match ad with | some a => a.block | none => 0)) (hAB : AB A MS) :
    Calls Try.prog 16 #[pv ad n c s k] w fun e w' => e = .returned (.tuple #[]) ∧ (∃ l' MS', PL w' base ad n c l' MS' ∧ AB A MS') ∧ Chs A w w' ∧ ∀ (b' : Nat) (cs : Array Value) (fr : Nat × Nat), w.heap[b']? = some (.cells cs 27 fr) → w'.heap[b']? = some (.cells cs 27 fr) := by
  obtain ⟨gz, rfl, hc1, hc2⟩ := h.blk
  dsimp only at hA
  obtain ⟨U, hU⟩ : ∃ U, U = w.alloc (.cells #[.slice (some ⟨gz, 0, none⟩) n c, .int .i64 s, .int .i64 k] 27) := ⟨_, rfl⟩
  have hb : Below w.heap.size w U := by rw [hU]; exact Joins.below_alloc1 w _
  have hX : U.heap[w.heap.size]? = some (.cells #[.slice (some ⟨gz, 0, none⟩) n c, .int .i64 s, .int .i64 k] 27 (0, 0)) := by rw [hU]; exact heap_alloc_new w _
  have HT := hid (h.below hb)
  have HB : Hid (Chs A w U) := Chs.of_below hb
  have HAB := hid hAB
  clear hAB
  have HF : Hid (∀ (b' : Nat) (cs : Array Value) (fr : Nat × Nat), w.heap[b']? = some (.cells cs 27 fr) → U.heap[b']? = some (.cells cs 27 fr)) := fun b' cs fr h' => (hb.block b' (Array.getElem?_eq_some_iff.1 h').1).trans h'
  have hsz : w.heap.size < U.heap.size := (Array.getElem?_eq_some_iff.1 hX).1
  obtain ⟨b, hbe⟩ : ∃ b, b = w.heap.size := ⟨_, rfl⟩
  clear h hb
  go_enter Try.func16, Try.ntmps16
  go_upto_region 1 with fail
  rw [← hU, ← hbe]
  rw [← hbe] at hX hsz
  have HX := hid hX
  have HBE := hid hbe
  clear hU hbe hX
  go_wp2_with fail
  go_loopw [2] (fun y wq => ∃ i : Nat, y = .int .i64 (i : Int) ∧ i ≤ n ∧ Hid (∃ l' MS', PL wq base (some ⟨gz, 0, none⟩) n c l' MS' ∧ AB A MS') ∧ Hid (Chs A w wq) ∧ Hid (wq.heap[b]? = some (.cells #[.slice (some ⟨gz, 0, none⟩) n c, .int .i64 s, .int .i64 k] 27 (0, 0))) ∧ b < wq.heap.size ∧ Hid (∀ (b' : Nat) (cs : Array Value) (fr : Nat × Nat), w.heap[b']? = some (.cells cs 27 fr) → wq.heap[b']? = some (.cells cs 27 fr))) (fun y _ => n - (intOf y).toNat)
  case atStart => exact ⟨0, rfl, by omega, ⟨_, _, HT.out, HAB.out⟩, HB.out, HX.out, hsz, HF.out⟩
  case round =>
    clear HT HB HX hsz HF HAB
    obtain ⟨i, rfl, hi, HT, HB, HX, hsz, HF⟩ := hrel
    obtain ⟨p0, p1, p2⟩ := three_cells HX.out
    by_cases hil : i < n
    · have b1 : decide ((i : Int) < (n : Int)) = true := by simp; omega
      have b2 : (i : Int) < (n : Int) := by omega
      have ad1 : IntKind.i64.wrap ((i : Int) + 1) = (i : Int) + 1 := by simp [IntKind.wrap, IntKind.bits, IntKind.signed]; omega
      go_wp2_with fail
      obtain ⟨l1, MS, hT, hAB⟩ := HT.out
      have HAB := hid hAB
      clear hAB
      obtain ⟨N, hN⟩ : ∃ N, N = MS.getD i default := ⟨_, rfl⟩
      obtain ⟨op, xx, yy, aa, r1, r2, r3⟩ := N
      have hr2 : r2 ≤ 8796093022208 := by
        have hO := hT.lo i (by have := hT.len; omega)
        rw [← hN] at hO; have := hO.sm; dsimp only at this; omega
      have HT1 := hid hT
      have HN := hid hN
      clear hT hN HT p0 p1 p2
      go_loopw [3] (fun y wq => ∃ j : Nat, y = .int .i64 (j : Int) ∧ j ≤ r2 ∧ Hid (∃ l', PL wq base (some ⟨gz, 0, none⟩) n c l' MS) ∧ Hid (Chs A w wq) ∧ Hid (wq.heap[b]? = some (.cells #[.slice (some ⟨gz, 0, none⟩) n c, .int .i64 s, .int .i64 k] 27 (0, 0))) ∧ b < wq.heap.size ∧ Hid (∀ (b' : Nat) (cs : Array Value) (fr : Nat × Nat), w.heap[b']? = some (.cells cs 27 fr) → wq.heap[b']? = some (.cells cs 27 fr))) (fun y _ => r2 - (intOf y).toNat)
      case atStart => exact ⟨0, rfl, by omega, ⟨_, HT1.out⟩, HB.out, HX.out, hsz, HF.out⟩
      case round =>
        clear HT1 HB HX hsz HF
        obtain ⟨j, rfl, hj, HT, HB, HX, hsz, HF⟩ := hrel
        obtain ⟨p0, p1, p2⟩ := three_cells HX.out
        obtain ⟨l2, hT⟩ := HT.out
        have hI5 := hT.at5 i hil
        rw [← HN.out] at hI5
        unfold I5 at hI5
        simp only [Nat.zero_add] at hI5
        obtain ⟨n0, n1, n2, n3, n4⟩ := hI5
        have hgb : gz ≠ b := fun e => own_ne hT.row HX.out (by decide) (by rw [e]; rfl)
        by_cases hjl : j < r2
        · have b3 : decide ((j : Int) < (r2 : Int)) = true := by simp; omega
          have b4 : (j : Int) < (r2 : Int) := by omega
          have ad2 : IntKind.i64.wrap ((j : Int) + 1) = (j : Int) + 1 := by simp [IntKind.wrap, IntKind.bits, IntKind.signed]; omega
          have m3 : IntKind.i64.wrap (3 * (j : Int)) = 3 * (j : Int) := by simp [IntKind.wrap, IntKind.bits, IntKind.signed]; omega
          have m4 : IntKind.i64.wrap (1000 + 3 * (j : Int)) = 1000 + 3 * (j : Int) := by simp [IntKind.wrap, IntKind.bits, IntKind.signed]; omega
          obtain ⟨g, hg, hO⟩ : ∃ g, r1 = some ⟨g, 0, none⟩ ∧ LO wr base (.slice (some ⟨gz, 0, none⟩) (n + 2) c) ⟨op, xx, yy, aa, r1, r2, r3⟩ (l2[i]'(by have := hT.len; omega)) := by
            have hO := hT.lo i (by have := hT.len; omega)
            rw [← HN.out] at hO
            obtain ⟨g, e, _, _⟩ := hO.blk
            exact ⟨g, e, hO⟩
          subst hg
          have hlen := hO.len
          dsimp only at hlen
          have ht := row_there hO.rr (j := j * 2) (m := 2) (by omega)
          have hgb2 : g ≠ b := fun e => own_ne hO.rr HX.out (by decide) (by rw [e]; rfl)
          have hgbase : A g := HAB.out i g (by rw [← HN.out]; rfl)
          have hgf : ∀ (b' : Nat) (cs : Array Value) (fr : Nat × Nat), w.heap[b']? = some (.cells cs 27 fr) → b' ≠ g := fun b' cs fr h' e => own_ne hO.rr (HF.out b' cs fr h') (by decide) (by rw [e]; rfl)
          have HGF := hid hgf
          clear hgf
          obtain ⟨l3, hT3⟩ := hT.setR i hil HN.out.symm j hjl (1000 + 3 * (j : Int)) (1000 + 3 * (j : Int))
          have HT3 := hid hT3
          clear hT hT3 hO hlen HT
          go_wp2_with ((with_reducible refine store49 rfl (.tmp 37) (.tmp 36) rfl g j (1000 + 3 * (j : Int)) (1000 + 3 * (j : Int)) ?_ ?_ ht ?_); (rfl); (rfl))
          exact ⟨⟨j + 1, by push_cast; rfl, by omega, ⟨_, HT3.out⟩, Chs.two HB.out hgbase _ _, (Below.heap_setCell _ _ _ _ (fun e => hgb2 e.symm)).trans ((Below.heap_setCell _ _ _ _ (fun e => hgb2 e.symm)).trans HX.out), by simpa [World.setCell] using hsz, fun b' cs fr h' => (Below.heap_setCell _ _ _ _ (HGF.out b' cs fr h')).trans ((Below.heap_setCell _ _ _ _ (HGF.out b' cs fr h')).trans (HF.out b' cs fr h'))⟩, by simp [intOf]; omega⟩
        · have b3 : decide ((j : Int) < (r2 : Int)) = false := by simp; omega
          by_cases h7 : op = 2
          · subst h7
            obtain ⟨l5, hT5⟩ := hT.swap i hil HN.out.symm
            have hgf : ∀ (b' : Nat) (cs : Array Value) (fr : Nat × Nat), w.heap[b']? = some (.cells cs 27 fr) → b' ≠ gz := fun b' cs fr h' e => own_ne hT.row (HF.out b' cs fr h') (by decide) (by rw [e]; rfl)
            have HGF := hid hgf
            have z1 := hT.row.frozenAt (i * 5 + 1)
            have z2 := hT.row.frozenAt (i * 5 + 2)
            have m2r : (wr.setCell ⟨gz, i * 5 + 1, none⟩ (.int .i64 yy)).cell? ⟨gz, i * 5 + 2, none⟩ = some (.int .i64 yy) := by
              rw [(row_setC hT.row (i * 5 + 1) (.int .i64 yy)).cellAt (i * 5 + 2) (by omega), List.getElem?_set_ne (by omega), ← hT.row.cellAt (i * 5 + 2) (by omega)]
              exact n2
            have HT5 := hid hT5
            clear hT hT5 HT hgf
            obtain ⟨W1, hW1⟩ : ∃ W1, W1 = wr.setCell ⟨gz, i * 5 + 1, none⟩ (.int .i64 yy) := ⟨_, rfl⟩
            have hX1 : W1.heap[b]? = some (.cells #[.slice (some ⟨gz, 0, none⟩) n c, .int .i64 s, .int .i64 k] 27 (0, 0)) := by rw [hW1]; exact (Below.heap_setCell _ _ _ _ (fun e => hgb e.symm)).trans HX.out
            have m2 : W1.cell? ⟨gz, i * 5 + 2, none⟩ = some (.int .i64 yy) := by rw [hW1]; exact m2r
            have y2 : W1.frozen? ⟨gz, i * 5 + 2, none⟩ = false := by rw [hW1]; simpa using z2
            have HW1 := hid hW1
            have HX1 := hid hX1
            go_upto_region 10 with fail
            go_region
            rw [← HW1.out]
            obtain ⟨V, hV⟩ : ∃ V, V = W1.drew := ⟨_, rfl⟩
            rw [← hV]
            have eV : Hid (Eqw W1 V) := by rw [hV]; exact Eqw.drew W1
            obtain ⟨p0', _, _⟩ := three_cells ((eV.out.blk b).trans HX1.out)
            have m2' := (cell_eq (eV.out.blk gz) _).trans m2
            have y2' := (frz_eq (eV.out.blk gz) _).trans y2
            clear hV hW1 hX1 m2r p0 p1 p2 n0 n1 n2 n3 n4 z1 z2 m2 y2
            go_wp2
            have hP : PL (V.setCell ⟨gz, i * 5 + 2, none⟩ (.int .i64 xx)) base (some ⟨gz, 0, none⟩) n c l5 (MS.set i ⟨2, yy, xx, aa, r1, r2, r3⟩) := by
              refine HT5.out.eqw ?_
              rw [← HW1.out]
              exact ⟨by simp only [World.setCell]; rw [eV.out.heap], eV.out.os, eV.out.tape, eV.out.output⟩
            have hC : Chs A w V := by
              have h1 := HB.out.set (a := ⟨gz, i * 5 + 1, none⟩) hA (.int .i64 yy)
              rw [← HW1.out] at h1
              exact h1.eqw eV.out
            have hold : ∀ b', b' ≠ gz → (V.setCell ⟨gz, i * 5 + 2, none⟩ (.int .i64 xx)).heap[b']? = wr.heap[b']? := fun b' hne => (Below.heap_setCell _ _ _ _ hne).trans ((eV.out.blk b').trans (by rw [HW1.out]; exact Below.heap_setCell _ _ _ _ hne))
            have hsV : wr.heap.size = (V.setCell ⟨gz, i * 5 + 2, none⟩ (.int .i64 xx)).heap.size := by
              have e1 : (V.setCell ⟨gz, i * 5 + 2, none⟩ (.int .i64 xx)).heap.size = V.heap.size := by simp [World.setCell]
              rw [e1, eV.out.heap, HW1.out]; simp [World.setCell]
            exact ⟨⟨i + 1, by push_cast; rfl, by omega, ⟨_, _, hP, HAB.out.swap i HN.out.symm⟩, hC.set (a := ⟨gz, i * 5 + 2, none⟩) hA _, (hold b (fun e => hgb e.symm)).trans HX.out, by rw [← hsV]; exact hsz, fun b' cs fr h' => (hold b' (HGF.out b' cs fr h')).trans (HF.out b' cs fr h')⟩, by simp [intOf]; omega⟩
          · have b7 : (op == 2) = false := by simpa using h7
            have HTT := hid hT
            clear hT HT
            go_wp2
            exact ⟨⟨i + 1, by push_cast; rfl, by omega, ⟨_, _, HTT.out, HAB.out⟩, HB.out, HX.out, hsz, HF.out⟩, by simp [intOf]; omega⟩
    · have b1 : decide ((i : Int) < (n : Int)) = false := by simp; omega
      go_wp2
      all_goals go_end0
      all_goals exact ⟨rfl, HT.out, HB.out, HF.out⟩
end Go.Proofs.Ytiggbgmnibndoaa
/- HELPERS: two programs that hold the same are told to be the same. -/
namespace Go.Proofs.Ytiggbgmnibndoaa
open Go.RowKit
set_option linter.unusedVariables false
set_option linter.unusedSimpArgs false
attribute [local go_sem ↓] Go.wp_at_zero Go.wp_at_succ
theorem fields49 : Try.prog.underlying 62 = some (.struct (Try.prog.fieldsOf 62)) := by kernel_rfl
theorem held49 : Try.prog.stoodInHeld 62 = false := by kernel_rfl
theorem guard49 : Try.prog.eqGuardType Try.prog.depth 62 = false := by kernel_rfl
set_option maxRecDepth 100000 in
theorem rng_neq (lo hi : Int) (W : World) : (binOp .neq 62 (.agg #[.int .i64 lo, .int .i64 hi]) (.agg #[.int .i64 lo, .int .i64 hi])).run Try.prog W = .ok (.bool false) W := by
  have he : ∀ (a b : Int), (Op.equalIn 9999 3 (.int .i64 a) (.int .i64 b)).run Try.prog W = .ok (a == b) W := fun a b => run_equalIn_int W 9998 3 .i64 .i64 a b Try.underlying3
  rw [run_neq_struct, show Op.equalIn 10000 62 = Op.equalIn (9999 + 1) 62 from rfl, run_equalIn_agg W 9999 62 _ _ fields49 held49]
  have hp : ∀ (xs : Array Value) (o : Nat) (v : Value), xs[o]? = some v → (part 3 xs o).run Try.prog W = .ok v W := by
    intro xs o v h
    simp [part, Try.isAgg3, h, Result.andThen]
  simp [Program.fieldsOf, Try.underlying62, Op.eqFields, hp, he, Result.andThen]
theorem rng_guard (x y : Operand) (lo hi lo' hi' : Int) (W : World) : (eqGuard .neq 62 x y (.agg #[.int .i64 lo, .int .i64 hi]) (.agg #[.int .i64 lo', .int .i64 hi'])).run Try.prog W = .ok () W := run_eqGuard_agg W .neq 62 x y _ _ guard49
set_option maxRecDepth 100000 in
set_option maxHeartbeats 8000000 in
theorem same11 {w : World} {ad ad' : Option Addr} {n c c' : Nat} {l : List In} {s k : Int} (h : PI w w.heap.size ad n l) (h' : PI w w.heap.size ad' n l) (hn : n ≤ 9223372036854775807) :
    Calls Try.prog 14 #[pv ad n c s k, pv ad' n c' s k] w fun e w' => e = .returned (.bool true) ∧ Below w.heap.size w w' := by
  obtain ⟨U, hU⟩ : ∃ U, U = (w.alloc (.cells #[.slice ad n c, .int .i64 s, .int .i64 k] 27)).alloc (.cells #[.slice ad' n c', .int .i64 s, .int .i64 k] 27) := ⟨_, rfl⟩
  have hb : Below w.heap.size w U := by rw [hU]; exact below_two' w _ _
  have hX1 : U.heap[w.heap.size]? = some (.cells #[.slice ad n c, .int .i64 s, .int .i64 k] 27 (0, 0)) := by rw [hU]; exact (heap_alloc_old _ _ (by simp)).trans (heap_alloc_new w _)
  have hX2 : U.heap[w.heap.size + 1]? = some (.cells #[.slice ad' n c', .int .i64 s, .int .i64 k] 27 (0, 0)) := by rw [hU]; exact two_new w _ _ _
  have HP := hid (h.kept hb hb.size)
  have HP' := hid (h'.kept hb hb.size)
  have HB := hid hb
  have HL := hid h.len
  have l1 : w.heap.size < U.heap.size := (Array.getElem?_eq_some_iff.1 hX1).1
  have l2 : w.heap.size + 1 < U.heap.size := (Array.getElem?_eq_some_iff.1 hX2).1
  clear h h' hb
  go_enter Try.func14, Try.ntmps14
  go_upto_region 1 with fail
  rw [← hU]
  obtain ⟨x2, hx2⟩ : ∃ x2, x2 = w.heap.size + 1 := ⟨_, rfl⟩
  rw [← hx2] at hX2 l2 ⊢
  obtain ⟨x1, hx1⟩ : ∃ x1, x1 = w.heap.size := ⟨_, rfl⟩
  rw [← hx1] at hX1 l1 HB ⊢
  have HX1 := hid hX1
  have HX2 := hid hX2
  have HXE := hid hx1
  clear hx1 hx2 hU hX1 hX2
  obtain ⟨p0, p1, p2⟩ := three_cells HX1.out
  obtain ⟨q0, q1, q2⟩ := three_cells HX2.out
  go_wp2_with fail
  clear p0 p1 p2 q0 q1 q2
  go_loopw [5] (fun y wq => ∃ i : Nat, y = .int .i64 (i : Int) ∧ i ≤ n ∧ Hid (Below U.heap.size U wq)) (fun y _ => n - (intOf y).toNat)
  case atStart => exact ⟨0, rfl, by omega, Below.refl _ _⟩
  case round =>
    obtain ⟨i, rfl, hi, BK⟩ := hrel
    obtain ⟨p0, p1, p2⟩ := three_cells ((BK.out.block x1 l1).trans HX1.out)
    obtain ⟨q0, q1, q2⟩ := three_cells ((BK.out.block x2 l2).trans HX2.out)
    have hUw : U.heap.size ≤ wr.heap.size := BK.out.size
    have l1w : x1 < wr.heap.size := by omega
    have l2w : x2 < wr.heap.size := by omega
    by_cases hil : i < n
    · have b1 : decide ((i : Int) < (n : Int)) = true := by simp; omega
      have b2 : (i : Int) < (n : Int) := by omega
      have ad1 : IntKind.i64.wrap ((i : Int) + 1) = (i : Int) + 1 := by simp [IntKind.wrap, IntKind.bits, IntKind.signed]; omega
      have hlt : i < l.length := by have := HL.out; omega
      obtain ⟨g, o, ND, e, hg, hcs⟩ := HP.out.mem (by omega)
      obtain ⟨g', o', ND', e', hg', hcs'⟩ := HP'.out.mem (by omega)
      subst e e'
      have lg : g < wr.heap.size := by omega
      have lg' : g' < wr.heap.size := by omega
      obtain ⟨m0, m1, m2, m3, m4⟩ := (hcs i hlt).1.kept (BK.out.block g hg)
      obtain ⟨t0, t1, t2, t3, t4⟩ := (hcs' i hlt).1.kept (BK.out.block g' hg')
      have hI := (hcs i hlt).2.kept BK.out BK.out.size
      have hI' := (hcs' i hlt).2.kept BK.out BK.out.size
      obtain ⟨M, hM⟩ : ∃ M, M = ND i := ⟨_, rfl⟩
      obtain ⟨M', hM'⟩ : ∃ M, M = ND' i := ⟨_, rfl⟩
      rw [← hM] at m0 m1 m2 m3 m4 hI
      rw [← hM'] at t0 t1 t2 t3 t4 hI'
      clear hM hM' hcs hcs'
      obtain ⟨op, x, y, a, r1, r2, r3⟩ := M
      obtain ⟨op', x', y', a', r1', r2', r3'⟩ := M'
      obtain rfl : op' = op := hI'.op.trans hI.op.symm
      obtain rfl : x' = x := hI'.x.trans hI.x.symm
      obtain rfl : y' = y := hI'.y.trans hI.y.symm
      obtain rfl : a' = a := hI'.a.trans hI.a.symm
      obtain rfl : r2' = r2 := hI'.len.trans hI.len.symm
      have hr2 : r2' ≤ 8796093022208 := by have := hI.sm; dsimp only at this; omega
      have HI := hid hI
      have HI' := hid hI'
      clear hI hI'
      dsimp only at m0 m1 m2 m3 m4 t0 t1 t2 t3 t4
      go_wp2_with fail
      obtain ⟨V, hV⟩ : ∃ V, V = (wr.alloc (.cells #[.int .i64 op', .int .i64 x', .int .i64 y', .int .i64 a', .slice r1 r2' r3] 60)).alloc (.cells #[.int .i64 op', .int .i64 x', .int .i64 y', .int .i64 a', .slice r1' r2' r3'] 60) := ⟨_, rfl⟩
      rw [← hV]
      have HBV : Hid (Below wr.heap.size wr V) := by rw [hV]; exact below_two' wr _ _
      have hZ1 : Hid (V.heap[wr.heap.size]? = some (.cells #[.int .i64 op', .int .i64 x', .int .i64 y', .int .i64 a', .slice r1 r2' r3] 60 (0, 0))) := by rw [hV]; exact (heap_alloc_old _ _ (by simp)).trans (heap_alloc_new wr _)
      have hZ2 : Hid (V.heap[wr.heap.size + 1]? = some (.cells #[.int .i64 op', .int .i64 x', .int .i64 y', .int .i64 a', .slice r1' r2' r3'] 60 (0, 0))) := by rw [hV]; exact two_new wr _ _ _
      have k1 : wr.heap.size < V.heap.size := (Array.getElem?_eq_some_iff.1 hZ1.out).1
      have k2 : wr.heap.size + 1 < V.heap.size := (Array.getElem?_eq_some_iff.1 hZ2.out).1
      obtain ⟨z2, hz2⟩ : ∃ z2, z2 = wr.heap.size + 1 := ⟨_, rfl⟩
      rw [← hz2] at hZ2 k2 ⊢
      have HBW := hid (BK.out.trans (Joins.below_le HBV.out BK.out.size))
      have HIV := hid (HI.out.kept HBV.out HBV.out.size)
      have HIV' := hid (HI'.out.kept HBV.out HBV.out.size)
      obtain ⟨z1, hz1⟩ : ∃ z1, z1 = wr.heap.size := ⟨_, rfl⟩
      rw [← hz1] at hZ1 k1 ⊢
      clear hV hz1 hz2 HBV HI HI' m0 m1 m2 m3 m4 t0 t1 t2 t3 t4 p0 p1 p2 q0 q1 q2 b1
      go_loopw [8] (fun y wq => ∃ j : Nat, y = .int .i64 (j : Int) ∧ j ≤ r2' ∧ Hid (Below V.heap.size V wq)) (fun y _ => r2' - (intOf y).toNat)
      case atStart => exact ⟨0, rfl, by omega, Below.refl _ _⟩
      case round =>
        obtain ⟨j, rfl, hj, BJ⟩ := hrel
        obtain ⟨d0, d1, d2, d3, d4⟩ := five ((BJ.out.block z1 k1).trans hZ1.out)
        obtain ⟨f0, f1, f2, f3, f4⟩ := five ((BJ.out.block z2 k2).trans hZ2.out)
        by_cases hjl : j < r2'
        · have b3 : decide ((j : Int) < (r2' : Int)) = true := by simp; omega
          have b4 : (j : Int) < (r2' : Int) := by omega
          have ad2 : IntKind.i64.wrap ((j : Int) + 1) = (j : Int) + 1 := by simp [IntKind.wrap, IntKind.bits, IntKind.signed]; omega
          have hlen : r2' = (l[i]).R.length := HIV.out.len
          obtain ⟨a1, cap1, e1, h1⟩ := HIV.out.row.below BJ.out (Nat.le_refl _) (Nat.le_refl _)
          obtain ⟨a2, cap2, e2, h2⟩ := HIV'.out.row.below BJ.out (Nat.le_refl _) (Nat.le_refl _)
          simp only [Value.slice.injEq] at e1 e2
          obtain ⟨rfl, _, rfl⟩ := e1
          obtain ⟨rfl, _, rfl⟩ := e2
          rcases h1 with h1 | ⟨rb, ro, rfl, _, u0, u1⟩
          · omega
          rcases h2 with h2 | ⟨rb', ro', rfl, _, v0, v1⟩
          · omega
          have u0 := u0 j (by omega)
          have u1 := u1 j (by omega)
          have v0 := v0 j (by omega)
          have v1 := v1 j (by omega)
          obtain ⟨⟨lo, hi'⟩, hv⟩ : ∃ v, (l[i]).R.getD j (0, 0) = v := ⟨_, rfl⟩
          rw [hv] at u0 u1 v0 v1
          dsimp only at u0 u1 v0 v1
          have hneq := fun W' => rng_neq lo hi' W'
          have hgd := fun x y W' => rng_guard x y lo hi' lo hi' W'
          clear hv hlen
          go_wp2_with fail
          go_quiet (fail)
          go_wp2
          exact ⟨⟨j + 1, by push_cast; rfl, by omega, BJ.out.trans ⟨rfl, rfl, rfl, Nat.le_refl _, fun _ _ => rfl⟩⟩, by simp [intOf]; omega⟩
        · have b3 : decide ((j : Int) < (r2' : Int)) = false := by simp; omega
          go_wp2
          exact ⟨⟨i + 1, by push_cast; rfl, by omega, HBW.out.trans (Joins.below_le BJ.out HBW.out.size)⟩, by simp [intOf]; omega⟩
    · have b1 : decide ((i : Int) < (n : Int)) = false := by simp; omega
      go_wp2
      all_goals go_ret
      all_goals refine ⟨rfl, ?_⟩
      rw [← HXE.out]
      exact HB.out.trans (Joins.below_le BK.out (by omega))
end Go.Proofs.Ytiggbgmnibndoaa
/- HELPERS: what a law's walk carries from world to world; answers as cells. -/
namespace Go.Proofs.Ytiggbgmnibndoaa
open Go.RowKit Go.Lk
set_option linter.unusedVariables false
set_option linter.unusedSimpArgs false
/-- a box -/
def BX (W : World) (b : Nat) (cs : Array Value) (t : TypeId) : Prop := W.heap[b]? = some (.cells cs t (0, 0))
theorem BX.lt {W : World} {b : Nat} {cs : Array Value} {t : TypeId} (h : BX W b cs t) : b < W.heap.size := (Array.getElem?_eq_some_iff.1 h).1
theorem BX.kept {W W' : World} {b : Nat} {cs : Array Value} {t : TypeId} (h : BX W b cs t) (hb : Below W.heap.size W W') : BX W' b cs t := (hb.block b h.lt).trans h
theorem BX.new (W : World) (cs : Array Value) (t : TypeId) : BX (W.alloc (.cells cs t)) W.heap.size cs t := heap_alloc_new W _
theorem own_b {W W' : World} {N e size n : Nat} {v : Value} {xs : List Value} (h : W.ownsRow N e size v n xs) (hb : Below W.heap.size W W') : W'.ownsRow N e size v n xs := row_kept h (fun b hb' => hb.block b (h.lt b hb').2)
theorem pi_b {W W' : World} {ad : Option Addr} {n : Nat} {l : List In} (h : PI W W.heap.size ad n l) (hb : Below W.heap.size W W') : PI W' W'.heap.size ad n l := h.kept hb hb.size
theorem tx_b {W W' : World} {ad : Option Addr} {n : Nat} {l : List Int} (h : TextAt W.heap.size W ad n l) (hb : Below W.heap.size W W') : TextAt W'.heap.size W' ad n l := (h.below hb).mono hb.size
/-- an answer -/
structure An where
  ok : Bool
  wh : Int
  st : Int
  cl : List Int
  co : Int
def whF : Fd → Int
  | none => 0
  | some y => y.1
def capsF : Fd → List Int
  | none => []
  | some y => y.2
def anR (r : Fd × Nat) : An := ⟨r.1.isSome, whF r.1, r.2, capsF r.1, 0⟩
def anE (c : Int) : An := ⟨false, 0, 0, [], c⟩
/-- what a run answers, by the program, the text and the place -/
def ans (l : List In) (tx : List Int) (s k a : Int) (anch : Bool) : An := if errR l s k tx.length a = 0 then anR (lockRun (prOf l tx s.toNat k.toNat) tx.length a.toNat anch) else anE (errR l s k tx.length a)
def FW (A : An) (w : World) (e : Ending) (w' : World) : Prop :=
  ∃ a1 n1 c1, e = .returned (.tuple #[.agg #[.bool A.ok, .slice a1 n1 c1, .int .i64 A.wh, .int .i64 A.st], .int .i64 A.co]) ∧ n1 = A.cl.length ∧ w'.ownsRow w.heap.size 3 1 (.slice a1 n1 c1) n1 (I64 A.cl) ∧ Below w.heap.size w w'
theorem own_len {w : World} {N n : Nat} {v : Value} {l : List Int} (h : w.ownsRow N 3 1 v n (I64 l)) : n = l.length := by have := h.1; simp [I64] at this; omega
theorem FE.fw {c : Int} {w w' : World} {e : Ending} (h : FE c w e w') : FW (anE c) w e w' := ⟨none, 0, 0, h.2, rfl, World.ownsRow_nil _ _ _ _, h.1⟩
theorem FR.fw {K : Nat} {r : Fd × Nat} {w w' : World} {e : Ending} (h : FR K r w e w') : FW (anR r) w e w' := by
  obtain ⟨h1, h2⟩ := h
  obtain ⟨fd, n⟩ := r
  cases fd with
  | none => exact ⟨none, 0, 0, h2, rfl, World.ownsRow_nil _ _ _ _, h1⟩
  | some y =>
    obtain ⟨g, h2, h3⟩ := h2
    exact ⟨_, _, _, h2, own_len h3, h3, h1⟩
theorem FQ.fw {K : Nat} {r : Fd × Nat} {w w' : World} {e : Ending} (h : FQ K r w e w') : FW (anR r) w e w' := by
  obtain ⟨h1, h2⟩ := h
  obtain ⟨fd, n⟩ := r
  cases fd with
  | none => exact ⟨none, 0, 0, h2, rfl, World.ownsRow_nil _ _ _ _, h1⟩
  | some y =>
    obtain ⟨g, q, h2, h3⟩ := h2
    exact ⟨_, _, _, h2, own_len h3, h3, h1⟩
theorem RunA.fw {l : List In} {tx : List Int} {s k a : Int} {anch : Bool} {w w' : World} {e : Ending} (h : RunA l tx s k a anch w e w') : FW (ans l tx s k a anch) w e w' := by
  unfold ans
  rcases h with ⟨h0, h⟩ | ⟨h0, h⟩
  · rw [if_pos h0]; exact h.fw
  · rw [if_neg h0]; exact h.fw
theorem RunB.fw {l : List In} {tx : List Int} {s k a : Int} {anch : Bool} {w w' : World} {e : Ending} (h : RunB l tx s k a anch w e w') : FW (ans l tx s k a anch) w e w' := by
  unfold ans
  rcases h with ⟨h0, h⟩ | ⟨h0, h⟩
  · rw [if_pos h0]; exact h.fw
  · rw [if_neg h0]; exact h.fw
theorem ans_len {l : List In} {tx : List Int} {s k a : Int} {anch : Bool} : (ans l tx s k a anch).cl.length ≤ 1002 := by
  unfold ans
  split
  · rename_i h
    unfold errR at h
    split at h
    · cases h
    · split at h
      · cases h
      · split at h
        · cases h
        · rename_i h1 h2 h3
          have hm : mayB l s k = true := by simpa using h2
          have hmo := may_ok hm
          obtain ⟨S, rfl⟩ := Int.eq_ofNat_of_zero_le hmo.2.1
          obtain ⟨K, rfl⟩ := Int.eq_ofNat_of_zero_le (show 0 ≤ k by omega)
          have h5 := (lockRun_steps (pr_ok (tx := tx) hm) tx.length a.toNat anch).2.2
          show (capsF (lockRun (prOf l tx S K) tx.length a.toNat anch).1).length ≤ 1002
          cases hr : (lockRun (prOf l tx S K) tx.length a.toNat anch).1 with
          | none => simp [capsF]
          | some y =>
            have h6 := h5 y hr
            have : (prOf l tx S K).K = K := rfl
            show y.2.length ≤ 1002
            omega
  · simp [anE]
theorem text_ints {w : World} {N n c : Nat} {ad : Option Addr} {l : List Int} (h : TextAt N w ad n l) : IntsC w (.slice ad n c) l := by
  obtain ⟨h1, _, h | ⟨b, o, e, _, hc⟩⟩ := h
  · exact ⟨ad, c, by rw [h1], .inl (by omega)⟩
  · exact ⟨ad, c, by rw [h1], .inr ⟨b, o, e, fun k hk => hc k (by omega)⟩⟩
/-- the lent text can be read -/
theorem row_text {w : World} {N n c tb : Nat} {l : List Int} {y : List Int} (hn : n = l.length) (h : w.ownsRow N 3 1 (.slice (some ⟨tb, 0, none⟩) (n + 2) c) (n + 2) (I64 (l ++ y))) (hl : n ≤ 17592186043904) : TextAt w.heap.size w (some ⟨tb, 0, none⟩) n l := by
  refine ⟨hn, by omega, .inr ⟨tb, 0, rfl, (h.lt tb rfl).2, fun k hk => ?_⟩⟩
  rw [Nat.zero_add, h.cellAt k (by omega)]
  simp only [I64, List.map_append]
  rw [List.getElem?_append_left (by simp; omega)]
  simp [List.getD_eq_getElem?_getD, show k < l.length by omega]
theorem run_copy_one0 (w : World) (dT sT ty elem : TypeId) (d a : Option Addr) (dLen dCap sLen sCap : Nat) (hu : Try.prog.underlying dT = some (.slice elem)) (hs : (Try.prog.info? elem).map (·.size) = some 1) (hn : Nat.min sLen dLen = 0) :
    (Builtin.copy_ #[dT, sT] ty #[.slice d dLen dCap, .slice a sLen sCap]).run Try.prog w = .ok (goInt 0) w := by
  cases hq : Try.prog.info? elem with
  | none => simp [hq] at hs
  | some i =>
    have hl : ∀ (x : Addr), (loadCells x 0).run Try.prog w = .ok #[] w := fun x => by simpa using run_loadCells_list (P := Try.prog) w x [] (by simp)
    cases d <;> cases a <;> simp [Builtin.copy_, run_underlying hu, Builtin.lenOf, Builtin.firstCells, sizeOf, typeInfo, hq, hn, storeCells, hl]
theorem copyT {W : World} {N tb tn tc : Nat} {tad : Option Addr} {tx : List Int} (hT : TextAt W.heap.size W tad tn tx) (ho : W.ownsRow N 3 1 (.slice (some ⟨tb, 0, none⟩) (tn + 2) (tn + 2)) (tn + 2) (I64 (List.replicate (tn + 2) 0))) :
    ∃ W2, (Builtin.copy_ #[29, 29] 3 #[.slice (some ⟨tb, 0, none⟩) (tn + 2) (tn + 2), .slice tad tn tc]).run Try.prog W = .ok (.int .i64 (tn : Int)) W2 ∧ W2.ownsRow N 3 1 (.slice (some ⟨tb, 0, none⟩) (tn + 2) (tn + 2)) (tn + 2) (I64 (tx ++ [0, 0])) ∧ Chg W W2 [tb] [tb] := by
  obtain ⟨h1, h2, h0 | ⟨b, o, rfl, hb, hc⟩⟩ := hT
  · have htx : tx = [] := List.length_eq_zero_iff.1 (by omega)
    subst htx
    subst h0
    refine ⟨W, ?_, by simpa using ho, Chg.refl _ _⟩
    have := run_copy_one0 W 29 29 3 3 (some ⟨tb, 0, none⟩) tad (0 + 2) (0 + 2) 0 tc Try.underlying29 size3 (by simp)
    simpa [goInt] using this
  · have hl : (I64 tx).length = tn := by simp [I64]; omega
    have h := run_copy_cells (P := Try.prog) W 29 29 3 3 tb 0 (tn + 2) (tn + 2) ⟨b, o, none⟩ tn tc (I64 tx) Try.underlying29 size3 (by rw [hl]; simp) (fun j v hj => by
      have hjl := (List.getElem?_eq_some_iff.1 hj).1
      rw [Addr.add_mid, hc j (by omega), ← hj]
      simp [I64, List.getD_eq_getElem?_getD, show j < tx.length by omega]) (fun j hj => by
      rw [Nat.zero_add, ho.cellAt j (by omega), List.getElem?_eq_getElem (by simp [I64]; omega)]; rfl) (fun j hj => by rw [Nat.zero_add]; exact ho.frozenAt j) (one_cell_ints tx)
    rw [hl] at h
    refine ⟨W.setCells tb 0 (I64 tx), by simpa [goInt] using h, ?_, ?_⟩
    · have h3 := row_setCells (I64 tx) 0 W _ ho (by rw [hl]; simp [I64])
      rw [Nat.zero_add, List.take_zero, List.nil_append, hl] at h3
      have e : I64 tx ++ (I64 (List.replicate (tn + 2) 0)).drop tn = I64 (tx ++ [0, 0]) := by
        simp only [I64, List.map_append, List.map_replicate]
        rw [List.drop_replicate, show tn + 2 - tn = 2 by omega]
        rfl
      rw [e] at h3
      exact h3
    · exact setCells_chg (w' := W) tb (by simp) (I64 tx) 0 W (Chg.refl _ _)
/-- the blocks of lent programs -/
def AT (W : World) (NB : Nat) (b : Nat) : Prop := NB ≤ b ∧ ∃ arr t, W.heap[b]? = some (.cells arr t (0, 0)) ∧ (t = 60 ∨ t = 62)
theorem own_at {w : World} {base e size n : Nat} {v : Value} {xs : List Value} (h : w.ownsRow base e size v n xs) {k : Nat} (hk : v.ownBlock = some k) : base ≤ k ∧ ∃ arr, w.heap[k]? = some (.cells arr e (0, 0)) := by
  refine ⟨(h.lt k hk).1, ?_⟩
  rcases h.2 with ⟨e', _⟩ | ⟨g, cap, cur, e', _, hg, _⟩
  · subst e'; simp [Value.ownBlock] at hk
  · subst e'
    simp [Value.ownBlock] at hk
    subst hk
    exact ⟨_, hg⟩
theorem PL.at_ {W : World} {NB gz n c : Nat} {l : List In} {MS : List Iv} (h : PL W NB (some ⟨gz, 0, none⟩) n c l MS) : AT W NB gz ∧ AB (AT W NB) MS := by
  refine ⟨?_, fun j b hb => ?_⟩
  · obtain ⟨h1, arr, h2⟩ := own_at h.row (k := gz) rfl
    exact ⟨h1, arr, _, h2, .inl rfl⟩
  · by_cases hj : j < l.length
    · have hr := (h.lo j hj).rr
      obtain ⟨h1, arr, h2⟩ := own_at hr (k := b) (by have := hb; simp only [Iv.rv] at this; cases hr1 : (MS.getD j default).r1 with | none => rw [hr1] at this; simp [Value.ownBlock] at this | some a => rw [hr1] at this; simpa [Value.ownBlock] using this)
      exact ⟨h1, arr, _, h2, .inr rfl⟩
    · have hd : MS.getD j default = default := by rw [List.getD_eq_getElem?_getD, List.getElem?_eq_none (by have := h.len; have := h.lms; omega)]; rfl
      rw [hd] at hb
      simp [Iv.rv, default, Value.ownBlock] at hb
theorem BX.chs {W W' : World} {NB b : Nat} {cs : Array Value} {t : TypeId} (h : BX W b cs t) (hc : Chs (AT W NB) W W') (h1 : t ≠ 60) (h2 : t ≠ 62) : BX W' b cs t := by
  refine (hc.block b h.lt ?_).trans h
  rintro ⟨_, arr, t', h3, h4⟩
  have : W.heap[b]? = some (.cells cs t (0, 0)) := h
  rw [this] at h3
  simp only [Option.some.injEq, Obj.cells.injEq] at h3
  obtain ⟨_, rfl, _⟩ := h3
  rcases h4 with h4 | h4
  · exact h1 h4
  · exact h2 h4
theorem own_chs {W W' : World} {NB N n : Nat} {v : Value} {xs : List Value} (h : W.ownsRow N 3 1 v n xs) (hc : Chs (AT W NB) W W') : W'.ownsRow N 3 1 v n xs := row_kept h (fun b hb => by
  obtain ⟨_, arr, ha⟩ := own_at h hb
  exact (BX.chs (cs := arr) ha hc (by decide) (by decide)).trans ha.symm)
theorem chs_below {W W' : World} {NB B : Nat} (hc : Chs (AT W NB) W W') (h : B ≤ NB) (hB : B ≤ W.heap.size) : Below B W W' := ⟨hc.os, hc.tape, hc.output, hc.size, fun k hk => hc.block k (by omega) (fun hA => by have := hA.1; omega)⟩
theorem BX.chg {W W' : World} {N tb n : Nat} {v : Value} {xs : List Value} {b : Nat} {cs : Array Value} {t : TypeId} (h : BX W b cs t) (hc : Chg W W' [tb] [tb]) (ho : W.ownsRow N 3 1 v n xs) (hv : v.ownBlock = some tb) (ht : t ≠ 3) : BX W' b cs t := by
  refine (hc.block b h.lt ?_).trans h
  simp only [List.mem_singleton]
  intro e
  exact own_ne ho h ht (by rw [e]; exact hv)
theorem own_chg {W W' : World} {tb N n : Nat} {v : Value} {xs : List Value} (h : W.ownsRow N 3 1 v n xs) (hc : Chg W W' [tb] [tb]) (hN : tb < N) : W'.ownsRow N 3 1 v n xs := row_kept h (fun b hb => hc.block b (h.lt b hb).2 (by simp only [List.mem_singleton]; have := (h.lt b hb).1; omega))
theorem PL.chg {W W' : World} {tb NB n c : Nat} {ad : Option Addr} {l : List In} {MS : List Iv} (h : PL W NB ad n c l MS) (hc : Chg W W' [tb] [tb]) (hN : tb < NB) : PL W' NB ad n c l MS :=
  ⟨h.len, h.lms, row_kept h.row (fun b hb => hc.block b (h.row.lt b hb).2 (by simp only [List.mem_singleton]; have := (h.row.lt b hb).1; omega)), fun j hj => by
    have hO := h.lo j hj
    exact ⟨hO.op, hO.x, hO.y, hO.a, hO.len, hO.sm, row_kept hO.rr (fun b hb => hc.block b (hO.rr.lt b hb).2 (by simp only [List.mem_singleton]; have := (hO.rr.lt b hb).1; omega)), hO.ne⟩, h.pw⟩
/-- four rows that came out -/
def rows4 (a b c d : Value) : Nat → Value
  | 0 => a
  | 1 => b
  | 2 => c
  | _ => d
def lens4 (a b c d : Nat) : Nat → Nat
  | 0 => a
  | 1 => b
  | 2 => c
  | _ => d
theorem four_lt {p : Nat → Prop} (h0 : p 0) (h1 : p 1) (h2 : p 2) (h3 : p 3) : ∀ j, j < 4 → p j := fun j hj => by
  match j, hj with
  | 0, _ => exact h0
  | 1, _ => exact h1
  | 2, _ => exact h2
  | 3, _ => exact h3
theorem owned_four {W : World} {B N1 T1 N2 T2 N3 T3 N4 g : Nat} {va vb vc vd : Value} {na nb nc nd : Nat} {la lb lc ld : List Int} (hg : BX W g #[va, vb, vc, vd] 29) (hs : B ≤ W.heap.size) (hB : B ≤ N1) (h12 : T1 ≤ N2) (h23 : T2 ≤ N3) (h34 : T3 ≤ N4)
    (la' : ∀ b, va.ownBlock = some b → N1 ≤ b ∧ b < T1) (lb' : ∀ b, vb.ownBlock = some b → N2 ≤ b ∧ b < T2) (lc' : ∀ b, vc.ownBlock = some b → N3 ≤ b ∧ b < T3) (hN1 : N1 ≤ T1) (hN2 : N2 ≤ T2) (hN3 : N3 ≤ T3)
    (ra : W.ownsRow N1 3 1 va na (I64 la)) (rb : W.ownsRow N2 3 1 vb nb (I64 lb)) (rc : W.ownsRow N3 3 1 vc nc (I64 lc)) (rd : W.ownsRow N4 3 1 vd nd (I64 ld)) (hl : na ≤ 1002 ∧ nb ≤ 1002 ∧ nc ≤ 1002 ∧ nd ≤ 1002) :
    Calls Try.prog 17 #[.slice (some ⟨g, 0, none⟩) 4 4] W fun e w' => e = .returned (.bool true) ∧ Below B W w' := by
  have ld' : ∀ b, vd.ownBlock = some b → N4 ≤ b ∧ b < W.heap.size := fun b hb => rd.lt b hb
  have lgt : ∀ v : Value, ∀ N n (l : List Int), W.ownsRow N 3 1 v n (I64 l) → v.ownBlock ≠ some g := fun v N n l h => own_ne h hg (by decide)
  have lo4 : ∀ j, j < 4 → ∀ b, (rows4 va vb vc vd j).ownBlock = some b → B ≤ b ∧ b < W.heap.size := four_lt (fun b hb => ⟨by have := (la' b hb).1; omega, (ra.lt b hb).2⟩) (fun b hb => ⟨by have := (lb' b hb).1; omega, (rb.lt b hb).2⟩) (fun b hb => ⟨by have := (lc' b hb).1; omega, (rc.lt b hb).2⟩) (fun b hb => ⟨by have := (ld' b hb).1; omega, (ld' b hb).2⟩)
  refine owned17 B g 4 4 (rows4 va vb vc vd) (lens4 na nb nc nd) W (by omega) ⟨hg.lt, hs, ?_, ?_, lo4, fun j => rfl⟩ ?_ ?_ ?_
  · intro i j hi hj hij b hb hb'
    have key : ∀ i, i < 4 → ∀ b, (rows4 va vb vc vd i).ownBlock = some b → lens4 N1 N2 N3 N4 i ≤ b ∧ (i < 3 → b < lens4 N2 N3 N4 0 i) := four_lt (fun b hb => ⟨(la' b hb).1, fun _ => by have := (la' b hb).2; show b < N2; omega⟩) (fun b hb => ⟨(lb' b hb).1, fun _ => by have := (lb' b hb).2; show b < N3; omega⟩) (fun b hb => ⟨(lc' b hb).1, fun _ => by have := (lc' b hb).2; show b < N4; omega⟩) (fun b hb => ⟨(ld' b hb).1, fun h => by omega⟩)
    have mono : ∀ i, i < 4 → ∀ j, j < 4 → i < j → lens4 N2 N3 N4 0 i ≤ lens4 N1 N2 N3 N4 j := by
      intro i hi j hj hlt
      rcases (show i = 0 ∨ i = 1 ∨ i = 2 by omega) with rfl | rfl | rfl
      · rcases (show j = 1 ∨ j = 2 ∨ j = 3 by omega) with rfl | rfl | rfl <;> (simp only [lens4]; omega)
      · rcases (show j = 2 ∨ j = 3 by omega) with rfl | rfl <;> (simp only [lens4]; omega)
      · rcases (show j = 3 by omega) with rfl; simp only [lens4]; omega
    have h1 := key i hi b hb
    have h2 := key j hj b hb'
    rcases Nat.lt_or_gt_of_ne hij with h | h
    · have := mono i hi j hj h
      have := h1.2 (by omega)
      omega
    · have := mono j hj i hi h
      have := h2.2 (by omega)
      omega
  · exact four_lt (lgt _ _ _ _ ra) (lgt _ _ _ _ rb) (lgt _ _ _ _ rc) (lgt _ _ _ _ rd)
  · exact four_lt ⟨_, ra.mono hB⟩ ⟨_, rb.mono (by omega)⟩ ⟨_, rc.mono (by omega)⟩ ⟨_, rd.mono (by omega)⟩
  · exact four_lt (Joins.cell_of_block hg 0) (Joins.cell_of_block hg 1) (Joins.cell_of_block hg 2) (Joins.cell_of_block hg 3)
  · exact four_lt (by show na ≤ _; omega) (by show nb ≤ _; omega) (by show nc ≤ _; omega) (by show nd ≤ _; omega)
end Go.Proofs.Ytiggbgmnibndoaa
