/- HELPERS: a thing that is done at most once. -/
import Derived.Test.YtnpocciioedgpaaWy
namespace Go.Proofs.Ytnpocciioedgpaa
open Go.RowKit
set_option linter.unusedVariables false
set_option linter.unusedSimpArgs false
theorem bx0 {w : World} {b : Nat} {t : TypeId} {v : Value} (h : Bx w b t v) : w.cell? ⟨b, 0, none⟩ = some v := Joins.cell_of_block h 0
theorem bx1 {w : World} {b : Nat} {t : TypeId} {v : Value} (o : Obj) (h : Bx w b t v) : (w.alloc o).cell? ⟨b, 0, none⟩ = some v := Joins.cell_of_block ((heap_alloc_old w o (bx_lt h)).trans h) 0
theorem bx2 {w : World} {b : Nat} {t : TypeId} {v : Value} (o o' : Obj) (h : Bx w b t v) : ((w.alloc o).alloc o').cell? ⟨b, 0, none⟩ = some v := bx1 o' ((heap_alloc_old w o (bx_lt h)).trans h)
theorem wf_two {n : Int} {p : Nat} (hn : 0 ≤ n ∧ n < 4611686018427387904) (hp : p < 4611686018427387904) : wf2 (n, (p : Int)) := by
  constructor <;> simp [Lit.wf, IntKind.bits, IntKind.min, IntKind.max, IntKind.signed] <;> omega
theorem MP.same {w w' : World} {b : Nat} {D : List (Int × Int)} (h : MP w b D) (hk : w'.heap[b]? = w.heap[b]?) : MP w' b D := by
  obtain ⟨es, c, h1, h2⟩ := h
  exact ⟨es, c, hk.trans h1, h2⟩
theorem MP.lt {w : World} {b : Nat} {D : List (Int × Int)} (h : MP w b D) : b < w.heap.size := by
  obtain ⟨es, c, h1, h2⟩ := h
  exact (Array.getElem?_eq_some_iff.1 h1).1
set_option maxHeartbeats 2000000 in
theorem skip70 (N g : Nat) (C : Cx) (s : Sg) (B : List Nat) (w : World) (hW : Hid (WS N w g C s B)) (b5 b2 b3 : Nat) (v : Value) (n : Int) (p : Nat) (h5 : Bx w b5 3 (.int .i64 n)) (h2 : Bx w b2 60 (pt g)) (h3 : Bx w b3 84 v)
    (hn : 0 ≤ n ∧ n < 4611686018427387904) (hp : p < 4611686018427387904) (hd : (n, (p : Int)) ∈ s.done) :
    Calls Try.prog 70 #[.int .i64 (p : Int), pt b5, pt b2, pt b3] w fun e w' => e = .returned (.tuple #[]) ∧ Below w.heap.size w w' := by
  obtain ⟨pv, cs, F, hg, _⟩ := hW.out.ex
  have hmp := hW.out.map
  have hwf : wf2 (n, (p : Int)) := wf_two hn hp
  obtain ⟨W, hW1⟩ : ∃ W, W = w.alloc (.cells #[.int .i64 n, .int .i64 (p : Int)] 108) := ⟨_, rfl⟩
  have hm4 : W.cell? ⟨g, 4, none⟩ = some (.map (some C.mb)) := by rw [hW1]; exact Joins.cell_of_block ((heap_alloc_old w _ (Array.getElem?_eq_some_iff.1 hg).1).trans hg) 4
  have c5 := bx0 h5
  have c2 : W.cell? ⟨b2, 0, none⟩ = some (pt g) := by rw [hW1]; exact bx1 _ h2
  go_enter Try.func70, Try.ntmps70
  go_wp2_with fail
  rw [← hW1]
  have hmW : MP W C.mb s.done := MP.same hmp (by rw [hW1]; exact heap_alloc_old w _ hmp.lt)
  have HL : (Instr.lookup 82 (.map (some C.mb)) (.agg #[.int .i64 n, .int .i64 (p : Int)]) true).run Try.prog W.drew = .ok (.tuple #[.agg #[], .bool true]) W.drew := by
    rw [(MP.same (w' := W.drew) hmW rfl).look n (p : Int) hwf, decide_eq_true hd]
  have HL2 : (Instr.lookup 82 (.map (some C.mb)) (.agg #[.int .i64 n, .int .i64 (p : Int)]) true).run Try.prog (W.alloc (.cells #[] 109)).drew = .ok (.tuple #[.agg #[], .bool true]) (W.alloc (.cells #[] 109)).drew := by
    rw [(MP.same (w' := (W.alloc (.cells #[] 109)).drew) hmW (heap_alloc_old W _ hmW.lt)).look n (p : Int) hwf, decide_eq_true hd]
  have d0 : W.cell? ⟨w.heap.size, 0, none⟩ = some (.int .i64 n) := by rw [hW1]; simp
  have d1 : W.cell? ⟨w.heap.size, 1, none⟩ = some (.int .i64 (p : Int)) := by rw [hW1]; simp
  have hgl : g < W.heap.size := by have := (Array.getElem?_eq_some_iff.1 hg).1; rw [hW1]; simp; omega
  have l2 : b2 < W.heap.size := by have := bx_lt h2; rw [hW1]; simp; omega
  have ld : w.heap.size < W.heap.size := by rw [hW1]; simp
  obtain ⟨db, hdb⟩ : ∃ db, db = w.heap.size := ⟨_, rfl⟩
  rw [← hdb] at d0 d1 ld ⊢
  have HW1 := hid hW1
  have HDB := hid hdb
  clear hW1 hdb hmp hg hmW
  go_region
  all_goals
    go_wp2
    refine bodyPost_ret (results_none rfl _ _ _) rfl ?_
    refine ⟨rfl, ?_⟩
    rw [HW1.out]
    exact (Joins.below_alloc1 w _).trans (Joins.below_le ((Joins.below_alloc1 _ _).drew) (by simp))
theorem mb_in {N : Nat} {w : World} {g : Nat} {C : Cx} {s : Sg} {B : List Nat} (h : WS N w g C s B) : C.mb ∈ B := by
  obtain ⟨pv, cs, F, _, _, _, _, rfl⟩ := h.ex
  simp
theorem WS.put_map {N : Nat} {w w' : World} {g : Nat} {C : Cx} {s : Sg} {B : List Nat} {D : List (Int × Int)} (h : WS N w g C s B) (hk : ∀ k, k < w.heap.size → k ≠ C.mb → w'.heap[k]? = w.heap[k]?) (hm : MP w' C.mb D) : WS N w' g C { s with done := D } B := by
  obtain ⟨pv, cs, F, h1, h2, h3, h4, rfl⟩ := h.ex
  have hmb : ∃ es cl, w.heap[C.mb]? = some (.map es cl) := by obtain ⟨es, cl, h, _⟩ := h.map; exact ⟨es, cl, h⟩
  obtain ⟨es, cl, hmb⟩ := hmb
  have hrow : ∀ {base e size n : Nat} {v : Value} {xs : List Value}, w.ownsRow base e size v n xs → w'.ownsRow base e size v n xs := fun hr => row_kept hr fun b hb => hk b (hr.lt b hb).2 (fun e => by
    subst e
    rcases hr.2 with ⟨rfl, _⟩ | ⟨b2, cap, cur, rfl, _, hgg, _⟩
    · simp [Value.ownBlock] at hb
    · simp [Value.ownBlock] at hb
      subst hb
      rw [hgg] at hmb
      cases hmb)
  have hPR : ∀ {cs : List Value} {l : List (Int × List Int)} {F : List Nat}, PR N w cs l F → PR N w' cs l F := fun hp => by
    induction hp with
    | nil => exact .nil
    | cons h hl ih => exact .cons (hrow h) ih
  refine ⟨⟨pv, cs, F, (hk g (Array.getElem?_eq_some_iff.1 h1).1 (fun e => by subst e; rw [h1] at hmb; cases hmb)).trans h1, hrow h2, hPR h3, h4, rfl⟩, hm, hrow h.notes, h.len, h.two, h.few, h.low⟩
/-- a call of a function value -/
def CallsV (v : Value) (p : Nat) (w : World) (Q : Ending → World → Prop) : Prop := ∃ f fi ca, v = .func (.func f) fi ca ∧ (∀ args w, (callFunc f args).run Try.prog w = .ok (.enter f args) w) ∧ Calls Try.prog f (fi.push (.int .i64 (p : Int)) ++ ca) w Q
set_option maxRecDepth 100000 in
set_option maxHeartbeats 2000000 in
theorem go70 (N g : Nat) (C : Cx) (s : Sg) (B : List Nat) (w : World) (hW : Hid (WS N w g C s B)) (b5 b2 b3 : Nat) (v : Value) (n : Int) (p : Nat) (h5 : Bx w b5 3 (.int .i64 n)) (h2 : Bx w b2 60 (pt g)) (h3 : Bx w b3 84 v)
    (hB2 : b2 ∉ B) (hB3 : b3 ∉ B) (hn : 0 ≤ n ∧ n < 4611686018427387904) (hp : p < 4611686018427387904) (hd : (n, (p : Int)) ∉ s.done) (R : World → Prop)
    (hQ : ∀ w', WS N w' g C { s with done := s.done ++ [(n, (p : Int))] } B → Chg w w' B B → CallsV v p w' fun e w2 => e = .returned (.tuple #[]) ∧ R w2) :
    Calls Try.prog 70 #[.int .i64 (p : Int), pt b5, pt b2, pt b3] w fun e w2 => e = .returned (.tuple #[]) ∧ R w2 := by
  obtain ⟨pv, cs, F, hg, _⟩ := hW.out.ex
  have hmp := hW.out.map
  have hwf : wf2 (n, (p : Int)) := wf_two hn hp
  obtain ⟨W, hW1⟩ : ∃ W, W = w.alloc (.cells #[.int .i64 n, .int .i64 (p : Int)] 108) := ⟨_, rfl⟩
  have hm4 : W.cell? ⟨g, 4, none⟩ = some (.map (some C.mb)) := by rw [hW1]; exact Joins.cell_of_block ((heap_alloc_old w _ (Array.getElem?_eq_some_iff.1 hg).1).trans hg) 4
  have c5 := bx0 h5
  have c2 : W.cell? ⟨b2, 0, none⟩ = some (pt g) := by rw [hW1]; exact bx1 _ h2
  have c3 : W.cell? ⟨b3, 0, none⟩ = some v := by rw [hW1]; exact bx1 _ h3
  go_enter Try.func70, Try.ntmps70
  go_wp2_with fail
  rw [← hW1]
  have hmW : MP W C.mb s.done := MP.same hmp (by rw [hW1]; exact heap_alloc_old w _ hmp.lt)
  have HL : (Instr.lookup 82 (.map (some C.mb)) (.agg #[.int .i64 n, .int .i64 (p : Int)]) true).run Try.prog W.drew = .ok (.tuple #[.agg #[], .bool false]) W.drew := by
    rw [(MP.same (w' := W.drew) hmW rfl).look n (p : Int) hwf, decide_eq_false hd]
  have HL2 : (Instr.lookup 82 (.map (some C.mb)) (.agg #[.int .i64 n, .int .i64 (p : Int)]) true).run Try.prog (W.alloc (.cells #[] 109)).drew = .ok (.tuple #[.agg #[], .bool false]) (W.alloc (.cells #[] 109)).drew := by
    rw [(MP.same (w' := (W.alloc (.cells #[] 109)).drew) hmW (heap_alloc_old W _ hmW.lt)).look n (p : Int) hwf, decide_eq_false hd]
  have d0 : W.cell? ⟨w.heap.size, 0, none⟩ = some (.int .i64 n) := by rw [hW1]; simp
  have d1 : W.cell? ⟨w.heap.size, 1, none⟩ = some (.int .i64 (p : Int)) := by rw [hW1]; simp
  have hgl : g < W.heap.size := by have := (Array.getElem?_eq_some_iff.1 hg).1; rw [hW1]; simp; omega
  have l2 : b2 < W.heap.size := by have := bx_lt h2; rw [hW1]; simp; omega
  have l3 : b3 < W.heap.size := by have := bx_lt h3; rw [hW1]; simp; omega
  have ld : w.heap.size < W.heap.size := by rw [hW1]; simp
  obtain ⟨db, hdb⟩ : ∃ db, db = w.heap.size := ⟨_, rfl⟩
  rw [← hdb] at d0 d1 ld ⊢
  obtain ⟨X, hX⟩ : ∃ X, X = (W.alloc (.cells #[] 109)).drew := ⟨_, rfl⟩
  obtain ⟨o, hrun, hput⟩ := (MP.same (w' := X.drew) hmW (by rw [hX]; exact heap_alloc_old W _ hmW.lt)).put n (p : Int) hwf hd
  have HU : (Instr.mapUpdate 82 (.map (some C.mb)) (.agg #[.int .i64 n, .int .i64 (p : Int)]) (.agg #[])).run Try.prog X.drew = .ok () (putB X.drew C.mb o) := hrun
  have bX : ∀ k, k < W.heap.size → X.heap[k]? = W.heap[k]? := fun k hk => by rw [hX]; exact heap_alloc_old W _ hk
  have bW : ∀ k, k < w.heap.size → W.heap[k]? = w.heap[k]? := fun k hk => by rw [hW1]; exact heap_alloc_old w _ hk
  have x2 : X.cell? ⟨b2, 0, none⟩ = some (pt g) := bx0 (t := 60) ((bX _ l2).trans ((bW _ (bx_lt h2)).trans h2))
  have hgX := (bX _ hgl).trans ((bW _ (Array.getElem?_eq_some_iff.1 hg).1).trans hg)
  have x4 : X.cell? ⟨g, 4, none⟩ = some (.map (some C.mb)) := Joins.cell_of_block hgX 4
  have hdX : X.heap[db]? = some (.cells #[.int .i64 n, .int .i64 (p : Int)] 108 (0, 0)) := (bX _ ld).trans (by rw [hW1, hdb]; exact heap_alloc_new w _)
  have e0 : X.cell? ⟨db, 0, none⟩ = some (.int .i64 n) := Joins.cell_of_block hdX 0
  have e1 : X.cell? ⟨db, 1, none⟩ = some (.int .i64 (p : Int)) := Joins.cell_of_block hdX 1
  have hne3 : b3 ≠ C.mb := fun e => hB3 (by rw [e]; exact mb_in hW.out)
  have hp3 : Bx (putB X.drew C.mb o) b3 84 v := (putB_other X.drew o hne3).trans ((bX _ l3).trans ((bW _ (bx_lt h3)).trans h3))
  have x3 : (putB X.drew C.mb o).cell? ⟨b3, 0, none⟩ = some v := bx0 hp3
  have HW1 := hid hW1
  have HDB := hid hdb
  have HMW := hid hmW
  have HX := hid hX
  have HP := hid hput
  have BX := hid bX
  have BW := hid bW
  clear hW1 hdb hmp hg hmW hrun hput hgX hdX hp3 bX bW
  have hgo : ∀ k, k < w.heap.size → k ≠ C.mb → (putB X.drew C.mb o).heap[k]? = w.heap[k]? := fun k hk hne => (putB_other X.drew o hne).trans ((BX.out k (by have := HDB.out; omega)).trans (BW.out k hk))
  have hCh : Chg w (putB X.drew C.mb o) B B := by
    refine ⟨?_, ?_, ?_, ?_, fun k hk hn2 => hgo k hk (fun e => hn2 (by rw [e]; exact mb_in hW.out)), fun k hk => .inl hk⟩
    · show X.os = w.os
      rw [HX.out, HW1.out]; rfl
    · show X.tape = w.tape
      rw [HX.out, HW1.out]; rfl
    · show X.output = w.output
      rw [HX.out, HW1.out]; rfl
    · rw [putB_size]
      show w.heap.size ≤ X.heap.size
      rw [HX.out, HW1.out]; simp; omega
  have hWS : WS N (putB X.drew C.mb o) g C { s with done := s.done ++ [(n, (p : Int))] } B := hW.out.put_map hgo HP.out
  obtain ⟨f, fi, ca, rfl, hcf, hC⟩ := hQ (putB X.drew C.mb o) hWS hCh
  go_region
  all_goals
    rw [← hX]
    clear hX
    go_wp2_with fail
    go_region
    all_goals
      go_wp2_with ((with_reducible refine hC.mono ?_); rintro e w2 ⟨rfl, hR⟩)
      go_end0
      exact ⟨rfl, hR⟩
end Go.Proofs.Ytnpocciioedgpaa
