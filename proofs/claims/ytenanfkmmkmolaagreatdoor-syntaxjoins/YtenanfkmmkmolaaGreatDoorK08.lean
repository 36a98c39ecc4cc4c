/- HELPERS: Rw, Gn, Go, Gq, Gp, Nx, Bq. -/
import Derived.Test.YtenanfkmmkmolaaGreatDoorK07
import Derived.Laws.BytesArg
import Derived.Maps.OwnSet
import Derived.StringKeys
/- HELPERS: a reader that has moved, has a group more, a name more, a level more. -/
namespace Go.Proofs.YtenanfkmmkmolaaGreatDoor
open Go.RowKit Go.Mx
set_option linter.unusedVariables false
set_option linter.unusedSimpArgs false
section
variable {N : Nat} {w : World} {g : Nat} {t : List Int} {S : St} {c : Cs} {ob cap : Nat} {c1 c2 : List Value} {G1 F1 : List Nat} {mb nn : Nat} {D : DataW Unit}
theorem RX.gen (h : RX N w g t S c ob cap c1 c2 G1 F1 mb nn D) {w' : World} {k gr nn' : Nat} {wr : Wr} {nms : List ByteArray} {c' : Cs} {D' : DataW Unit} (hm : ∀ j, j < w.heap.size → j ≠ g → j ≠ mb → w'.heap[j]? = w.heap[j]?) (hrw : RW w' g t k c' wr) (htv : c'.tv = c.tv) (hov : c'.ov = c.ov) (hgv : c'.gv = .int .i64 (gr : Int)) (hmv : c'.mv = c.mv) (hmap : w'.ownsMap Tryz.prog 9 unitElem mb nn' D') (hnms : ∀ nm : ByteArray, Maps.has D' (.string nm.data.toList) = hasName nms nm) (hk : S.pos ≤ k) (hgr : gr ≤ k) (hnn : nn' ≤ k) :
    RX N w' g t { S with pos := k, wr := wr, groups := gr, names := nms } c' ob cap c1 c2 G1 F1 mb nn' D' := by
  have hG : ∀ j ∈ G1 ++ F1, j < w.heap.size := fun j hj => by
    rcases List.mem_append.1 hj with hj | hj
    · exact (h.low.low j hj).2
    · exact (h.top.low j hj).2
  have hkk : ∀ j ∈ G1 ++ F1, w'.heap[j]? = w.heap[j]? := fun j hj => hm j (hG j hj) (h.ap j hj).1 (h.ap j hj).2.2
  exact ⟨hrw, hov.trans h.ov, row_kept h.row fun b hb => by simp [Value.ownBlock] at hb; subst hb; exact hm ob h.obl.2 h.og (fun e => h.mo e.symm), h.low.kept fun j hj => hkk j (List.mem_append_left _ hj), h.top.kept fun j hj => hkk j (List.mem_append_right _ hj), hgv, hmv.trans h.mv, hmap, hnms, h.nd, h.ap, h.og, h.mg, h.mo, fun b hb => h.tv b (by rw [← htv]; exact hb), h.n4, h.ng, h.nm, Nat.le_trans h.b1 hk, fun l hl => ⟨Nat.le_trans (h.b2 l hl).1 hk, Nat.le_trans (h.b2 l hl).2 hk⟩, ⟨Nat.le_trans h.b3.1 hk, Nat.le_trans h.b3.2 hk⟩, hgr, hnn⟩
/-- a group more -/
theorem RX.grp (h : RX N w g t S c ob cap c1 c2 G1 F1 mb nn D) {w' : World} {k : Nat} {wr : Wr} (hm : Mo w w' g) (hrw : RW w' g t k { c with gv := .int .i64 ((S.groups + 1 : Nat) : Int) } wr) (hk : S.pos ≤ k) (hg : S.groups + 1 ≤ k) :
    RX N w' g t { S with pos := k, wr := wr, groups := S.groups + 1 } { c with gv := .int .i64 ((S.groups + 1 : Nat) : Int) } ob cap c1 c2 G1 F1 mb nn D :=
  h.gen (fun j h1 h2 _ => hm.block j h1 h2) hrw rfl rfl rfl rfl (map_kept h.map (hm.block mb (map_lt h.map) h.mg)) h.nms hk hg (Nat.le_trans h.b5 hk)
/-- a level more -/
theorem RX.push (h : RX N w g t S c ob cap c1 c2 G1 F1 mb nn D) {w' : World} {b3 cap3 : Nat} {l : Lev} (hfr : ∀ j, j < w.heap.size → j ≠ g → j ≠ ob → w'.heap[j]? = w.heap[j]?) (hrow : w'.ownsRow N 85 6 (.slice (some ⟨b3, 0, none⟩) (S.low.length + 1 + 1) cap3) (S.low.length + 1 + 1) ((c1 ++ c2) ++ [.slice none 0 0, .slice none 0 0, .bool l.fold, .bool l.all, .int .i64 l.index, .string l.name]))
    (hb : b3 = ob ∨ w.heap.size ≤ b3) (hrw : RW w' g t S.pos { c with ov := .slice (some ⟨b3, 0, none⟩) (S.low.length + 1 + 1) cap3 } S.wr) (hc : l.cats = []) (hr : l.reps = []) (hl : S.low.length + 1 ≤ S.pos) (htl : ∀ b, c.tv.ownBlock = some b → b < w.heap.size) :
    RX N w' g t { S with low := S.low ++ [S.top], top := l } { c with ov := .slice (some ⟨b3, 0, none⟩) (S.low.length + 1 + 1) cap3 } b3 cap3 (c1 ++ c2) [.slice none 0 0, .slice none 0 0, .bool l.fold, .bool l.all, .int .i64 l.index, .string l.name] (G1 ++ F1) [] mb nn D := by
  have hgl := h.rw.rd.gl
  have hml := map_lt h.map
  have hG : ∀ j ∈ G1 ++ F1, j < w.heap.size := fun j hj => by
    rcases List.mem_append.1 hj with hj | hj
    · exact (h.low.low j hj).2
    · exact (h.top.low j hj).2
  have hkk : ∀ j ∈ G1 ++ F1, w'.heap[j]? = w.heap[j]? := fun j hj => hfr j (hG j hj) (h.ap j hj).1 (h.ap j hj).2.1
  have hlen : (S.low ++ [S.top]).length = S.low.length + 1 := by simp
  have hne : ∀ j, j < w.heap.size → j ≠ ob → j ≠ b3 := fun j h1 h2 => by rcases hb with e | e <;> omega
  refine ⟨hrw, by show _ = Value.slice _ ((S.low ++ [S.top]).length + 1) _; rw [hlen], by show w'.ownsRow N 85 6 (.slice _ ((S.low ++ [S.top]).length + 1) _) ((S.low ++ [S.top]).length + 1) _; rw [hlen]; exact hrow, ?_, ?_, h.gv, h.mv, map_kept h.map (hfr mb hml h.mg h.mo), h.nms, by rw [List.append_nil]; exact h.nd, fun j hj => ?_, ?_, h.mg, ?_, fun b hb' => ?_, h.n4, h.ng, h.nm, by show (S.low ++ [S.top]).length ≤ S.pos; omega, fun l' hl' => ?_, by rw [hc, hr]; simp, h.b4, h.b5⟩
  · exact LVs.snoc (h.top.kept fun j hj => hkk j (List.mem_append_right _ hj)) (h.low.kept fun j hj => hkk j (List.mem_append_left _ hj))
  · exact ⟨.slice none 0 0, .slice none 0 0, [], [], [], [], rfl, by rw [hc]; exact World.ownsRow_nil _ _ _ _, by rw [hc]; exact .nil, by rw [hr]; exact World.ownsRow_nil _ _ _ _, by rw [hr]; exact .nil, rfl⟩
  · rw [List.append_nil] at hj
    exact ⟨(h.ap j hj).1, hne j (hG j hj) (h.ap j hj).2.1, (h.ap j hj).2.2⟩
  · exact fun e => hne g hgl (fun e => h.og e.symm) e.symm
  · exact fun e => hne mb hml h.mo e
  · have := h.tv b hb'
    rw [List.append_nil]
    exact ⟨hne b (htl b hb') this.1, this.2.1, this.2.2⟩
  · rcases List.mem_append.1 hl' with hl' | hl'
    · exact h.b2 l' hl'
    · rw [List.mem_singleton.1 hl']
      exact h.b3
end
/-- what stands when a level was put behind the row of levels -/
theorem open_end {N : Nat} {w2 w3 : World} {g : Nat} {t : List Int} {i : Nat} {c : Cs} {wr : Wr} {ob cap n b cap3 : Nat} {xs ys : List Value} {L : Array Value} (R : RW w2 g t i c wr) (hM : Moved (w2.drew.alloc (.cells L 85)) w3 (.slice (some ⟨ob, 0, none⟩) n cap) (.slice (some ⟨b, 0, none⟩) (n + 1) cap3)) (ho : w3.ownsRow N 85 6 (.slice (some ⟨b, 0, none⟩) (n + 1) cap3) (n + 1) (xs ++ ys)) (hog : ob ≠ g) (hobl : ob < w2.heap.size) (htv : ∀ b, c.tv.ownBlock = some b → b ≠ ob) (h4 : 4 ≤ ob) :
    (∀ j, j < w2.heap.size → j ≠ g → j ≠ ob → (w3.setCell ⟨g, 2, none⟩ (.slice (some ⟨b, 0, none⟩) (n + 1) cap3)).heap[j]? = w2.heap[j]?) ∧ (w3.setCell ⟨g, 2, none⟩ (.slice (some ⟨b, 0, none⟩) (n + 1) cap3)).ownsRow N 85 6 (.slice (some ⟨b, 0, none⟩) (n + 1) cap3) (n + 1) (xs ++ ys) ∧ (b = ob ∨ w2.heap.size ≤ b) ∧ RW (w3.setCell ⟨g, 2, none⟩ (.slice (some ⟨b, 0, none⟩) (n + 1) cap3)) g t i { c with ov := .slice (some ⟨b, 0, none⟩) (n + 1) cap3 } wr ∧ (∀ M, M ≤ g → M ≤ ob → M ≤ w2.heap.size → Below M w2 (w3.setCell ⟨g, 2, none⟩ (.slice (some ⟨b, 0, none⟩) (n + 1) cap3))) := by
  obtain ⟨q1, q2, q3, q4⟩ := moved_sz hM
  simp at q4
  have hgl := R.rd.gl
  have hb : b = ob ∨ b = w2.heap.size + 1 := by
    rcases hM with ⟨h, _⟩ | ⟨h, _⟩
    · simp [Value.ownBlock] at h
      exact .inl h
    · simp [Value.ownBlock] at h
      exact .inr h
  have h3 : ∀ j, j < w2.heap.size → j ≠ ob → w3.heap[j]? = w2.heap[j]? := fun j hj hne => (moved_fr hM j (by simp; omega) (by simp [Value.ownBlock]; exact fun e => hne e.symm)).trans (heap_alloc_old w2.drew _ hj)
  have hblk : w3.heap[g]? = _ := (h3 g hgl (fun e => hog e.symm)).trans R.rd.blk
  have hW : ∀ j, j < w2.heap.size → j ≠ g → j ≠ ob → (w3.setCell ⟨g, 2, none⟩ (.slice (some ⟨b, 0, none⟩) (n + 1) cap3)).heap[j]? = w2.heap[j]? := fun j hj h1 h2 => (Below.heap_setCell _ _ _ _ h1).trans (h3 j hj h2)
  refine ⟨hW, own_setCell ho (by simp [Value.ownBlock]; omega), by omega, ⟨⟨Joins.block_setCell (i := 2) hblk _, ?_, R.rd.le, R.rd.bd, R.rd.byt⟩, R.gl.below (B := 4) ⟨q1, q2, q3, by simp only [zset]; omega, fun k hk => ?_⟩ (by omega), R.hg⟩, fun M h1 h2 h5 => ⟨q1, q2, q3, by simp only [zset]; omega, fun k hk => hW k (by omega) (by omega) (by omega)⟩⟩
  · obtain ⟨ad, cp, e1, e2, e3, e4⟩ := R.rd.txt
    refine ⟨ad, cp, e1, e2, e3, fun j hj => ?_⟩
    obtain ⟨b', e5, e6, e7⟩ := e4 j hj
    refine ⟨b', e5, e6, ?_⟩
    rw [← e7]
    unfold World.cell?
    rw [hW b' (cell_lt e7) e6 (htv b' (by rw [e1, e5]; rfl))]
  · have := R.gl.big
    exact hW k (by omega) (by have := R.hg; omega) (by omega)
end Go.Proofs.YtenanfkmmkmolaaGreatDoor
/- HELPERS: a group's name that cannot stand. -/
namespace Go.Proofs.YtenanfkmmkmolaaGreatDoor
open Go.RowKit Go.Mx
set_option linter.unusedVariables false
set_option linter.unusedSimpArgs false
set_option maxHeartbeats 2000000 in
theorem groupName62_lt {g : Nat} {t : List Int} {i : Nat} {c : Cs} {w : World} {wr : Wr} (R0 : Hid (RW w g t i c wr)) (at_ : Int) (hx : ¬ nx t i = 60) :
    Calls Tryz.prog 62 #[.pointer (some ⟨g, 0, none⟩), .int .i64 at_] w fun e w' => e = Gave i ∧ Mo w w' g := by
  have C1 := mustN (rdC R0) 60 (by decide) hx
  go_enter Tryz.func62, Tryz.ntmps62
  go_wp2_with (go_at_call 63; (with_reducible refine C1.mono ?_); rintro e w1 ⟨rfl, H1⟩)
  exact ⟨rfl, rfl, H1.mo⟩
set_option maxHeartbeats 2000000 in
theorem groupName62_digit {g : Nat} {t : List Int} {i : Nat} {c : Cs} {w : World} {wr : Wr} (R0 : Hid (RW w g t i c wr)) (at_ : Int) (hx : nx t i = 60) (h1 : 48 ≤ nx t (i + 1) ∧ nx t (i + 1) ≤ 57) :
    Calls Tryz.prog 62 #[.pointer (some ⟨g, 0, none⟩), .int .i64 at_] w fun e w' => e = Gave (i + 1) ∧ Mo w w' g := by
  have hlt := nx_lt (t := t) (i := i) (by omega)
  have C1 := mustE (rdC R0) 60 (by decide) hx
  go_enter Tryz.func62, Tryz.ntmps62
  go_wp2_with (go_at_call 63; (with_reducible refine C1.mono ?_); rintro e w1 ⟨rfl, H1⟩; have Q1 := rwOn R0 H1 (by omega); have k1 := Joins.cell_of_block Q1.out.rd.blk 1; simp at k1)
  have C2 := seesE (rdC Q1) 48 57 true (by decide) (decide_eq_true h1)
  go_wp2_with (go_at_call 83; (with_reducible refine C2.mono ?_); rintro e w2 ⟨rfl, H2⟩; have Q2 := rwOn Q1 H2 (by omega))
  have C3 := giveE (rdC Q2)
  go_wp2_with (go_at_call 47; (with_reducible refine C3.mono ?_); rintro e w3 ⟨rfl, H3⟩)
  exact ⟨rfl, rfl, (H1.mo.trans H2.mo).trans H3.mo⟩
set_option maxHeartbeats 2000000 in
theorem groupName62_word {g : Nat} {t : List Int} {i : Nat} {c : Cs} {w : World} {wr : Wr} (R0 : Hid (RW w g t i c wr)) (at_ : Int) (hx : nx t i = 60) (h1 : ¬ (48 ≤ nx t (i + 1) ∧ nx t (i + 1) ≤ 57)) (h2 : wordB (nx t (i + 1)) = false) :
    Calls Tryz.prog 62 #[.pointer (some ⟨g, 0, none⟩), .int .i64 at_] w fun e w' => e = Gave (i + 1) ∧ Mo w w' g := by
  have hlt := nx_lt (t := t) (i := i) (by omega)
  have C1 := mustE (rdC R0) 60 (by decide) hx
  go_enter Tryz.func62, Tryz.ntmps62
  go_wp2_with (go_at_call 63; (with_reducible refine C1.mono ?_); rintro e w1 ⟨rfl, H1⟩; have Q1 := rwOn R0 H1 (by omega); have k1 := Joins.cell_of_block Q1.out.rd.blk 1; simp at k1)
  have C2 := seesE (rdC Q1) 48 57 false (by decide) (decide_eq_false h1)
  go_wp2_with (go_at_call 83; (with_reducible refine C2.mono ?_); rintro e w2 ⟨rfl, H2⟩; have Q2 := rwOn Q1 H2 (by omega))
  have C4 := wordE (rdC Q2) false h2
  go_wp2_with (go_at_call 84; (with_reducible refine C4.mono ?_); rintro e w3 ⟨rfl, H3⟩; have Q3 := rwOn Q2 H3 (by omega))
  have C3 := giveE (rdC Q3)
  go_wp2_with (go_at_call 47; (with_reducible refine C3.mono ?_); rintro e w4 ⟨rfl, H4⟩)
  exact ⟨rfl, rfl, ((H1.mo.trans H2.mo).trans H3.mo).trans H4.mo⟩
end Go.Proofs.YtenanfkmmkmolaaGreatDoor
/- HELPERS: a group's name that is not over where it must be. -/
namespace Go.Proofs.YtenanfkmmkmolaaGreatDoor
open Go.RowKit Go.Mx
set_option linter.unusedVariables false
set_option linter.unusedSimpArgs false
theorem atSet {w : World} {g : Nat} {t : List Int} {i k : Nat} {c : Cs} {wr : Wr} (h : Hid (RW w g t i c wr)) (hk : k ≤ t.length) : Hid (RW (w.setCell ⟨g, 1, none⟩ (.int .i64 (k : Int))) g t k c wr) :=
  h.out.mo (Mo.set w g 1 _) (Joins.block_setCell (i := 1) h.out.rd.blk _) hk
theorem word_lt {t : List Int} {k : Nat} (h : wordB (nx t k) = true) : k < t.length := by
  rcases Nat.lt_or_ge k t.length with h1 | h1
  · exact h1
  · rw [nx_end h1] at h
    exact absurd h (by decide)
theorem name_facts {w : World} {g : Nat} {t : List Int} {i k : Nat} {c : Cs} {wr : Wr} (h : RW w g t k c wr) (hi : i + 1 ≤ k) :
    ∃ tb cap : Nat, c.tv = .slice (some ⟨tb, 0, none⟩) t.length cap ∧ t.length ≤ cap ∧ cap ≤ 9223372036854775807 ∧ ∀ q, (convert 72 9 (.slice (some ⟨tb, i + 1, none⟩) (k - (i + 1)) (cap - (i + 1)))).run Tryz.prog (w.drewN q) = .ok (.string (strOfNums ((t.drop (i + 1)).take (k - (i + 1))))) (w.drewN q) := by
  have hk := h.rd.le
  obtain ⟨ad, cap, e1, e2, e3, e4⟩ := h.rd.txt
  obtain ⟨tb, rfl, _, _⟩ := e4 0 (by omega)
  refine ⟨tb, cap, e1, e2, e3, fun q => ?_⟩
  refine run_convert_bytes_arg (P := Tryz.prog) (w.drewN q) 72 5 Tryz.underlying72 Tryz.underlying5 tb (i + 1) (k - (i + 1)) (cap - (i + 1)) _ (by simp; omega) (fun j hj => ?_) 9 Tryz.underlying9
  obtain ⟨b, hb, _, hc⟩ := e4 (i + 1 + j) (by omega)
  cases hb
  have e5 : ((t.drop (i + 1)).take (k - (i + 1))).getD j 0 = t.getD (i + 1 + j) 0 := by
    rw [List.getD_eq_getElem?_getD, List.getD_eq_getElem?_getD, List.getElem?_take, if_pos hj, List.getElem?_drop]
  rw [e5]
  exact hc
set_option maxHeartbeats 2000000 in
theorem groupName62_gt {g : Nat} {t : List Int} {i : Nat} {c : Cs} {w : World} {wr0 : Wr} (R0 : Hid (RW w g t i c wr0)) (at_ : Int) (hx : nx t i = 60) (h1 : ¬ (48 ≤ nx t (i + 1) ∧ nx t (i + 1) ≤ 57)) (h2 : wordB (nx t (i + 1)) = true) {z : Nat} (hz : nameGo t 32 (i + 1) = z) (h3 : ¬ nx t z = 62) :
    Calls Tryz.prog 62 #[.pointer (some ⟨g, 0, none⟩), .int .i64 at_] w fun e w' => e = Gave z ∧ Mo w w' g := by
  have hlt := nx_lt (t := t) (i := i) (by omega)
  have C1 := mustE (rdC R0) 60 (by decide) hx
  have hbd := R0.out.rd.bd
  go_enter Tryz.func62, Tryz.ntmps62
  go_wp2_with (go_at_call 63; (with_reducible refine C1.mono ?_); rintro e w1 ⟨rfl, H1⟩; have Q1 := rwOn R0 H1 (by omega); have k1 := Joins.cell_of_block Q1.out.rd.blk 1; simp at k1)
  have C2 := seesE (rdC Q1) 48 57 false (by decide) (decide_eq_false h1)
  go_wp2_with (go_at_call 83; (with_reducible refine C2.mono ?_); rintro e w2 ⟨rfl, H2⟩; have Q2 := rwOn Q1 H2 (by omega))
  have C4 := wordE (rdC Q2) true h2
  go_wp2_with (go_at_call 84; (with_reducible refine C4.mono ?_); rintro e w3 ⟨rfl, H3⟩; have Q3 := rwOn Q2 H3 (by omega))
  have HM3 := hid ((H1.mo.trans H2.mo).trans H3.mo)
  clear H1 H2 H3 Q1 Q2 C1 C2 C4 k1
  go_loopw [] (fun wq => ∃ (k : Nat), i + 1 ≤ k ∧ k ≤ i + 33 ∧ k ≤ t.length ∧ Hid (RW wq g t k c wr0) ∧ Hid (Mo w wq g) ∧ Hid (nameGo t (i + 33 - k) k = z))
    (fun wq => i + 40 - (match wq.cell? ⟨g, 1, none⟩ with | some (.int _ x) => x.toNat | _ => 0))
  case atStart => exact ⟨i + 1, by omega, by omega, by omega, Q3, HM3, by rw [show i + 33 - (i + 1) = 32 by omega]; exact hz⟩
  case round =>
    obtain ⟨k, hk1, hk2, hk3, RK, MK, HZ⟩ := hrel
    have cK := Joins.cell_of_block RK.out.rd.blk 1
    have fK := Joins.unfrozen_of_block RK.out.rd.blk 1
    simp at cK
    have sub1 : IntKind.i64.wrap ((k : Int) - ((i : Int) + 1)) = (k : Int) - ((i : Int) + 1) := i64_small _ (by omega) (by omega)
    have add1 : IntKind.i64.wrap ((k : Int) + 1) = (k : Int) + 1 := i64_small _ (by omega) (by omega)
    clear Q3 HM3
    by_cases hw : wordB (nx t k) = true
    · have C5 := wordE (rdC RK) true hw
      by_cases h32 : k < i + 33
      · have b1 : decide ((k : Int) - ((i : Int) + 1) < 32) = true := by simp; omega
        go_wp2_with (go_at_call 84; (with_reducible refine C5.mono ?_); rintro e w4 ⟨rfl, H4⟩; have Q4 := rwOn RK H4 (by omega); have d1 := Joins.cell_of_block Q4.out.rd.blk 1; have f1 := Joins.unfrozen_of_block Q4.out.rd.blk 1; simp at d1; have HM4 := hid H4.mo; clear H4)
        have hkl : k < t.length := word_lt hw
        have Q5 := atSet (k := k + 1) Q4 (by omega)
        have e1 := Joins.cell_of_block Q5.out.rd.blk 1
        push_cast at e1 Q5
        refine ⟨⟨k + 1, by omega, by omega, by omega, by push_cast; exact Q5, (MK.out.trans HM4.out).trans (Mo.set _ g 1 _), ?_⟩, ?_⟩
        · have hz2 := HZ.out
          rw [show i + 33 - k = (i + 33 - (k + 1)) + 1 by omega, nameGo, if_pos hw] at hz2
          exact hz2
        · rw [e1, cK]
          simp
          omega
      · have b1 : decide ((k : Int) - ((i : Int) + 1) < 32) = false := by simp; omega
        have hzk : z = k := by
          have hz2 := HZ.out
          rw [show i + 33 - k = 0 by omega, nameGo] at hz2
          exact hz2.symm
        go_wp2_with (go_at_call 84; (with_reducible refine C5.mono ?_); rintro e w4 ⟨rfl, H4⟩; have Q4 := rwOn RK H4 (by omega); have d1 := Joins.cell_of_block Q4.out.rd.blk 1; have d0 := Joins.cell_of_block Q4.out.rd.blk 0; simp at d1 d0; have HM4 := hid H4.mo; clear H4)
        obtain ⟨tb, cap, hv, l1, l2, hcv⟩ := name_facts (i := i) Q4.out hk1
        rw [hv] at d0
        have HV := hid hv
        clear hv
        have tn1 : ((i : Int) + 1).toNat = i + 1 := by omega
        have le1 : (i : Int) + 1 ≤ (k : Int) := by omega
        have le2 : (k : Int) ≤ (cap : Int) := by omega
        have le3 : (0 : Int) ≤ (i : Int) + 1 := by omega
        have hle4 : k ≤ cap := by omega
        go_quiet (fail)
        have Q5 : Hid (RW (w4.drewN nq) g t k c wr0) := Q4.out.mo (Mo.drewN _ g _) Q4.out.rd.blk Q4.out.rd.le
        have C6 := mustN (rdC Q5) 62 (by decide) (by rw [← hzk]; exact h3)
        go_wp2_with (go_at_call 63; (with_reducible refine C6.mono ?_); rintro e w5 ⟨rfl, H5⟩)
        exact ⟨rfl, by rw [hzk], ((MK.out.trans HM4.out).trans (Mo.drewN _ g _)).trans H5.mo⟩
    · have hw' : wordB (nx t k) = false := by simpa using hw
      have hk6 : i + 1 < k := by
        rcases Nat.lt_or_ge (i + 1) k with h | h
        · exact h
        · have e : k = i + 1 := by omega
          rw [e, h2] at hw'
          cases hw'
      have C5 := wordE (rdC RK) false hw'
      have hzk : z = k := by
        have hz2 := HZ.out
        cases hf : i + 33 - k with
        | zero => rw [hf, nameGo] at hz2; exact hz2.symm
        | succ f => rw [hf, nameGo, if_neg hw] at hz2; exact hz2.symm
      go_wp2_with (go_at_call 84; (with_reducible refine C5.mono ?_); rintro e w4 ⟨rfl, H4⟩; have Q4 := rwOn RK H4 (by omega); have d1 := Joins.cell_of_block Q4.out.rd.blk 1; have d0 := Joins.cell_of_block Q4.out.rd.blk 0; simp at d1 d0; have HM4 := hid H4.mo; clear H4)
      obtain ⟨tb, cap, hv, l1, l2, hcv⟩ := name_facts (i := i) Q4.out hk1
      rw [hv] at d0
      have HV := hid hv
      clear hv
      have tn1 : ((i : Int) + 1).toNat = i + 1 := by omega
      have le1 : (i : Int) + 1 ≤ (k : Int) := by omega
      have le2 : (k : Int) ≤ (cap : Int) := by omega
      have le3 : (0 : Int) ≤ (i : Int) + 1 := by omega
      have hle4 : k ≤ cap := by omega
      have lt1 : (i : Int) + 1 < (k : Int) := by omega
      have lt2 : i + 1 < cap := by omega
      have lt3 : (i : Int) + 1 < (cap : Int) := by omega
      have ne1 : ¬ cap - (i + 1) = 0 := by omega
      have ne2 : ¬ k - (i + 1) = 0 := by omega
      go_quiet (fail)
      have Q5 : Hid (RW (w4.drewN nq) g t k c wr0) := Q4.out.mo (Mo.drewN _ g _) Q4.out.rd.blk Q4.out.rd.le
      have C6 := mustN (rdC Q5) 62 (by decide) (by rw [← hzk]; exact h3)
      go_wp2_with (go_at_call 63; (with_reducible refine C6.mono ?_); rintro e w5 ⟨rfl, H5⟩)
      exact ⟨rfl, by rw [hzk], ((MK.out.trans HM4.out).trans (Mo.drewN _ g _)).trans H5.mo⟩
end Go.Proofs.YtenanfkmmkmolaaGreatDoor
/- HELPERS: a group's name that stands. -/
namespace Go.Proofs.YtenanfkmmkmolaaGreatDoor
open Go.RowKit Go.Mx
open Go.Maps (Keyed string_keyed)
open Go.WideMaps (keyOf_string_mk)
set_option linter.unusedVariables false
set_option linter.unusedSimpArgs false
theorem zero126 (w : World) : (zeroValue 126).run Tryz.prog w = .ok (.agg #[]) w := by kernel_rfl
theorem key9 : Keyed Tryz.prog 9 := string_keyed Tryz.underlying9
theorem map_mo {w w' : World} {g mb n : Nat} {D : DataW Unit} (h : Hid (w.ownsMap Tryz.prog 9 unitElem mb n D)) (hm : Mo w w' g) (hne : mb ≠ g) : Hid (w'.ownsMap Tryz.prog 9 unitElem mb n D) := by
  obtain ⟨es, cl, h1, h2⟩ := h.out
  exact ⟨es, cl, (hm.block mb (Array.getElem?_eq_some_iff.1 h1).1 hne).trans h1, h2⟩
/-- how the name's way ends -/
theorem name_end {w w6 w8 : World} {g : Nat} {t : List Int} {k : Nat} {c : Cs} {wr : Wr} {mb : Nat} (hM : Mo w w6 g) (hR : RW w6 g t k c wr) (hT : w6.mapTurned w8 mb) (hmg : mb ≠ g) (h4 : 4 ≤ mb) (htv : ∀ b, c.tv.ownBlock = some b → b ≠ mb) : Fr w w8 [g, mb] ∧ RW w8 g t k c wr := by
  have hg := hT.grown
  have hF : Fr w6 w8 [mb] := ⟨hg.os, hg.tape, hg.output, hg.size, fun j hj hn => hg.block j hj (by simp at hn ⊢; exact hn)⟩
  exact ⟨(Fr.of_mo hM (by simp)).trans (hF.le (by simp)), hR.fr hF (by simp; exact fun e => hmg e.symm) (fun b hb => by simp; exact htv b hb) (fun j hj => by simp at hj; omega)⟩
set_option maxRecDepth 100000 in
set_option maxHeartbeats 4000000 in
theorem groupName62_ok {g : Nat} {t : List Int} {i : Nat} {c : Cs} {w : World} {wr0 : Wr} (R0 : Hid (RW w g t i c wr0)) (at_ : Int) (hx : nx t i = 60) (h1 : ¬ (48 ≤ nx t (i + 1) ∧ nx t (i + 1) ≤ 57)) (h2 : wordB (nx t (i + 1)) = true) {z : Nat} (hz : nameGo t 32 (i + 1) = z) (h3 : nx t z = 62) {mb nn : Nat} {D : DataW Unit} (hmv : c.mv = .map (some mb)) (HMp : Hid (w.ownsMap Tryz.prog 9 unitElem mb nn D)) (hmg : mb ≠ g) (hnn : nn ≤ 100000) (h4m : 4 ≤ mb) (htvm : ∀ b, c.tv.ownBlock = some b → b ≠ mb) {st : Bool} (hst : Maps.has D (.string (strOfNums ((t.drop (i + 1)).take (z - (i + 1)))).data.toList) = st) :
    Calls Tryz.prog 62 #[.pointer (some ⟨g, 0, none⟩), .int .i64 at_] w fun e w' => e = .returned (.string (strOfNums ((t.drop (i + 1)).take (z - (i + 1))))) ∧ Fr w w' [g, mb] ∧ RW w' g t (z + 1) c (noteIf st wr0 44 at_) ∧ w'.ownsMap Tryz.prog 9 unitElem mb (nn + 1) (D.put (.string (strOfNums ((t.drop (i + 1)).take (z - (i + 1)))).data.toList) (.agg [])) := by
  have hlt := nx_lt (t := t) (i := i) (by omega)
  have C1 := mustE (rdC R0) 60 (by decide) hx
  have hbd := R0.out.rd.bd
  go_enter Tryz.func62, Tryz.ntmps62
  go_wp2_with (go_at_call 63; (with_reducible refine C1.mono ?_); rintro e w1 ⟨rfl, H1⟩; have Q1 := rwOn R0 H1 (by omega); have k1 := Joins.cell_of_block Q1.out.rd.blk 1; simp at k1)
  have C2 := seesE (rdC Q1) 48 57 false (by decide) (decide_eq_false h1)
  go_wp2_with (go_at_call 83; (with_reducible refine C2.mono ?_); rintro e w2 ⟨rfl, H2⟩; have Q2 := rwOn Q1 H2 (by omega))
  have C4 := wordE (rdC Q2) true h2
  go_wp2_with (go_at_call 84; (with_reducible refine C4.mono ?_); rintro e w3 ⟨rfl, H3⟩; have Q3 := rwOn Q2 H3 (by omega))
  have HM3 := hid ((H1.mo.trans H2.mo).trans H3.mo)
  clear H1 H2 H3 Q1 Q2 C1 C2 C4 k1
  go_loopw [] (fun wq => ∃ (k : Nat), i + 1 ≤ k ∧ k ≤ i + 33 ∧ k ≤ t.length ∧ Hid (RW wq g t k c wr0) ∧ Hid (Mo w wq g) ∧ Hid (nameGo t (i + 33 - k) k = z))
    (fun wq => i + 40 - (match wq.cell? ⟨g, 1, none⟩ with | some (.int _ x) => x.toNat | _ => 0))
  case atStart => exact ⟨i + 1, by omega, by omega, by omega, Q3, HM3, by rw [show i + 33 - (i + 1) = 32 by omega]; exact hz⟩
  case round =>
    obtain ⟨k, hk1, hk2, hk3, RK, MK, HZ⟩ := hrel
    have cK := Joins.cell_of_block RK.out.rd.blk 1
    have fK := Joins.unfrozen_of_block RK.out.rd.blk 1
    simp at cK
    have sub1 : IntKind.i64.wrap ((k : Int) - ((i : Int) + 1)) = (k : Int) - ((i : Int) + 1) := i64_small _ (by omega) (by omega)
    have add1 : IntKind.i64.wrap ((k : Int) + 1) = (k : Int) + 1 := i64_small _ (by omega) (by omega)
    clear Q3 HM3
    by_cases hw : wordB (nx t k) = true
    · have C5 := wordE (rdC RK) true hw
      by_cases h32 : k < i + 33
      · have b1 : decide ((k : Int) - ((i : Int) + 1) < 32) = true := by simp; omega
        go_wp2_with (go_at_call 84; (with_reducible refine C5.mono ?_); rintro e w4 ⟨rfl, H4⟩; have Q4 := rwOn RK H4 (by omega); have d1 := Joins.cell_of_block Q4.out.rd.blk 1; have f1 := Joins.unfrozen_of_block Q4.out.rd.blk 1; simp at d1; have HM4 := hid H4.mo; clear H4)
        have hkl : k < t.length := word_lt hw
        have Q5 := atSet (k := k + 1) Q4 (by omega)
        have e1 := Joins.cell_of_block Q5.out.rd.blk 1
        push_cast at e1 Q5
        refine ⟨⟨k + 1, by omega, by omega, by omega, by push_cast; exact Q5, (MK.out.trans HM4.out).trans (Mo.set _ g 1 _), ?_⟩, ?_⟩
        · have hz2 := HZ.out
          rw [show i + 33 - k = (i + 33 - (k + 1)) + 1 by omega, nameGo, if_pos hw] at hz2
          exact hz2
        · rw [e1, cK]
          simp
          omega
      · have b1 : decide ((k : Int) - ((i : Int) + 1) < 32) = false := by simp; omega
        have hzk : z = k := by
          have hz2 := HZ.out
          rw [show i + 33 - k = 0 by omega, nameGo] at hz2
          exact hz2.symm
        go_wp2_with (go_at_call 84; (with_reducible refine C5.mono ?_); rintro e w4 ⟨rfl, H4⟩; have Q4 := rwOn RK H4 (by omega); have d1 := Joins.cell_of_block Q4.out.rd.blk 1; have d0 := Joins.cell_of_block Q4.out.rd.blk 0; simp at d1 d0; have HM4 := hid H4.mo; clear H4)
        obtain ⟨tb, cap, hv, l1, l2, hcv⟩ := name_facts (i := i) Q4.out hk1
        rw [hv] at d0
        have HV := hid hv
        clear hv
        have tn1 : ((i : Int) + 1).toNat = i + 1 := by omega
        have le1 : (i : Int) + 1 ≤ (k : Int) := by omega
        have le2 : (k : Int) ≤ (cap : Int) := by omega
        have le3 : (0 : Int) ≤ (i : Int) + 1 := by omega
        have hle4 : k ≤ cap := by omega
        go_quiet (fail)
        have Q5 : Hid (RW (w4.drewN nq) g t k c wr0) := Q4.out.mo (Mo.drewN _ g _) Q4.out.rd.blk Q4.out.rd.le
        have C6 := mustE (rdC Q5) 62 (by decide) (by rw [← hzk]; exact h3)
        have hkl := nx_lt (t := t) (i := k) (by rw [← hzk]; omega)
        have hkey : keyOf Tryz.prog 9 (.string (strOfNums ((t.drop (i + 1)).take (k - (i + 1))))) = some (.string (strOfNums ((t.drop (i + 1)).take (k - (i + 1)))).data.toList) := keyOf_string_mk Tryz.underlying9 (by simp [strOfNums, maxLen, ByteArray.size]; omega)
        rw [hzk] at hst
        have hmap : ∀ W, Mo (w4.drewN nq) W g → Hid (W.ownsMap Tryz.prog 9 unitElem mb nn D) := fun W hW => map_mo HMp (((MK.out.trans HM4.out).trans (Mo.drewN _ g _)).trans hW) hmg
        have hMM : Hid (Mo w (w4.drewN nq) g) := (MK.out.trans HM4.out).trans (Mo.drewN _ g _)
        cases st with
        | false =>
          go_wp2_with (first | (go_at_call 63; (with_reducible refine C6.mono ?_); rintro e w5 ⟨rfl, H5⟩; have Q6 := rwOn Q5 H5 (by omega); have m4 := Joins.cell_of_block Q6.out.rd.blk 4; simp [hmv] at m4; have gl5 := Q6.out.rd.gl; have HW := hmap _ H5.mo; have HM6 : Hid (Mo w (w5.alloc (.cells #[] 126)) g) := (hMM.out.trans H5.mo).trans (Mo.alloc _ g _); have R6 := hid (Q6.out.stay (Joins.below_alloc1 w5 (.cells #[] 126))); have HW6 := hid (HW.out.alloc (.cells #[] 126))) | (at_lookup; refine wpList_lookup_own_unit _ rfl _ _ 74 rfl 9 126 key9 Tryz.underlying74 (zero126 _) mb nn D rfl HW.out _ _ rfl hkey ?_; rw [hst]) | (at_mapUpdate; refine wpList_mapUpdate_in _ rfl _ _ _ 74 rfl 9 126 key9 Tryz.underlying74 unitElem mb nn D rfl HW6.out (by unfold maxLen; omega) _ _ _ rfl rfl hkey (.agg []) [] unitElem_mk ?_; intro w8 hown8 hturn8))
          go_ret
          obtain ⟨q1, q2⟩ := name_end HM6.out R6.out hturn8 hmg h4m htvm
          rw [hzk]
          exact ⟨rfl, q1, q2, hown8⟩
        | true =>
          go_wp2_with (first | (go_at_call 63; (with_reducible refine C6.mono ?_); rintro e w5 ⟨rfl, H5⟩; have Q6 := rwOn Q5 H5 (by omega); have m4 := Joins.cell_of_block Q6.out.rd.blk 4; simp [hmv] at m4; have gl5 := Q6.out.rd.gl; have HW := hmap _ H5.mo; have HM6 : Hid (Mo w (w5.alloc (.cells #[] 126)) g) := (hMM.out.trans H5.mo).trans (Mo.alloc _ g _); have R6 := hid (Q6.out.stay (Joins.below_alloc1 w5 (.cells #[] 126))); have HW6 := hid (HW.out.alloc (.cells #[] 126)); have C7 := note64 R6 44 at_) | (at_lookup; refine wpList_lookup_own_unit _ rfl _ _ 74 rfl 9 126 key9 Tryz.underlying74 (zero126 _) mb nn D rfl HW.out _ _ rfl hkey ?_; rw [hst]) | (go_at_call 64; (with_reducible refine C7.mono ?_); rintro e w7 ⟨rfl, M7, R7⟩; have HM7 := hid (HM6.out.trans M7); have HR7 := hid R7; have m7 := Joins.cell_of_block R7.rd.blk 4; simp [hmv] at m7; have HW7 := map_mo HW6 M7 hmg; clear M7 R7) | (at_mapUpdate; refine wpList_mapUpdate_in _ rfl _ _ _ 74 rfl 9 126 key9 Tryz.underlying74 unitElem mb nn D rfl HW7.out (by unfold maxLen; omega) _ _ _ rfl rfl hkey (.agg []) [] unitElem_mk ?_; intro w8 hown8 hturn8))
          go_ret
          obtain ⟨q1, q2⟩ := name_end HM7.out HR7.out hturn8 hmg h4m htvm
          rw [hzk]
          exact ⟨rfl, q1, q2, hown8⟩
    · have hw' : wordB (nx t k) = false := by simpa using hw
      have hk6 : i + 1 < k := by
        rcases Nat.lt_or_ge (i + 1) k with h | h
        · exact h
        · have e : k = i + 1 := by omega
          rw [e, h2] at hw'
          cases hw'
      have C5 := wordE (rdC RK) false hw'
      have hzk : z = k := by
        have hz2 := HZ.out
        cases hf : i + 33 - k with
        | zero => rw [hf, nameGo] at hz2; exact hz2.symm
        | succ f => rw [hf, nameGo, if_neg hw] at hz2; exact hz2.symm
      go_wp2_with (go_at_call 84; (with_reducible refine C5.mono ?_); rintro e w4 ⟨rfl, H4⟩; have Q4 := rwOn RK H4 (by omega); have d1 := Joins.cell_of_block Q4.out.rd.blk 1; have d0 := Joins.cell_of_block Q4.out.rd.blk 0; simp at d1 d0; have HM4 := hid H4.mo; clear H4)
      obtain ⟨tb, cap, hv, l1, l2, hcv⟩ := name_facts (i := i) Q4.out hk1
      rw [hv] at d0
      have HV := hid hv
      clear hv
      have tn1 : ((i : Int) + 1).toNat = i + 1 := by omega
      have le1 : (i : Int) + 1 ≤ (k : Int) := by omega
      have le2 : (k : Int) ≤ (cap : Int) := by omega
      have le3 : (0 : Int) ≤ (i : Int) + 1 := by omega
      have hle4 : k ≤ cap := by omega
      have lt1 : (i : Int) + 1 < (k : Int) := by omega
      have lt2 : i + 1 < cap := by omega
      have lt3 : (i : Int) + 1 < (cap : Int) := by omega
      have ne1 : ¬ cap - (i + 1) = 0 := by omega
      have ne2 : ¬ k - (i + 1) = 0 := by omega
      go_quiet (fail)
      have Q5 : Hid (RW (w4.drewN nq) g t k c wr0) := Q4.out.mo (Mo.drewN _ g _) Q4.out.rd.blk Q4.out.rd.le
      have C6 := mustE (rdC Q5) 62 (by decide) (by rw [← hzk]; exact h3)
      have hkl := nx_lt (t := t) (i := k) (by rw [← hzk]; omega)
      have hkey : keyOf Tryz.prog 9 (.string (strOfNums ((t.drop (i + 1)).take (k - (i + 1))))) = some (.string (strOfNums ((t.drop (i + 1)).take (k - (i + 1)))).data.toList) := keyOf_string_mk Tryz.underlying9 (by simp [strOfNums, maxLen, ByteArray.size]; omega)
      rw [hzk] at hst
      have hmap : ∀ W, Mo (w4.drewN nq) W g → Hid (W.ownsMap Tryz.prog 9 unitElem mb nn D) := fun W hW => map_mo HMp (((MK.out.trans HM4.out).trans (Mo.drewN _ g _)).trans hW) hmg
      have hMM : Hid (Mo w (w4.drewN nq) g) := (MK.out.trans HM4.out).trans (Mo.drewN _ g _)
      cases st with
      | false =>
        go_wp2_with (first | (go_at_call 63; (with_reducible refine C6.mono ?_); rintro e w5 ⟨rfl, H5⟩; have Q6 := rwOn Q5 H5 (by omega); have m4 := Joins.cell_of_block Q6.out.rd.blk 4; simp [hmv] at m4; have gl5 := Q6.out.rd.gl; have HW := hmap _ H5.mo; have HM6 : Hid (Mo w (w5.alloc (.cells #[] 126)) g) := (hMM.out.trans H5.mo).trans (Mo.alloc _ g _); have R6 := hid (Q6.out.stay (Joins.below_alloc1 w5 (.cells #[] 126))); have HW6 := hid (HW.out.alloc (.cells #[] 126))) | (at_lookup; refine wpList_lookup_own_unit _ rfl _ _ 74 rfl 9 126 key9 Tryz.underlying74 (zero126 _) mb nn D rfl HW.out _ _ rfl hkey ?_; rw [hst]) | (at_mapUpdate; refine wpList_mapUpdate_in _ rfl _ _ _ 74 rfl 9 126 key9 Tryz.underlying74 unitElem mb nn D rfl HW6.out (by unfold maxLen; omega) _ _ _ rfl rfl hkey (.agg []) [] unitElem_mk ?_; intro w8 hown8 hturn8))
        go_ret
        obtain ⟨q1, q2⟩ := name_end HM6.out R6.out hturn8 hmg h4m htvm
        rw [hzk]
        exact ⟨rfl, q1, q2, hown8⟩
      | true =>
        go_wp2_with (first | (go_at_call 63; (with_reducible refine C6.mono ?_); rintro e w5 ⟨rfl, H5⟩; have Q6 := rwOn Q5 H5 (by omega); have m4 := Joins.cell_of_block Q6.out.rd.blk 4; simp [hmv] at m4; have gl5 := Q6.out.rd.gl; have HW := hmap _ H5.mo; have HM6 : Hid (Mo w (w5.alloc (.cells #[] 126)) g) := (hMM.out.trans H5.mo).trans (Mo.alloc _ g _); have R6 := hid (Q6.out.stay (Joins.below_alloc1 w5 (.cells #[] 126))); have HW6 := hid (HW.out.alloc (.cells #[] 126)); have C7 := note64 R6 44 at_) | (at_lookup; refine wpList_lookup_own_unit _ rfl _ _ 74 rfl 9 126 key9 Tryz.underlying74 (zero126 _) mb nn D rfl HW.out _ _ rfl hkey ?_; rw [hst]) | (go_at_call 64; (with_reducible refine C7.mono ?_); rintro e w7 ⟨rfl, M7, R7⟩; have HM7 := hid (HM6.out.trans M7); have HR7 := hid R7; have m7 := Joins.cell_of_block R7.rd.blk 4; simp [hmv] at m7; have HW7 := map_mo HW6 M7 hmg; clear M7 R7) | (at_mapUpdate; refine wpList_mapUpdate_in _ rfl _ _ _ 74 rfl 9 126 key9 Tryz.underlying74 unitElem mb nn D rfl HW7.out (by unfold maxLen; omega) _ _ _ rfl rfl hkey (.agg []) [] unitElem_mk ?_; intro w8 hown8 hturn8))
        go_ret
        obtain ⟨q1, q2⟩ := name_end HM7.out HR7.out hturn8 hmg h4m htvm
        rw [hzk]
        exact ⟨rfl, q1, q2, hown8⟩
end Go.Proofs.YtenanfkmmkmolaaGreatDoor
/- HELPERS: a group's name, for a reader with all that it has. -/
namespace Go.Proofs.YtenanfkmmkmolaaGreatDoor
open Go.RowKit Go.Mx
set_option linter.unusedVariables false
set_option linter.unusedSimpArgs false
def EndN (N : Nat) (w w' : World) (g : Nat) (t : List Int) (S : St) (c : Cs) (ob cap : Nat) (c1 c2 : List Value) (G1 F1 : List Nat) (mb : Nat) (e : Ending) (at_ : Nat) : Except Nat (ByteArray × Nat) → Prop
  | .error k => e = Gave k ∧ Mo w w' g
  | .ok (nm, k) => e = .returned (.string nm) ∧ Fr w w' [g, mb] ∧ ∃ nn' D', RX N w' g t { S with pos := k, wr := noteIf (hasName S.names nm) S.wr 44 at_, names := S.names ++ [nm] } c ob cap c1 c2 G1 F1 mb nn' D'
theorem has_name {D : DataW Unit} {names : List ByteArray} (hD : Maps.IsMap D) (h : ∀ nm : ByteArray, Maps.has D (.string nm.data.toList) = hasName names nm) (x : ByteArray) : ∀ nm : ByteArray, Maps.has (D.put (.string x.data.toList) (.agg [])) (.string nm.data.toList) = hasName (names ++ [x]) nm := by
  intro nm
  have hn : hasName (names ++ [x]) nm = (hasName names nm || (nm.data.toList == x.data.toList)) := by
    unfold hasName
    rw [List.map_append, Bool.eq_iff_iff]
    simp
  rw [hn]
  by_cases e : nm.data.toList = x.data.toList
  · rw [e, Maps.has_put_same hD (by trivial)]
    simp
  · rw [Maps.has_put_other (by intro h'; injection h' with h'; exact e h'), h nm]
    have : (nm.data.toList == x.data.toList) = false := by rw [beq_eq_false_iff_ne]; exact e
    rw [this, Bool.or_false]
theorem groupName62_rx {N : Nat} {w : World} {g : Nat} {t : List Int} {S : St} {c : Cs} {ob cap : Nat} {c1 c2 : List Value} {G1 F1 : List Nat} {mb nn : Nat} {D : DataW Unit} (h : RX N w g t S c ob cap c1 c2 G1 F1 mb nn D) (at_ : Nat) :
    Calls Tryz.prog 62 #[.pointer (some ⟨g, 0, none⟩), .int .i64 (at_ : Int)] w fun e w' => EndN N w w' g t S c ob cap c1 c2 G1 F1 mb e at_ (nameP t S.pos) := by
  have hp := h.hp
  have hb5 := h.b5
  unfold nameP
  by_cases h0 : nx t S.pos = 60
  · rw [if_pos h0]
    by_cases h1 : 48 ≤ nx t (S.pos + 1) ∧ nx t (S.pos + 1) ≤ 57
    · rw [if_pos (.inl h1)]
      exact groupName62_digit (hid h.rw) at_ h0 h1
    · cases h2 : wordB (nx t (S.pos + 1)) with
      | false =>
        rw [if_pos (.inr rfl)]
        exact groupName62_word (hid h.rw) at_ h0 h1 h2
      | true =>
        rw [if_neg (by simp; omega)]
        by_cases h3 : nx t (nameGo t 32 (S.pos + 1)) = 62
        · rw [if_pos h3]
          refine (groupName62_ok (hid h.rw) at_ h0 h1 h2 rfl h3 h.mv (hid h.map) h.mg (by omega) (Nat.le_trans h.n4 h.nm) (fun b hb => (h.tv b hb).2.1) (h.nms (strOfNums ((t.drop (S.pos + 1)).take (nameGo t 32 (S.pos + 1) - (S.pos + 1)))))).mono ?_
          rintro e w' ⟨rfl, hF, hR, hM⟩
          have hmo := nameGo_mono t 32 (S.pos + 1)
          refine ⟨rfl, hF, _, _, h.gen (fun j h1 h2 h3 => hF.block j h1 (by simp; exact ⟨h2, h3⟩)) hR rfl rfl h.gv rfl hM (has_name h.map.isMap h.nms _) (by omega) ?_ ?_⟩
          · have := h.b4
            omega
          · omega
        · rw [if_neg h3]
          exact groupName62_gt (hid h.rw) at_ h0 h1 h2 rfl h3
  · rw [if_neg h0]
    exact groupName62_lt (hid h.rw) at_ h0
end Go.Proofs.YtenanfkmmkmolaaGreatDoor
/- HELPERS: a group's number. -/
namespace Go.Proofs.YtenanfkmmkmolaaGreatDoor
open Go.RowKit Go.Mx
set_option linter.unusedVariables false
set_option linter.unusedSimpArgs false
theorem RW.gvSet {w : World} {g : Nat} {t : List Int} {i : Nat} {c : Cs} {wr : Wr} (h : RW w g t i c wr) (v : Value) : Mo w (w.setCell ⟨g, 3, none⟩ v) g ∧ RW (w.setCell ⟨g, 3, none⟩ v) g t i { c with gv := v } wr := by
  have hm := Mo.set w g 3 v
  refine ⟨hm, ⟨⟨?_, h.rd.txt.mo hm, h.rd.le, h.rd.bd, h.rd.byt⟩, h.gl.below (hm.below (N := 4) h.hg h.gl.big) (by omega), h.hg⟩⟩
  exact Joins.block_setCell (i := 3) h.rd.blk v
set_option maxHeartbeats 1000000 in
theorem nextIndex61_many {w : World} {g : Nat} {t : List Int} {i : Nat} {c : Cs} {wr : Wr} (n : Nat) (R : Hid (RW w g t i c wr)) (hc : c.gv = .int .i64 (n : Int)) (hn : n ≤ 1000000) (at_ : Int) (h5 : n + 1 > 500) :
    Calls Tryz.prog 61 #[.pointer (some ⟨g, 0, none⟩), .int .i64 at_] w fun e w' => e = .returned (.int .i64 ((n + 1 : Nat) : Int)) ∧ Mo w w' g ∧ RW w' g t i { c with gv := .int .i64 ((n + 1 : Nat) : Int) } (note wr 46 at_) := by
  have c3 := Joins.cell_of_block R.out.rd.blk 3
  have f3 := Joins.unfrozen_of_block R.out.rd.blk 3
  simp [hc] at c3
  have S := R.out.gvSet (.int .i64 ((n + 1 : Nat) : Int))
  have H1 := hid S.1
  have R1 : Hid (RW (w.setCell ⟨g, 3, none⟩ (.int .i64 ((n : Int) + 1))) g t i { c with gv := .int .i64 ((n + 1 : Nat) : Int) } wr) := by have := hid S.2; push_cast at this ⊢; exact this
  have C1 := note64 R1 46 at_
  have w1 : IntKind.i64.wrap ((n : Int) + 1) = (n : Int) + 1 := i64_small _ (by omega) (by omega)
  have b1 : decide ((500 : Int) < (n : Int) + 1) = true := by simp; omega
  clear S
  go_enter Tryz.func61, Tryz.ntmps61
  go_wp2_with (go_at_call 64; (with_reducible refine C1.mono ?_); rintro e w2 ⟨rfl, M2, R2⟩; have d3 := Joins.cell_of_block R2.rd.blk 3; simp at d3; have HM2 := hid M2; have HR2 := hid R2; clear M2 R2)
  go_ret
  exact ⟨by push_cast; rfl, H1.out.trans HM2.out, HR2.out⟩
set_option maxHeartbeats 1000000 in
theorem nextIndex61_few {w : World} {g : Nat} {t : List Int} {i : Nat} {c : Cs} {wr : Wr} (n : Nat) (R : Hid (RW w g t i c wr)) (hc : c.gv = .int .i64 (n : Int)) (at_ : Int) (h5 : ¬ n + 1 > 500) :
    Calls Tryz.prog 61 #[.pointer (some ⟨g, 0, none⟩), .int .i64 at_] w fun e w' => e = .returned (.int .i64 ((n + 1 : Nat) : Int)) ∧ Mo w w' g ∧ RW w' g t i { c with gv := .int .i64 ((n + 1 : Nat) : Int) } wr := by
  have c3 := Joins.cell_of_block R.out.rd.blk 3
  have f3 := Joins.unfrozen_of_block R.out.rd.blk 3
  simp [hc] at c3
  have S := R.out.gvSet (.int .i64 ((n + 1 : Nat) : Int))
  have H1 := hid S.1
  have R1 := hid S.2
  have d3 := Joins.cell_of_block S.2.rd.blk 3
  simp at d3
  have w1 : IntKind.i64.wrap ((n : Int) + 1) = (n : Int) + 1 := i64_small _ (by omega) (by omega)
  have b1 : decide ((500 : Int) < (n : Int) + 1) = false := by simp; omega
  clear S
  go_enter Tryz.func61, Tryz.ntmps61
  go_wp2
  go_ret
  exact ⟨by push_cast; rfl, H1.out, R1.out⟩
theorem nextIndex61 {w : World} {g : Nat} {t : List Int} {i : Nat} {c : Cs} {wr : Wr} (n : Nat) (R : Hid (RW w g t i c wr)) (hc : c.gv = .int .i64 (n : Int)) (hn : n ≤ 1000000) (at_ : Nat) :
    Calls Tryz.prog 61 #[.pointer (some ⟨g, 0, none⟩), .int .i64 (at_ : Int)] w fun e w' => e = .returned (.int .i64 ((n + 1 : Nat) : Int)) ∧ Mo w w' g ∧ RW w' g t i { c with gv := .int .i64 ((n + 1 : Nat) : Int) } (noteIf (decide (n + 1 > 500)) wr 46 at_) := by
  by_cases h : n + 1 > 500
  · simp only [noteIf, h, decide_true, if_true]
    exact nextIndex61_many n R hc hn at_ h
  · simp only [noteIf, h, decide_false, if_false]
    exact nextIndex61_few n R hc at_ h
end Go.Proofs.YtenanfkmmkmolaaGreatDoor
/- HELPERS: what stands while a group begins. -/
namespace Go.Proofs.YtenanfkmmkmolaaGreatDoor
open Go.RowKit Go.Mx
set_option linter.unusedVariables false
set_option linter.unusedSimpArgs false
theorem Rd.heap {w U : World} {g : Nat} {t : List Int} {i : Nat} {tv ov gv mv xv : Value} (h : Rd w g t i tv ov gv mv xv) (hU : U.heap = w.heap ∨ ∃ o, U.heap = w.heap.push o) : Rd U g t i tv ov gv mv xv := by
  have hk : ∀ k, k < w.heap.size → U.heap[k]? = w.heap[k]? := by
    intro k hk
    rcases hU with hU | ⟨o, hU⟩
    · rw [hU]
    · rw [hU, Array.getElem?_push, if_neg (by omega)]
  refine ⟨(hk g h.gl).trans h.blk, ?_, h.le, h.bd, h.byt⟩
  obtain ⟨ad, cap, h1, h2, h3, h4⟩ := h.txt
  refine ⟨ad, cap, h1, h2, h3, fun j hj => ?_⟩
  obtain ⟨b, e1, e2, e3⟩ := h4 j hj
  refine ⟨b, e1, e2, ?_⟩
  rw [← e3]
  unfold World.cell?
  rw [hk b (cell_lt e3)]
/-- top in whatever world that is this one but for draws and a new block -/
theorem top41_h {g : Nat} {t : List Int} {i : Nat} {c : Cs} {w : World} (R : Hid (RdC w g t i c)) (ob n cap : Nat) (hov : c.ov = .slice (some ⟨ob, 0, none⟩) (n + 1) cap) (hc : n + 1 ≤ cap) (hn : n ≤ 65600) (U : World) (hU : U.heap = w.heap ∨ ∃ o, U.heap = w.heap.push o) :
    Calls Tryz.prog 41 #[.pointer (some ⟨g, 0, none⟩)] U fun e w' => e = .returned (.pointer (some ⟨ob, n * 6, none⟩)) ∧ ∃ m, w' = U.drewN m :=
  (top41 (hid (R.out.heap hU)) ob n cap hov hc hn).mono fun e w' ⟨h1, m, h2⟩ => ⟨h1, m, by rw [h2, mv_stay (R.out.heap hU)]⟩
/-- a level's box behind what was there -/
structure Boxed (W wx : World) (C : Array Value) : Prop where
  below : Below W.heap.size W wx
  blk : wx.heap[W.heap.size]? = some (.cells C 85 (0, 0))
  size : wx.heap.size = W.heap.size + 1
theorem boxed_new {W U : World} (C : Array Value) (h : U.heap = W.heap) (h1 : U.os = W.os) (h2 : U.tape = W.tape) (h3 : U.output = W.output) : Boxed W (U.alloc (.cells C 85)) C := by
  refine ⟨⟨h1, h2, h3, by simp [h], fun k hk => ?_⟩, ?_, by simp [h]⟩
  · rw [heap_alloc_old U _ (by rw [h]; exact hk), h]
  · have := heap_alloc_new U (.cells C 85)
    rw [h] at this
    exact this
theorem boxed_drew {W U : World} {C : Array Value} (h : Boxed W U C) (q : Nat) : Boxed W (U.drewN q) C := ⟨⟨h.below.os, h.below.tape, h.below.output, h.below.size, h.below.block⟩, h.blk, h.size⟩
theorem boxed_set {W U : World} {b : Nat} (z0 z1 z2 z3 z4 z5 a0 a1 a2 a3 a4 a5 : Value) (h : Boxed W U #[z0, z1, z2, z3, z4, z5]) (hb : b = W.heap.size) : Boxed W ((((((U.setCell ⟨b, 0, none⟩ a0).setCell ⟨b, 1, none⟩ a1).setCell ⟨b, 2, none⟩ a2).setCell ⟨b, 3, none⟩ a3).setCell ⟨b, 4, none⟩ a4).setCell ⟨b, 5, none⟩ a5) #[a0, a1, a2, a3, a4, a5] := by
  subst hb
  refine ⟨⟨by simp only [oset]; exact h.below.os, by simp only [tset]; exact h.below.tape, by simp only [uset]; exact h.below.output, by simp only [zset]; exact h.below.size, fun k hk => ?_⟩, ?_, by simp only [zset]; exact h.size⟩
  · simp only [hset _ _ _ _ k (Nat.ne_of_lt hk)]
    exact h.below.block k hk
  · have b0 := h.blk
    have b1 : (U.setCell ⟨W.heap.size, 0, none⟩ a0).heap[W.heap.size]? = some (.cells #[a0, z1, z2, z3, z4, z5] 85 (0, 0)) := Joins.block_setCell (i := 0) b0 a0
    have b2 : ((U.setCell ⟨W.heap.size, 0, none⟩ a0).setCell ⟨W.heap.size, 1, none⟩ a1).heap[W.heap.size]? = some (.cells #[a0, a1, z2, z3, z4, z5] 85 (0, 0)) := Joins.block_setCell (i := 1) b1 a1
    have b3 : (((U.setCell ⟨W.heap.size, 0, none⟩ a0).setCell ⟨W.heap.size, 1, none⟩ a1).setCell ⟨W.heap.size, 2, none⟩ a2).heap[W.heap.size]? = some (.cells #[a0, a1, a2, z3, z4, z5] 85 (0, 0)) := Joins.block_setCell (i := 2) b2 a2
    have b4 : ((((U.setCell ⟨W.heap.size, 0, none⟩ a0).setCell ⟨W.heap.size, 1, none⟩ a1).setCell ⟨W.heap.size, 2, none⟩ a2).setCell ⟨W.heap.size, 3, none⟩ a3).heap[W.heap.size]? = some (.cells #[a0, a1, a2, a3, z4, z5] 85 (0, 0)) := Joins.block_setCell (i := 3) b3 a3
    have b5 : (((((U.setCell ⟨W.heap.size, 0, none⟩ a0).setCell ⟨W.heap.size, 1, none⟩ a1).setCell ⟨W.heap.size, 2, none⟩ a2).setCell ⟨W.heap.size, 3, none⟩ a3).setCell ⟨W.heap.size, 4, none⟩ a4).heap[W.heap.size]? = some (.cells #[a0, a1, a2, a3, a4, z5] 85 (0, 0)) := Joins.block_setCell (i := 4) b4 a4
    have b6 : ((((((U.setCell ⟨W.heap.size, 0, none⟩ a0).setCell ⟨W.heap.size, 1, none⟩ a1).setCell ⟨W.heap.size, 2, none⟩ a2).setCell ⟨W.heap.size, 3, none⟩ a3).setCell ⟨W.heap.size, 4, none⟩ a4).setCell ⟨W.heap.size, 5, none⟩ a5).heap[W.heap.size]? = some (.cells #[a0, a1, a2, a3, a4, a5] 85 (0, 0)) := Joins.block_setCell (i := 5) b5 a5
    exact b6
theorem box_A (W : World) (q : Nat) (C : Array Value) : Hid (Boxed W ((W.drewN q).alloc (.cells C 85)) C) := hid (boxed_new C rfl rfl rfl rfl)
theorem box_B (W : World) (q m b : Nat) (a0 a1 a2 a3 a4 a5 : Value) (hb : b = W.heap.size) : Hid (Boxed W (((((((((W.drewN q).alloc (.cells #[.slice none 0 0, .slice none 0 0, .bool false, .bool false, .int .i64 0, .string ⟨#[]⟩] 85)).drewN m).setCell ⟨b, 0, none⟩ a0).setCell ⟨b, 1, none⟩ a1).setCell ⟨b, 2, none⟩ a2).setCell ⟨b, 3, none⟩ a3).setCell ⟨b, 4, none⟩ a4).setCell ⟨b, 5, none⟩ a5) #[a0, a1, a2, a3, a4, a5]) :=
  hid (boxed_set _ _ _ _ _ _ a0 a1 a2 a3 a4 a5 (boxed_drew (boxed_new (W := W) (U := W.drewN q) _ rfl rfl rfl rfl) m) hb)
theorem box_C (W : World) (m b : Nat) (a0 a1 a2 a3 a4 a5 : Value) (hb : b = W.heap.size) : Hid (Boxed W ((((((((W.alloc (.cells #[.slice none 0 0, .slice none 0 0, .bool false, .bool false, .int .i64 0, .string ⟨#[]⟩] 85)).drewN m).setCell ⟨b, 0, none⟩ a0).setCell ⟨b, 1, none⟩ a1).setCell ⟨b, 2, none⟩ a2).setCell ⟨b, 3, none⟩ a3).setCell ⟨b, 4, none⟩ a4).setCell ⟨b, 5, none⟩ a5) #[a0, a1, a2, a3, a4, a5]) :=
  hid (boxed_set _ _ _ _ _ _ a0 a1 a2 a3 a4 a5 (boxed_drew (boxed_new _ rfl rfl rfl rfl) m) hb)
/-- a group begins: what stands in world wx, seen from the world w in which the call was made -/
structure Bgn (w wx : World) (g : Nat) (t : List Int) (mb k : Nat) (c : Cs) (wr : Wr) (nn : Nat) (D : DataW Unit) (C : Array Value) : Prop where
  fr : ∀ j, j < w.heap.size → j ≠ g → j ≠ mb → wx.heap[j]? = w.heap[j]?
  os : wx.os = w.os
  tape : wx.tape = w.tape
  output : wx.output = w.output
  size : w.heap.size < wx.heap.size
  blk : wx.heap[w.heap.size]? = some (.cells C 85 (0, 0))
  rw : RW wx g t k c wr
  map : wx.ownsMap Tryz.prog 9 unitElem mb nn D
section
variable {w wx : World} {g : Nat} {t : List Int} {mb k : Nat} {c : Cs} {wr : Wr} {nn : Nat} {D : DataW Unit} {C : Array Value}
theorem Bgn.go (h : Bgn w wx g t mb k c wr nn D C) {wy : World} {k2 : Nat} {c2 : Cs} {wr2 : Wr} (hm : Mo wx wy g) (hg : g < w.heap.size) (hmg : mb ≠ g) (hr : RW wy g t k2 c2 wr2) : Bgn w wy g t mb k2 c2 wr2 nn D C :=
  ⟨fun j h1 h2 h3 => (hm.block j (Nat.lt_trans h1 h.size) h2).trans (h.fr j h1 h2 h3), hm.os.trans h.os, hm.tape.trans h.tape, hm.output.trans h.output, Nat.lt_of_lt_of_le h.size hm.size, (hm.block _ h.size (by omega)).trans h.blk, hr, map_kept h.map (hm.block mb (map_lt h.map) hmg)⟩
theorem Bgn.set (h : Bgn w wx g t mb k c wr nn D C) (hg : g < w.heap.size) (hm : mb < w.heap.size) (htv : ∀ b, c.tv.ownBlock = some b → b < w.heap.size) (h4 : 4 ≤ w.heap.size) (o : Nat) (v : Value) : Bgn w (wx.setCell ⟨w.heap.size, o, none⟩ v) g t mb k c wr nn D (C.setIfInBounds o v) := by
  have hf : Fr wx (wx.setCell ⟨w.heap.size, o, none⟩ v) [w.heap.size] := Fr.set wx _ _ _ (by simp)
  refine ⟨fun j h1 h2 h3 => (hf.block j (Nat.lt_trans h1 h.size) (by simp; omega)).trans (h.fr j h1 h2 h3), hf.os.trans h.os, hf.tape.trans h.tape, hf.output.trans h.output, by simp only [zset]; exact h.size, Joins.block_setCell (i := o) h.blk v, h.rw.fr hf (by simp; omega) (fun b hb => by have := htv b hb; simp; omega) (fun k hk => by simp at hk; omega), map_kept h.map (hf.block mb (map_lt h.map) (by simp; omega))⟩
end
/-- a name was taken -/
theorem Bgn.named {w wx wy : World} {g : Nat} {t : List Int} {mb k : Nat} {c : Cs} {wr : Wr} {nn : Nat} {D : DataW Unit} {C : Array Value} (h : Bgn w wx g t mb k c wr nn D C) {k2 : Nat} {c2 : Cs} {wr2 : Wr} {nn2 : Nat} {D2 : DataW Unit} (hf : Fr wx wy [g, mb]) (hg : g < w.heap.size) (hm : mb < w.heap.size) (hr : RW wy g t k2 c2 wr2) (hmap : wy.ownsMap Tryz.prog 9 unitElem mb nn2 D2) : Bgn w wy g t mb k2 c2 wr2 nn2 D2 C :=
  ⟨fun j h1 h2 h3 => (hf.block j (Nat.lt_trans h1 h.size) (by simp; exact ⟨h2, h3⟩)).trans (h.fr j h1 h2 h3), hf.os.trans h.os, hf.tape.trans h.tape, hf.output.trans h.output, Nat.lt_of_lt_of_le h.size hf.size, (hf.block _ h.size (by simp; omega)).trans h.blk, hr, hmap⟩
/-- behind the region that makes the level -/
theorem bgn_start {N : Nat} {w wc : World} {g : Nat} {t : List Int} {S : St} {c : Cs} {ob cap : Nat} {c1 c2 : List Value} {G1 F1 : List Nat} {mb nn : Nat} {D : DataW Unit} (h : RX N w g t S c ob cap c1 c2 G1 F1 mb nn D) {i : Nat} (hi : S.pos = i) (hlt : i < t.length) {C : Array Value} (HB : Boxed (w.setCell ⟨g, 1, none⟩ (.int .i64 ((i : Int) + 1))) wc C) : Bgn w wc g t mb (i + 1) c S.wr nn D C := by
  have hz : (w.setCell ⟨g, 1, none⟩ (.int .i64 ((i : Int) + 1))).heap.size = w.heap.size := zset _ _ _
  have hb := HB.below
  have hblk := HB.blk
  rw [hz] at hb hblk
  have R1 : RW (w.setCell ⟨g, 1, none⟩ (.int .i64 ((i : Int) + 1))) g t (i + 1) c S.wr := by
    have := (atSet (k := i + 1) (hid h.rw) (by omega)).out
    push_cast at this
    exact this
  have hk : ∀ j, j < w.heap.size → j ≠ g → wc.heap[j]? = w.heap[j]? := fun j h1 h2 => (hb.block j h1).trans (hset _ _ _ _ j h2)
  refine ⟨fun j h1 h2 _ => hk j h1 h2, hb.os, hb.tape, hb.output, by have := HB.size; omega, hblk, R1.stay (by rw [hz]; exact hb), map_kept h.map (hk mb (map_lt h.map) h.mg)⟩
/-- as a reader -/
theorem Bgn.rx {N : Nat} {w wx : World} {g : Nat} {t : List Int} {S : St} {c c' : Cs} {ob cap : Nat} {c1 c2 : List Value} {G1 F1 : List Nat} {mb nn : Nat} {D : DataW Unit} (h : RX N w g t S c ob cap c1 c2 G1 F1 mb nn D) {k gr nn' : Nat} {wr : Wr} {nms : List ByteArray} {D' : DataW Unit} {C : Array Value} (B : Bgn w wx g t mb k c' wr nn' D' C) (htv : c'.tv = c.tv) (hov : c'.ov = c.ov) (hgv : c'.gv = .int .i64 (gr : Int)) (hmv : c'.mv = c.mv) (hnms : ∀ nm : ByteArray, Maps.has D' (.string nm.data.toList) = hasName nms nm) (hk : S.pos ≤ k) (hgr : gr ≤ k) (hnn : nn' ≤ k) :
    RX N wx g t { S with pos := k, wr := wr, groups := gr, names := nms } c' ob cap c1 c2 G1 F1 mb nn' D' := h.gen B.fr B.rw htv hov hgv hmv B.map hnms hk hgr hnn
/-- the level that begins, in its box; the reader as it stands when it is opened -/
def Ready (N : Nat) (w : World) (g : Nat) (t : List Int) (S : St) (ob cap : Nat) (c1 c2 : List Value) (G1 F1 : List Nat) (mb : Nat) (wx : World) : Prop :=
  ∃ (k gr nn' : Nat) (l : Lev) (wr1 : Wr) (nms : List ByteArray) (c' : Cs) (D' : DataW Unit), begins t S = .ok { opened S S.pos k l wr1 with groups := gr, names := nms } ∧ l.cats = [] ∧ l.reps = [] ∧ S.pos < k ∧
    RX N wx g t { S with pos := k, wr := wr1, groups := gr, names := nms } c' ob cap c1 c2 G1 F1 mb nn' D' ∧ wx.heap[w.heap.size]? = some (.cells #[.slice none 0 0, .slice none 0 0, .bool l.fold, .bool l.all, .int .i64 l.index, .string l.name] 85 (0, 0)) ∧ Below N w wx ∧ ∀ j, j < w.heap.size → j ≠ g → j ≠ mb → wx.heap[j]? = w.heap[j]?
theorem RX.flags {N : Nat} {w : World} {g : Nat} {t : List Int} {S : St} {c : Cs} {ob cap : Nat} {c1 c2 : List Value} {G1 F1 : List Nat} {mb nn : Nat} {D : DataW Unit} (h : RX N w g t S c ob cap c1 c2 G1 F1 mb nn D) : w.cell? ⟨ob, S.low.length * 6 + 2, none⟩ = some (.bool S.top.fold) ∧ w.cell? ⟨ob, S.low.length * 6 + 3, none⟩ = some (.bool S.top.all) ∧ S.low.length + 1 ≤ cap := by
  obtain ⟨cv, rv, cc, rc, Fc, Fr', e, _⟩ := h.top
  obtain ⟨cur, hc⟩ := row_some h.row
  have hb := row_blk h.row hc
  have a2 := h.topAt hc 2 (by decide)
  have a3 := h.topAt hc 3 (by decide)
  rw [e] at a2 a3
  exact ⟨(Joins.cell_of_block hc _).trans a2, (Joins.cell_of_block hc _).trans a3, hb.2.1⟩
theorem Bgn.below {N : Nat} {w wx : World} {g : Nat} {t : List Int} {mb k : Nat} {c : Cs} {wr : Wr} {nn : Nat} {D : DataW Unit} {C : Array Value} (h : Bgn w wx g t mb k c wr nn D C) (h1 : N ≤ g) (h2 : N ≤ mb) (h3 : N ≤ w.heap.size) : Below N w wx := ⟨h.os, h.tape, h.output, Nat.le_of_lt h.size, fun j hj => h.fr j (by omega) (by omega) (by omega)⟩
end Go.Proofs.YtenanfkmmkmolaaGreatDoor
